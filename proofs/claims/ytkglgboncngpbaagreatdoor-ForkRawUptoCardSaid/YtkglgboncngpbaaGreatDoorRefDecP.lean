import Derived.Test.YtkglgboncngpbaaGreatDoorPackAN
/- The walk of the reference's Decode. -/
namespace Go.Proofs.YtkglgboncngpbaaGreatDoor
open Go.RowKit
def notU8 : Value → Bool
  | .int .u8 _ => false
  | _ => true
/-- Bytes do not lie in a block without bytes. -/
theorem row_u8 {w : World} {p : Nat} {A : Option Addr} {n c : Nat} {us : List UInt8} {row : Array Value} {t : TypeId} {fr : Nat × Nat} (h : BRow w A n c us) (hp : w.heap[p]? = some (.cells row t fr)) (hno : row.toList.all notU8 = true) :
    ∀ ad, A = some ad → 0 < n → ad.block ≠ p := fun ad hA h0 he => by
  obtain ⟨b, off, hA', hc⟩ := Row.form h h0
  rw [hA] at hA'; injection hA' with e; subst e
  simp only at he
  subst he
  have h1 := hc 0 (by omega)
  rw [cell_of_row _ _ _ _ _ _ hp, bytesV_get _ _ (by rw [h.len]; exact h0)] at h1
  rw [List.all_eq_true] at hno
  have := hno _ (Array.mem_toList_iff.2 (Array.mem_of_getElem? h1))
  cases this
/-- How far Decode is: the result, the statement that is made, the reader. -/
structure DS (w y : World) (row : Array Value) (us : List UInt8) (ok : Bool) : Prop where
  hq : y.heap[w.heap.size]? = some (.cells zeroA 27 (0, 0))
  hp : y.heap[w.heap.size + 2]? = some (.cells row 27 (0, 0))
  rd : RRd y (w.heap.size + 1) us ok
  hb : Below w.heap.size w y
  lp : w.heap.size + 2 < y.heap.size
theorem DS.read {w y y' : World} {row : Array Value} {us rest : List UInt8} {ok ok' : Bool} {v : Value} {e : Ending} (h : DS w y row us ok) (r : RReads (w.heap.size + 1) y v rest ok' e y') : DS w y' row rest ok' := by
  obtain ⟨A, m, c, _, h1, h2, _, h4⟩ := r
  have := h.lp
  exact ⟨(h4.block _ (by omega) (by omega)).trans h.hq, (h4.block _ (by omega) (by omega)).trans h.hp, ⟨A, m, c, h1, h2⟩, h.hb.trans (h4.below (by omega) h.hb.size), Nat.lt_of_lt_of_le h.lp h4.size⟩
theorem DS.setp {w y : World} {row : Array Value} {us : List UInt8} {ok : Bool} (h : DS w y row us ok) (hno : row.toList.all notU8 = true) (o : Nat) (v : Value) : DS w (y.setCell ⟨w.heap.size + 2, o, none⟩ v) (row.setIfInBounds o v) us ok := by
  obtain ⟨A, n, c, h1, h2⟩ := h.rd
  exact ⟨(Below.heap_setCell _ _ _ _ (by show w.heap.size ≠ w.heap.size + 2; omega)).trans h.hq, heap_setCell_same _ _ _ _ _ _ h.hp,
    ⟨A, n, c, (Below.heap_setCell _ _ _ _ (by show w.heap.size + 1 ≠ w.heap.size + 2; omega)).trans h1, Row.but h2 (But.set _ _ _) (row_u8 h2 h.hp hno)⟩, h.hb.setCell (p := ⟨w.heap.size + 2, o, none⟩) (by show w.heap.size ≤ w.heap.size + 2; omega) _, by rw [World.size_setCell]; exact h.lp⟩
theorem DS.later {w y y' : World} {row : Array Value} {us : List UInt8} {ok : Bool} (h : DS w y row us ok) (hb : Below y.heap.size y y') : DS w y' row us ok := by
  have := h.lp
  exact ⟨(hb.block _ (by omega)).trans h.hq, (hb.block _ (by omega)).trans h.hp, h.rd.later hb, h.hb.trans (hb.mono h.hb.size), Nat.lt_of_lt_of_le h.lp hb.size⟩
theorem DS.setrd {w y : World} {row : Array Value} {us us' : List UInt8} {ok : Bool} {A : Option Addr} {n c : Nat} (h : DS w y row us ok) (hr : BRow y A n c us') (b : Bool) :
    DS w ((y.setCell ⟨w.heap.size + 1, 0, none⟩ (.slice A n c)).setCell ⟨w.heap.size + 1, 1, none⟩ (.bool b)) row us' b := by
  obtain ⟨A0, n0, c0, h1, h2⟩ := h.rd
  have hne : ∀ k, k ≠ w.heap.size + 1 → ((y.setCell ⟨w.heap.size + 1, 0, none⟩ (.slice A n c)).setCell ⟨w.heap.size + 1, 1, none⟩ (.bool b)).heap[k]? = y.heap[k]? := fun k hk => (Below.heap_setCell _ _ _ _ hk).trans (Below.heap_setCell _ _ _ _ hk)
  exact ⟨(hne _ (by omega)).trans h.hq, (hne _ (by omega)).trans h.hp, ⟨A, n, c, heap_setCell_same _ _ _ _ _ _ (heap_setCell_same _ _ _ _ _ _ h1), Row.keep hr fun ad hA h0 _ => hne _ (row_u8 hr h1 rfl ad hA h0)⟩,
    (h.hb.setCell (p := ⟨w.heap.size + 1, 0, none⟩) (by show w.heap.size ≤ w.heap.size + 1; omega) _).setCell (p := ⟨w.heap.size + 1, 1, none⟩) (by show w.heap.size ≤ w.heap.size + 1; omega) _, by rw [World.size_setCell, World.size_setCell]; exact h.lp⟩
theorem list_keep {w y : World} {A : Option Addr} {n c : Nat} {l : List Int} (h : IRow y A n c l) (hn : ∀ ad, A = some ad → w.heap.size + 2 < ad.block) {v1 v2 v3 : Value} :
    IRow (((y.setCell ⟨w.heap.size + 2, 8, none⟩ v1).setCell ⟨w.heap.size + 1, 0, none⟩ v2).setCell ⟨w.heap.size + 1, 1, none⟩ v3) A n c l :=
  Row.keep h fun ad hA _ _ => by
    have := hn ad hA
    exact (Below.heap_setCell _ _ _ _ (by show ad.block ≠ w.heap.size + 1; omega)).trans ((Below.heap_setCell _ _ _ _ (by show ad.block ≠ w.heap.size + 1; omega)).trans (Below.heap_setCell _ _ _ _ (by show ad.block ≠ w.heap.size + 2; omega)))
theorem own_prow {w : World} {B0 : Nat} {B : Option Addr} {j k : Nat} {l : List PinD} (h : POwn w B0 (.slice B j k) l) : PRow w B j k l := by
  obtain ⟨A, c, hv, hr⟩ := Row.of_own h
  injection hv with h1 h2 h3
  subst h1; subst h2; subst h3; exact hr
theorem DS.grown {w y y' : World} {row : Array Value} {us : List UInt8} {ok : Bool} {A : Option Addr} {n c : Nat} {v : Value} (h : DS w y row us ok) (hD : y.heap[w.heap.size + 1]? = some (.cells #[.slice A n c, .bool ok] 117 (0, 0))) (hr : BRow y A n c us)
    (hb : Below (w.heap.size + 3) y y') (hk : ∀ k, k < y.heap.size → v.ownBlock ≠ some k → y'.heap[k]? = y.heap[k]?) (ha : ∀ ad, A = some ad → v.ownBlock ≠ some ad.block) : DS w y' row us ok :=
  ⟨(hb.block _ (by omega)).trans h.hq, (hb.block _ (by omega)).trans h.hp, ⟨A, n, c, (hb.block _ (by omega)).trans hD, Row.keep hr fun ad hA _ hlt => hk _ hlt (ha ad hA)⟩, h.hb.trans (hb.mono (by omega)), Nat.lt_of_lt_of_le h.lp hb.size⟩
theorem takeI_bd (us : List UInt8) : (takeI us).1 ≤ 9223372036854775807 := by
  unfold takeI; split
  · exact (int8_bd _).2
  · show (0 : Int) ≤ _; omega
section
variable {P : Program} {ops : Array Oper} {a : Act} {o : Oper} {rest : List Oper} {Q : Exit → Act → World → Prop}
/-- append, what it leaves alone, and where the new slice lies. -/
theorem wpList_app2 (w : World) (hgd : o.guard = none) (s x : Operand) (t tx e : TypeId) (ho : o.op = .call { callee := .builtin .append, args := #[s, x], argTypes := #[t, tx] })
    (base : Nat) (ht : P.underlying t = some (.slice e)) {z : Value} {size bytes : Nat} (hi : (P.info? e).map (fun i => (i.zero, i.size, i.bytes)) = some (some z, size, bytes)) (hzs : z.cells.size = size)
    (v : Value) (n : Nat) (xs : List Value) (hown : w.ownsRow base e size v n xs) (hs : a.eval s = v) (X : Value) (m : Nat) (news : List Value) (hsrc : Src P size tx X m news w) (hx : a.eval x = X)
    (h63 : n + m ≤ maxLen) (hbytes : (n + m) * bytes ≤ 140737488355328) (hbase : base ≤ w.heap.size)
    (h : ∀ v' w', w'.ownsRow base e size v' (n + m) (xs ++ news) → Below base w w' → (∀ k, k < w.heap.size → v.ownBlock ≠ some k → w'.heap[k]? = w.heap[k]?) → (v'.ownBlock = v.ownBlock ∨ ∃ k, w.heap.size ≤ k ∧ v'.ownBlock = some k) → wpList P ops Q rest (a.put o.dst v') w') : wpList P ops Q (o :: rest) a w := by
  obtain ⟨i0, hi0, hz0, hz1, hz2⟩ := info_parts hi
  obtain ⟨v', w', hr, h2, h3, h4⟩ := run_app w base t tx o.type e i0 z size bytes ht hi0 hz0 hz1 hz2 hzs v n xs hown X m news hsrc h63 hbytes hbase
  refine wpList_plain hgd fun K hK => ?_
  unfold Oper.wp execOp
  simp only [ho, resolve, invoke, builtin, Sem.run_bind, Sem.run_pure, Result.andThen_ok, List.map_toArray, List.map_cons, List.map_nil, hs, hx, hr]
  exact hK _ _ (h v' w' h2 ((Below.refl base w).grown h3 hbase (fun k hk => (World.ownsRow.lt hown k hk).1)) (fun k hk hne => h3.block k hk (fun e => hne e.symm)) (h4.imp id fun e => ⟨_, Nat.le_refl _, e⟩))
end
theorem DS.cells {w y : World} {row : Array Value} {us : List UInt8} {ok : Bool} (h : DS w y row us ok) (i : Nat) : y.cell? ⟨w.heap.size + 2, i, none⟩ = row[i]? := cell_of_row _ _ _ _ _ _ h.hp
theorem DS.froz {w y : World} {row : Array Value} {us : List UInt8} {ok : Bool} (h : DS w y row us ok) (i : Nat) : y.frozen? ⟨w.heap.size + 2, i, none⟩ = false := frozen_of_row _ _ _ _ _ h.hp
theorem results_rdec {tmps : Array Value} {w : World} {s : Nat} {cs : Array Value} {v : Value} (h2 : tmps.getD 2 undef = .pointer (some ⟨s, 0, none⟩)) (h3 : tmps.getD 3 undef = v)
    (hs : w.heap[s]? = some (.cells cs 27 (0, 0))) (hz : cs.size = 13) :
    (results Tryz.f64 tmps).run Tryz.prog w = .ok (.tuple #[.agg cs, v]) w := by
  have hr : Tryz.f64.results = #[.cell 2 27, .tmp 3] := rfl
  have h2' : tmps[2]?.getD undef = .pointer (some ⟨s, 0, none⟩) := by simpa using h2
  have h3' : tmps[3]?.getD undef = v := by simpa using h3
  have hl := run_loadVar_row (P := Tryz.prog) w s 27 27 cs (0, 0) _ hs Tryz.underlying27 rfl (by rw [hz]; kernel_rfl)
  unfold results
  rw [hr]
  simp [h2', h3', asAddr, hl]
set_option maxRecDepth 100000 in
set_option maxHeartbeats 8000000 in
theorem refDecode_new (A : Option Addr) (n c : Nat) (us : List UInt8) (w : World) (hr : BRow w A n c us) (hn : n ≤ 900000) :
    Calls Tryz.prog 64 #[.slice A n c] w (DecN w (decS us) (decE us)) := by
  have hu : us.length ≤ 900000 := by rw [hr.len]; exact hn
  have HDS : Hid (decS us = if decOk us = true then readS us else zeroS) := Lib.hid rfl
  have HDE : Hid (decE us = if decOk us = true then 0 else 1) := Lib.hid rfl
  obtain ⟨X0, hX0⟩ : ∃ X, X = takeI us := ⟨_, rfl⟩
  obtain ⟨X1, hX1⟩ : ∃ X, X = takeI X0.2.1 := ⟨_, rfl⟩
  obtain ⟨X2, hX2⟩ : ∃ X, X = takeS X1.2.1 32 := ⟨_, rfl⟩
  obtain ⟨X3, hX3⟩ : ∃ X, X = takeI X2.2.1 := ⟨_, rfl⟩
  obtain ⟨X4, hX4⟩ : ∃ X, X = takeI X3.2.1 := ⟨_, rfl⟩
  obtain ⟨X5, hX5⟩ : ∃ X, X = takeI X4.2.1 := ⟨_, rfl⟩
  obtain ⟨X6, hX6⟩ : ∃ X, X = takeI X5.2.1 := ⟨_, rfl⟩
  obtain ⟨X7, hX7⟩ : ∃ X, X = takeI X6.2.1 := ⟨_, rfl⟩
  obtain ⟨X8, hX8⟩ : ∃ X, X = takeL X7.2.1 64 := ⟨_, rfl⟩
  obtain ⟨Y, hY⟩ : ∃ Y, Y = takeI X8.2.1 := ⟨_, rfl⟩
  have HSP : Hid (∀ (PL : List PinD × List UInt8 × Bool) (Xb : ByteArray × List UInt8 × Bool) (Xk : Int × List UInt8 × Bool) (Xd : ByteArray × List UInt8 × Bool) (j : Nat) (okF : Bool), PL = pinsL j Y.2.1 → Xb = takeS PL.2.1 4096 → Xk = takeI Xb.2.1 → Xd = takeS Xk.2.1 32 →
      okF = (X0.2.2 && X1.2.2 && X2.2.2 && X3.2.2 && X4.2.2 && X5.2.2 && X6.2.2 && X7.2.2 && X8.2.2 && Y.2.2 && PL.2.2 && Xb.2.2 && Xk.2.2 && Xd.2.2) → j ≤ Y.1.toNat → j ≤ 64 → (j = Y.1.toNat ∨ (X0.2.2 && X1.2.2 && X2.2.2 && X3.2.2 && X4.2.2 && X5.2.2 && X6.2.2 && X7.2.2 && X8.2.2 && Y.2.2 && PL.2.2) = false) → _) := Lib.hid fun PL Xb Xk Xd j okF a1 a2 a3 a4 a5 a6 a7 a8 => dec_spec hX0 hX1 hX2 hX3 hX4 hX5 hX6 hX7 hX8 hY a1 a2 a3 a4 a5 a6 a7 a8
  have hl0 : X0.2.1.length ≤ 900000 := by rw [hX0]; exact Nat.le_trans (takeI_le us) hu
  have N0 := Lib.hid (fun ok y h => refRdInt (w.heap.size + 1) us ok y h hu)
  rw [← hX0] at N0
  have hl1 : X1.2.1.length ≤ 900000 := by rw [hX1]; exact Nat.le_trans (takeI_le X0.2.1) hl0
  have N1 := Lib.hid (fun ok y h => refRdInt (w.heap.size + 1) X0.2.1 ok y h hl0)
  rw [← hX1] at N1
  have hl2 : X2.2.1.length ≤ 900000 := by rw [hX2]; exact Nat.le_trans (takeS_le X1.2.1 32) hl1
  have N2 := Lib.hid (fun ok y h => refRdText (w.heap.size + 1) X1.2.1 ok 32 y h hl1)
  rw [← hX2] at N2
  have hl3 : X3.2.1.length ≤ 900000 := by rw [hX3]; exact Nat.le_trans (takeI_le X2.2.1) hl2
  have N3 := Lib.hid (fun ok y h => refRdInt (w.heap.size + 1) X2.2.1 ok y h hl2)
  rw [← hX3] at N3
  have hl4 : X4.2.1.length ≤ 900000 := by rw [hX4]; exact Nat.le_trans (takeI_le X3.2.1) hl3
  have N4 := Lib.hid (fun ok y h => refRdInt (w.heap.size + 1) X3.2.1 ok y h hl3)
  rw [← hX4] at N4
  have hl5 : X5.2.1.length ≤ 900000 := by rw [hX5]; exact Nat.le_trans (takeI_le X4.2.1) hl4
  have N5 := Lib.hid (fun ok y h => refRdInt (w.heap.size + 1) X4.2.1 ok y h hl4)
  rw [← hX5] at N5
  have hl6 : X6.2.1.length ≤ 900000 := by rw [hX6]; exact Nat.le_trans (takeI_le X5.2.1) hl5
  have N6 := Lib.hid (fun ok y h => refRdInt (w.heap.size + 1) X5.2.1 ok y h hl5)
  rw [← hX6] at N6
  have hl7 : X7.2.1.length ≤ 900000 := by rw [hX7]; exact Nat.le_trans (takeI_le X6.2.1) hl6
  have N7 := Lib.hid (fun ok y h => refRdInt (w.heap.size + 1) X6.2.1 ok y h hl6)
  rw [← hX7] at N7
  have hl8 : X8.2.1.length ≤ 900000 := by rw [hX8]; exact Nat.le_trans (takeL_le X7.2.1 64) hl7
  have N8 := Lib.hid (fun A n c y (h : BRow y A n c X7.2.1) => refTakeInts_any A n c X7.2.1 64 y h (by have : X7.2.1.length = n := h.len; omega))
  rw [← hX8] at N8
  have hly : Y.2.1.length ≤ 900000 := by rw [hY]; exact Nat.le_trans (takeI_le _) hl8
  have NY := Lib.hid (fun ok y h => refRdInt (w.heap.size + 1) X8.2.1 ok y h hl8)
  rw [← hY] at NY
  have HBIG := Lib.hid (fun h : 64 < Y.1 => dec_big hX0 hX1 hX2 hX3 hX4 hX5 hX6 hX7 hX8 hY h)
  have hn0 : Y.1 ≤ 9223372036854775807 := by rw [hY]; exact takeI_bd _
  have hpv : (X2.1.size : Int) ≤ 32 := by rw [hX2]; exact takeS_size _ _ (by omega)
  have hll : (X8.1.length : Int) ≤ 64 := by rw [hX8]; exact takeL_size _ _ (by omega)
  have HUS := Lib.hid hr
  clear hX0 hX1 hX2 hX3 hX4 hX5 hX6 hX7 hX8 hY hl0 hl1 hl2 hl3 hl4 hl5 hl6 hl7 hl8 hr
  obtain ⟨v0, r1, k0⟩ := X0
  obtain ⟨v1, r2, k1⟩ := X1
  obtain ⟨v2, r3, k2⟩ := X2
  obtain ⟨v3, r4, k3⟩ := X3
  obtain ⟨v4, r5, k4⟩ := X4
  obtain ⟨v5, r6, k5⟩ := X5
  obtain ⟨v6, r7, k6⟩ := X6
  obtain ⟨v7, r8, k7⟩ := X7
  obtain ⟨v8, r9, k8⟩ := X8
  obtain ⟨n0, ry, ky⟩ := Y
  simp only at HSP HBIG hn0 hly hpv hll NY N0 N1 N2 N3 N4 N5 N6 N7 N8
  generalize decS us = DS0 at HDS ⊢
  generalize decE us = DE0 at HDE ⊢
  have hb1 : Below w.heap.size w (((w.alloc (.cells #[.int .i64 0, .int .i64 0, .string ⟨#[]⟩, .int .i64 0, .int .i64 0, .int .i64 0, .int .i64 0, .int .i64 0, .slice none 0 0, .slice none 0 0, .string ⟨#[]⟩, .int .i64 0, .string ⟨#[]⟩] 27)).alloc (.cells #[.slice A n c, .bool true] 117)).alloc (.cells #[.int .i64 0, .int .i64 0, .string ⟨#[]⟩, .int .i64 0, .int .i64 0, .int .i64 0, .int .i64 0, .int .i64 0, .slice none 0 0, .slice none 0 0, .string ⟨#[]⟩, .int .i64 0, .string ⟨#[]⟩] 27)) := ((one_new w _).alloc (by simp only [World.size_alloc]; omega) _).alloc (by simp only [World.size_alloc]; omega) _
  have hD : (((w.alloc (.cells #[.int .i64 0, .int .i64 0, .string ⟨#[]⟩, .int .i64 0, .int .i64 0, .int .i64 0, .int .i64 0, .int .i64 0, .slice none 0 0, .slice none 0 0, .string ⟨#[]⟩, .int .i64 0, .string ⟨#[]⟩] 27)).alloc (.cells #[.slice A n c, .bool true] 117)).alloc (.cells #[.int .i64 0, .int .i64 0, .string ⟨#[]⟩, .int .i64 0, .int .i64 0, .int .i64 0, .int .i64 0, .int .i64 0, .slice none 0 0, .slice none 0 0, .string ⟨#[]⟩, .int .i64 0, .string ⟨#[]⟩] 27)).heap[w.heap.size + 1]? = some (.cells #[.slice A n c, .bool true] 117 (0, 0)) := by
    have := heap_alloc_new (w.alloc (.cells #[.int .i64 0, .int .i64 0, .string ⟨#[]⟩, .int .i64 0, .int .i64 0, .int .i64 0, .int .i64 0, .int .i64 0, .slice none 0 0, .slice none 0 0, .string ⟨#[]⟩, .int .i64 0, .string ⟨#[]⟩] 27)) (.cells #[.slice A n c, .bool true] 117)
    rw [show (w.alloc (.cells #[.int .i64 0, .int .i64 0, .string ⟨#[]⟩, .int .i64 0, .int .i64 0, .int .i64 0, .int .i64 0, .int .i64 0, .slice none 0 0, .slice none 0 0, .string ⟨#[]⟩, .int .i64 0, .string ⟨#[]⟩] 27)).heap.size = w.heap.size + 1 by simp] at this
    exact (Below.heap_alloc _ _ _ (by simp)).trans this
  have hP : (((w.alloc (.cells #[.int .i64 0, .int .i64 0, .string ⟨#[]⟩, .int .i64 0, .int .i64 0, .int .i64 0, .int .i64 0, .int .i64 0, .slice none 0 0, .slice none 0 0, .string ⟨#[]⟩, .int .i64 0, .string ⟨#[]⟩] 27)).alloc (.cells #[.slice A n c, .bool true] 117)).alloc (.cells #[.int .i64 0, .int .i64 0, .string ⟨#[]⟩, .int .i64 0, .int .i64 0, .int .i64 0, .int .i64 0, .int .i64 0, .slice none 0 0, .slice none 0 0, .string ⟨#[]⟩, .int .i64 0, .string ⟨#[]⟩] 27)).heap[w.heap.size + 2]? = some (.cells zeroA 27 (0, 0)) := by
    have := heap_alloc_new ((w.alloc (.cells #[.int .i64 0, .int .i64 0, .string ⟨#[]⟩, .int .i64 0, .int .i64 0, .int .i64 0, .int .i64 0, .int .i64 0, .slice none 0 0, .slice none 0 0, .string ⟨#[]⟩, .int .i64 0, .string ⟨#[]⟩] 27)).alloc (.cells #[.slice A n c, .bool true] 117)) (.cells #[.int .i64 0, .int .i64 0, .string ⟨#[]⟩, .int .i64 0, .int .i64 0, .int .i64 0, .int .i64 0, .int .i64 0, .slice none 0 0, .slice none 0 0, .string ⟨#[]⟩, .int .i64 0, .string ⟨#[]⟩] 27)
    rw [show ((w.alloc (.cells #[.int .i64 0, .int .i64 0, .string ⟨#[]⟩, .int .i64 0, .int .i64 0, .int .i64 0, .int .i64 0, .int .i64 0, .slice none 0 0, .slice none 0 0, .string ⟨#[]⟩, .int .i64 0, .string ⟨#[]⟩] 27)).alloc (.cells #[.slice A n c, .bool true] 117)).heap.size = w.heap.size + 2 by simp] at this
    exact this
  have hQ : (((w.alloc (.cells #[.int .i64 0, .int .i64 0, .string ⟨#[]⟩, .int .i64 0, .int .i64 0, .int .i64 0, .int .i64 0, .int .i64 0, .slice none 0 0, .slice none 0 0, .string ⟨#[]⟩, .int .i64 0, .string ⟨#[]⟩] 27)).alloc (.cells #[.slice A n c, .bool true] 117)).alloc (.cells #[.int .i64 0, .int .i64 0, .string ⟨#[]⟩, .int .i64 0, .int .i64 0, .int .i64 0, .int .i64 0, .int .i64 0, .slice none 0 0, .slice none 0 0, .string ⟨#[]⟩, .int .i64 0, .string ⟨#[]⟩] 27)).heap[w.heap.size]? = some (.cells zeroA 27 (0, 0)) :=
    (Below.heap_alloc _ _ _ (by simp only [World.size_alloc]; omega)).trans ((Below.heap_alloc _ _ _ (by simp)).trans (heap_alloc_new w (.cells #[.int .i64 0, .int .i64 0, .string ⟨#[]⟩, .int .i64 0, .int .i64 0, .int .i64 0, .int .i64 0, .int .i64 0, .slice none 0 0, .slice none 0 0, .string ⟨#[]⟩, .int .i64 0, .string ⟨#[]⟩] 27)))
  have HD0 : Hid (DS w (((w.alloc (.cells #[.int .i64 0, .int .i64 0, .string ⟨#[]⟩, .int .i64 0, .int .i64 0, .int .i64 0, .int .i64 0, .int .i64 0, .slice none 0 0, .slice none 0 0, .string ⟨#[]⟩, .int .i64 0, .string ⟨#[]⟩] 27)).alloc (.cells #[.slice A n c, .bool true] 117)).alloc (.cells #[.int .i64 0, .int .i64 0, .string ⟨#[]⟩, .int .i64 0, .int .i64 0, .int .i64 0, .int .i64 0, .int .i64 0, .slice none 0 0, .slice none 0 0, .string ⟨#[]⟩, .int .i64 0, .string ⟨#[]⟩] 27)) #[.int .i64 0, .int .i64 0, .string ⟨#[]⟩, .int .i64 0, .int .i64 0, .int .i64 0, .int .i64 0, .int .i64 0, .slice none 0 0, .slice none 0 0, .string ⟨#[]⟩, .int .i64 0, .string ⟨#[]⟩] us true) := Lib.hid ⟨hQ, hP, ⟨A, n, c, hD, Row.later HUS.out hb1⟩, hb1, by simp⟩
  clear hb1 hD hP hQ
  go_enter Tryz.func64, Tryz.ntmps64
  go_wp2_with fail
  rw [show w.heap.size + 1 + 1 = w.heap.size + 2 from rfl]
  generalize ((w.alloc (.cells #[.int .i64 0, .int .i64 0, .string ⟨#[]⟩, .int .i64 0, .int .i64 0, .int .i64 0, .int .i64 0, .int .i64 0, .slice none 0 0, .slice none 0 0, .string ⟨#[]⟩, .int .i64 0, .string ⟨#[]⟩] 27)).alloc (.cells #[.slice A n c, .bool true] 117)).alloc (.cells #[.int .i64 0, .int .i64 0, .string ⟨#[]⟩, .int .i64 0, .int .i64 0, .int .i64 0, .int .i64 0, .int .i64 0, .slice none 0 0, .slice none 0 0, .string ⟨#[]⟩, .int .i64 0, .string ⟨#[]⟩] 27) = y0 at HD0 ⊢
  obtain ⟨o0, ho0⟩ : ∃ o : Bool, o = true := ⟨_, rfl⟩
  rw [← ho0] at HD0
  have HO0 := Lib.hid ho0; clear ho0
  refine (N0.out o0 y0 HD0.out.rd).mono ?_
  rintro e y1 hrd
  have HD1' := Lib.hid (HD0.out.read hrd)
  obtain ⟨_, _, _, rfl, -⟩ := hrd
  obtain ⟨o1, ho⟩ : ∃ o : Bool, o = (o0 && k0) := ⟨_, rfl⟩
  rw [← ho] at HD1'
  have HO1 := Lib.hid ho; clear ho
  have HD1 := HD1'; clear HD1' HD0
  go_wp2_with fail
  refine (N1.out o1 y1 HD1.out.rd).mono ?_
  rintro e y2 hrd
  have HD2' := Lib.hid (HD1.out.read hrd)
  obtain ⟨_, _, _, rfl, -⟩ := hrd
  obtain ⟨o2, ho⟩ : ∃ o : Bool, o = (o1 && k1) := ⟨_, rfl⟩
  rw [← ho] at HD2'
  have HO2 := Lib.hid ho; clear ho
  have HD2 := HD2'; clear HD2' HD1
  go_wp2_with fail
  refine (N2.out o2 y2 HD2.out.rd).mono ?_
  rintro e y3 hrd
  have HD3' := Lib.hid (HD2.out.read hrd)
  obtain ⟨_, _, _, rfl, -⟩ := hrd
  obtain ⟨o3, ho⟩ : ∃ o : Bool, o = (o2 && k2) := ⟨_, rfl⟩
  rw [← ho] at HD3'
  have HO3 := Lib.hid ho; clear ho
  have HD3 := HD3'; clear HD3' HD2
  have hc0 : y3.cell? ⟨w.heap.size + 2, 0, none⟩ = some (.int .i64 0) := by rw [HD3.out.cells]; rfl
  have hz0 : y3.frozen? ⟨w.heap.size + 2, 0, none⟩ = false := HD3.out.froz 0
  have hc1 : y3.cell? ⟨w.heap.size + 2, 1, none⟩ = some (.int .i64 0) := by rw [HD3.out.cells]; rfl
  have hz1 : y3.frozen? ⟨w.heap.size + 2, 1, none⟩ = false := HD3.out.froz 1
  have hc2 : y3.cell? ⟨w.heap.size + 2, 2, none⟩ = some (.string ⟨#[]⟩) := by rw [HD3.out.cells]; rfl
  have hz2 : y3.frozen? ⟨w.heap.size + 2, 2, none⟩ = false := HD3.out.froz 2
  go_wp2_with fail
  have HD3a : Hid (DS w (((y3.setCell ⟨w.heap.size + 2, 0, none⟩ (.int .i64 v0)).setCell ⟨w.heap.size + 2, 1, none⟩ (.int .i64 v1)).setCell ⟨w.heap.size + 2, 2, none⟩ (.string v2)) #[.int .i64 v0, .int .i64 v1, .string v2, .int .i64 0, .int .i64 0, .int .i64 0, .int .i64 0, .int .i64 0, .slice none 0 0, .slice none 0 0, .string ⟨#[]⟩, .int .i64 0, .string ⟨#[]⟩] r3 o3) := Lib.hid (((HD3.out.setp rfl 0 (.int .i64 v0)).setp rfl 1 (.int .i64 v1)).setp rfl 2 (.string v2))
  clear HD3 hc0 hz0 hc1 hz1 hc2 hz2
  generalize (((y3.setCell ⟨w.heap.size + 2, 0, none⟩ (.int .i64 v0)).setCell ⟨w.heap.size + 2, 1, none⟩ (.int .i64 v1)).setCell ⟨w.heap.size + 2, 2, none⟩ (.string v2)) = y3a at HD3a ⊢
  refine (N3.out o3 y3a HD3a.out.rd).mono ?_
  rintro e y4 hrd
  have HD4' := Lib.hid (HD3a.out.read hrd)
  obtain ⟨_, _, _, rfl, -⟩ := hrd
  obtain ⟨o4, ho⟩ : ∃ o : Bool, o = (o3 && k3) := ⟨_, rfl⟩
  rw [← ho] at HD4'
  have HO4 := Lib.hid ho; clear ho
  have HD4 := HD4'; clear HD4' HD3a
  go_wp2_with fail
  refine (N4.out o4 y4 HD4.out.rd).mono ?_
  rintro e y5 hrd
  have HD5' := Lib.hid (HD4.out.read hrd)
  obtain ⟨_, _, _, rfl, -⟩ := hrd
  obtain ⟨o5, ho⟩ : ∃ o : Bool, o = (o4 && k4) := ⟨_, rfl⟩
  rw [← ho] at HD5'
  have HO5 := Lib.hid ho; clear ho
  have HD5 := HD5'; clear HD5' HD4
  go_wp2_with fail
  refine (N5.out o5 y5 HD5.out.rd).mono ?_
  rintro e y6 hrd
  have HD6' := Lib.hid (HD5.out.read hrd)
  obtain ⟨_, _, _, rfl, -⟩ := hrd
  obtain ⟨o6, ho⟩ : ∃ o : Bool, o = (o5 && k5) := ⟨_, rfl⟩
  rw [← ho] at HD6'
  have HO6 := Lib.hid ho; clear ho
  have HD6 := HD6'; clear HD6' HD5
  go_wp2_with fail
  refine (N6.out o6 y6 HD6.out.rd).mono ?_
  rintro e y7 hrd
  have HD7' := Lib.hid (HD6.out.read hrd)
  obtain ⟨_, _, _, rfl, -⟩ := hrd
  obtain ⟨o7, ho⟩ : ∃ o : Bool, o = (o6 && k6) := ⟨_, rfl⟩
  rw [← ho] at HD7'
  have HO7 := Lib.hid ho; clear ho
  have HD7 := HD7'; clear HD7' HD6
  go_wp2_with fail
  refine (N7.out o7 y7 HD7.out.rd).mono ?_
  rintro e y8 hrd
  have HD8' := Lib.hid (HD7.out.read hrd)
  obtain ⟨_, _, _, rfl, -⟩ := hrd
  obtain ⟨o8, ho⟩ : ∃ o : Bool, o = (o7 && k7) := ⟨_, rfl⟩
  rw [← ho] at HD8'
  have HO8 := Lib.hid ho; clear ho
  have HD8 := HD8'; clear HD8' HD7
  have hc3 : y8.cell? ⟨w.heap.size + 2, 3, none⟩ = some (.int .i64 0) := by rw [HD8.out.cells]; rfl
  have hz3 : y8.frozen? ⟨w.heap.size + 2, 3, none⟩ = false := HD8.out.froz 3
  have hc4 : y8.cell? ⟨w.heap.size + 2, 4, none⟩ = some (.int .i64 0) := by rw [HD8.out.cells]; rfl
  have hz4 : y8.frozen? ⟨w.heap.size + 2, 4, none⟩ = false := HD8.out.froz 4
  have hc5 : y8.cell? ⟨w.heap.size + 2, 5, none⟩ = some (.int .i64 0) := by rw [HD8.out.cells]; rfl
  have hz5 : y8.frozen? ⟨w.heap.size + 2, 5, none⟩ = false := HD8.out.froz 5
  have hc6 : y8.cell? ⟨w.heap.size + 2, 6, none⟩ = some (.int .i64 0) := by rw [HD8.out.cells]; rfl
  have hz6 : y8.frozen? ⟨w.heap.size + 2, 6, none⟩ = false := HD8.out.froz 6
  have hc7 : y8.cell? ⟨w.heap.size + 2, 7, none⟩ = some (.int .i64 0) := by rw [HD8.out.cells]; rfl
  have hz7 : y8.frozen? ⟨w.heap.size + 2, 7, none⟩ = false := HD8.out.froz 7
  have HD8a : Hid (DS w (((((y8.setCell ⟨w.heap.size + 2, 3, none⟩ (.int .i64 v3)).setCell ⟨w.heap.size + 2, 4, none⟩ (.int .i64 v4)).setCell ⟨w.heap.size + 2, 5, none⟩ (.int .i64 v5)).setCell ⟨w.heap.size + 2, 6, none⟩ (.int .i64 v6)).setCell ⟨w.heap.size + 2, 7, none⟩ (.int .i64 v7)) #[.int .i64 v0, .int .i64 v1, .string v2, .int .i64 v3, .int .i64 v4, .int .i64 v5, .int .i64 v6, .int .i64 v7, .slice none 0 0, .slice none 0 0, .string ⟨#[]⟩, .int .i64 0, .string ⟨#[]⟩] r8 o8) := Lib.hid (((((HD8.out.setp rfl 3 (.int .i64 v3)).setp rfl 4 (.int .i64 v4)).setp rfl 5 (.int .i64 v5)).setp rfl 6 (.int .i64 v6)).setp rfl 7 (.int .i64 v7))
  obtain ⟨Ar, nr, cr, hRr, hrr⟩ := HD8a.out.rd
  have hcd : (((((y8.setCell ⟨w.heap.size + 2, 3, none⟩ (.int .i64 v3)).setCell ⟨w.heap.size + 2, 4, none⟩ (.int .i64 v4)).setCell ⟨w.heap.size + 2, 5, none⟩ (.int .i64 v5)).setCell ⟨w.heap.size + 2, 6, none⟩ (.int .i64 v6)).setCell ⟨w.heap.size + 2, 7, none⟩ (.int .i64 v7)).cell? ⟨w.heap.size + 1, 0, none⟩ = some (.slice Ar nr cr) := by rw [cell_of_row _ _ _ _ _ _ hRr]; rfl
  clear hRr
  have HRR := Lib.hid hrr; clear hrr
  go_wp2_with fail
  clear HD8 hcd hc3 hz3 hc4 hz4 hc5 hz5 hc6 hz6 hc7 hz7
  generalize (((((y8.setCell ⟨w.heap.size + 2, 3, none⟩ (.int .i64 v3)).setCell ⟨w.heap.size + 2, 4, none⟩ (.int .i64 v4)).setCell ⟨w.heap.size + 2, 5, none⟩ (.int .i64 v5)).setCell ⟨w.heap.size + 2, 6, none⟩ (.int .i64 v6)).setCell ⟨w.heap.size + 2, 7, none⟩ (.int .i64 v7)) = y8a at HD8a HRR ⊢
  refine (N8.out Ar nr cr y8a HRR.out).mono ?_
  rintro e y9 ⟨Al, nl, cl, A9, m9, c9, rfl, hil, hnl, hr9, hb9⟩
  have hln := hil.len
  have HD9 := Lib.hid (HD8a.out.later hb9)
  have HOA : Hid (o8 = (k0 && k1 && k2 && k3 && k4 && k5 && k6 && k7)) := by unfold Hid; rw [HO8.out, HO7.out, HO6.out, HO5.out, HO4.out, HO3.out, HO2.out, HO1.out, HO0.out]; simp
  have HNL : Hid (∀ ad, Al = some ad → w.heap.size + 2 < ad.block) := Lib.hid fun ad hA => Nat.lt_of_lt_of_le HD8a.out.lp (hnl ad hA).1
  have HIL := Lib.hid hil; have HB9 := Lib.hid hr9
  simp only at hln
  have hnl64 : nl ≤ 64 := by rw [← hln]; omega
  clear HO8 HO7 HO6 HO5 HO4 HO3 HO2 HO1 HO0 hil hnl hr9 hb9 hln HD8a HRR N0 N1 N2 N3 N4 N5 N6 N7 N8
  simp only
  obtain ⟨Ax, nx, cx, hRx, -⟩ := HD9.out.rd
  have hcd0 : y9.cell? ⟨w.heap.size + 1, 0, none⟩ = some (.slice Ax nx cx) := by rw [cell_of_row _ _ _ _ _ _ hRx]; rfl
  have hcd1 : y9.cell? ⟨w.heap.size + 1, 1, none⟩ = some (.bool o8) := by rw [cell_of_row _ _ _ _ _ _ hRx]; rfl
  have hzd0 : y9.frozen? ⟨w.heap.size + 1, 0, none⟩ = false := frozen_of_row _ _ _ _ _ hRx
  have hzd1 : y9.frozen? ⟨w.heap.size + 1, 1, none⟩ = false := frozen_of_row _ _ _ _ _ hRx
  clear hRx
  have hc8 : y9.cell? ⟨w.heap.size + 2, 8, none⟩ = some (.slice none 0 0) := by rw [HD9.out.cells]; rfl
  have hz8 : y9.frozen? ⟨w.heap.size + 2, 8, none⟩ = false := HD9.out.froz 8
  cases o8
  · have hdone : True := trivial
    clear hdone
    go_wp2_with fail
    have HDa : Hid (DS w (((y9.setCell ⟨w.heap.size + 2, 8, none⟩ (.slice Al nl cl)).setCell ⟨w.heap.size + 1, 0, none⟩ (.slice A9 m9 c9)).setCell ⟨w.heap.size + 1, 1, none⟩ (.bool false)) #[.int .i64 v0, .int .i64 v1, .string v2, .int .i64 v3, .int .i64 v4, .int .i64 v5, .int .i64 v6, .int .i64 v7, .slice Al nl cl, .slice none 0 0, .string ⟨#[]⟩, .int .i64 0, .string ⟨#[]⟩] r9 false) := Lib.hid ((HD9.out.setp rfl 8 (.slice Al nl cl)).setrd (Row.but HB9.out (But.set _ _ _) (row_u8 HB9.out HD9.out.hp rfl)) false)
    have HIa : Hid (IRow (((y9.setCell ⟨w.heap.size + 2, 8, none⟩ (.slice Al nl cl)).setCell ⟨w.heap.size + 1, 0, none⟩ (.slice A9 m9 c9)).setCell ⟨w.heap.size + 1, 1, none⟩ (.bool false)) Al nl cl v8) := Lib.hid (list_keep HIL.out HNL.out)
    clear HD9 HIL HB9 hc8 hz8 hcd0 hcd1 hzd0 hzd1
    generalize (((y9.setCell ⟨w.heap.size + 2, 8, none⟩ (.slice Al nl cl)).setCell ⟨w.heap.size + 1, 0, none⟩ (.slice A9 m9 c9)).setCell ⟨w.heap.size + 1, 1, none⟩ (.bool false)) = ya at HDa HIa ⊢
    obtain ⟨oa, hoa⟩ : ∃ o : Bool, o = false := ⟨_, rfl⟩
    have HOC : Hid (oa = (k0 && k1 && k2 && k3 && k4 && k5 && k6 && k7 && k8)) := by unfold Hid; rw [hoa]; rw [← HOA.out]; rfl
    rw [← hoa] at HDa
    clear hoa
    refine (NY.out oa ya HDa.out.rd).mono ?_
    rintro e yb hrd
    have HDb := Lib.hid (HDa.out.read hrd)
    obtain ⟨_, _, _, rfl, -, -, -, hbut⟩ := hrd
    have HIb := Lib.hid (but_up hbut HIa.out HNL.out (by omega)); clear hbut HDa HIa NY
    obtain ⟨Ab, nb, cb, hRb, hrb⟩ := HDb.out.rd
    have HRb := Lib.hid hRb; have HXb := Lib.hid hrb; clear hRb hrb
    go_wp2_with fail
    go_loopw [9] (fun i wr => ∃ j : Nat, j ≤ n0.toNat ∧ j ≤ 64 ∧ i = .int .i64 (n0 - j) ∧ ∃ B k okj Aj nj cj, Hid (DS w wr #[.int .i64 v0, .int .i64 v1, .string v2, .int .i64 v3, .int .i64 v4, .int .i64 v5, .int .i64 v6, .int .i64 v7, .slice Al nl cl, .slice B j k, .string ⟨#[]⟩, .int .i64 0, .string ⟨#[]⟩] (pinsL j ry).2.1 okj ∧ okj = (k0 && k1 && k2 && k3 && k4 && k5 && k6 && k7 && k8 && ky && (pinsL j ry).2.2) ∧ POwn wr (w.heap.size + 3) (.slice B j k) (pinsL j ry).1 ∧ IRow wr Al nl cl v8 ∧ (∀ ad, Al = some ad → 0 < nl → Value.ownBlock (.slice B j k) ≠ some ad.block) ∧
        wr.heap[w.heap.size + 1]? = some (.cells #[.slice Aj nj cj, .bool okj] 117 (0, 0)) ∧ BRow wr Aj nj cj (pinsL j ry).2.1 ∧ (∀ ad, Aj = some ad → Value.ownBlock (.slice B j k) ≠ some ad.block))) (fun i _ => (intOf i).toNat)
    case atStart => exact ⟨0, Nat.zero_le _, by omega, by simp, none, 0, (oa && ky), Ab, nb, cb, Lib.hid ⟨HDb.out, by rw [HOC.out]; simp [pinsL], World.ownsRow_nil _ _ _ _, HIb.out, (fun _ _ _ h => by cases h), HRb.out, HXb.out, (fun _ _ h => by cases h)⟩⟩
    case round =>
      obtain ⟨j, hjn, hj64, rfl, B, k, okj, Aj, nj, cj, HQ⟩ := hrel
      have hc9 : wr.cell? ⟨w.heap.size + 2, 9, none⟩ = some (.slice B j k) := by rw [HQ.out.1.cells]; rfl
      have hcd : wr.cell? ⟨w.heap.size + 1, 1, none⟩ = some (.bool okj) := by rw [cell_of_row _ _ _ _ _ _ HQ.out.2.2.2.2.2.1]; rfl
      by_cases hgt : 0 < n0 - (j : Int)
      · cases okj
        · have HDw := Lib.hid HQ.out.1; have HOJ := Lib.hid HQ.out.2.1; have HIR := Lib.hid HQ.out.2.2.2.1
          have HPR : Hid (PRow wr B j k (pinsL j ry).1) := Lib.hid (own_prow HQ.out.2.2.1)
          have HNB : Hid (∀ ad, B = some ad → w.heap.size + 2 < ad.block) := Lib.hid fun ad hA => by subst hA; exact (World.ownsRow.lt HQ.out.2.2.1 _ rfl).1
          obtain ⟨okj, hokj⟩ : ∃ o : Bool, o = false := ⟨_, rfl⟩
          rw [← hokj] at HDw HOJ hcd
          clear HQ HDb HIb HRb HXb
          have hlr : (pinsL j ry).2.1.length ≤ 900000 := Nat.le_trans (pinsL_le ry j) hly
          have HSPj := Lib.hid (HSP.out (pinsL j ry) (takeS (pinsL j ry).2.1 4096) (takeI (takeS (pinsL j ry).2.1 4096).2.1) (takeS (takeI (takeS (pinsL j ry).2.1 4096).2.1).2.1 32) j _ rfl rfl rfl rfl rfl hjn hj64 (.inr (by rw [← HOJ.out, hokj])))
          have NB := Lib.hid (fun ok y h => refRdText (w.heap.size + 1) (pinsL j ry).2.1 ok 4096 y h hlr)
          have hlb := Nat.le_trans (takeS_le (pinsL j ry).2.1 4096) hlr
          have hsb := takeS_size (pinsL j ry).2.1 4096 (by omega)
          have hpb := pinsL_size ry j
          have hpl := pinsL_len ry j
          clear HSP
          generalize (pinsL j ry).2.1 = rj at HSPj NB hlb hsb HDw
          generalize (pinsL j ry).2.2 = kj at HSPj HOJ
          generalize (pinsL j ry).1 = lj at HSPj HPR hpb hpl
          generalize takeS rj 4096 = Xb at HSPj NB hlb hsb
          obtain ⟨vb, rb, kb⟩ := Xb
          simp only at HSPj NB hlb hsb
          have NK := Lib.hid (fun ok y h => refRdInt (w.heap.size + 1) rb ok y h hlb)
          have hlk := Nat.le_trans (takeI_le rb) hlb
          generalize takeI rb = Xk at HSPj NK hlk
          obtain ⟨vk, rk, kk⟩ := Xk
          simp only at HSPj NK hlk
          have ND := Lib.hid (fun ok y h => refRdText (w.heap.size + 1) rk ok 32 y h hlk)
          have hsd := takeS_size rk 32 (by omega)
          generalize takeS rk 32 = Xd at HSPj ND hsd
          obtain ⟨vd, rd13, kd⟩ := Xd
          simp only at HSPj ND hsd
          go_wp2_with fail
          refine (NB.out okj wr HDw.out.rd).mono ?_
          rintro e z1 hrd
          have HDz1 := Lib.hid (HDw.out.read hrd)
          obtain ⟨_, _, _, rfl, -, -, -, hbut⟩ := hrd
          have HI1 := Lib.hid (but_up hbut HIR.out HNL.out (by omega)); have HP1 := Lib.hid (but_up hbut HPR.out HNB.out (by omega)); clear hbut HDw HIR HPR
          have hc10 : z1.cell? ⟨w.heap.size + 2, 10, none⟩ = some (.string ⟨#[]⟩) := by rw [HDz1.out.cells]; rfl
          have hz10 : z1.frozen? ⟨w.heap.size + 2, 10, none⟩ = false := HDz1.out.froz 10
          go_wp2_with fail
          have HDz2 : Hid (DS w (z1.setCell ⟨w.heap.size + 2, 10, none⟩ (.string vb)) #[.int .i64 v0, .int .i64 v1, .string v2, .int .i64 v3, .int .i64 v4, .int .i64 v5, .int .i64 v6, .int .i64 v7, .slice Al nl cl, .slice B j k, .string vb, .int .i64 0, .string ⟨#[]⟩] rb (okj && kb)) := Lib.hid (HDz1.out.setp rfl 10 (.string vb))
          have HI2 := Lib.hid (set_up HI1.out HNL.out 10 (.string vb)); have HP2 := Lib.hid (set_up HP1.out HNB.out 10 (.string vb))
          clear HDz1 HI1 HP1 hc10 hz10
          generalize z1.setCell ⟨w.heap.size + 2, 10, none⟩ (.string vb) = z2 at HDz2 HI2 HP2 ⊢
          refine (NK.out (okj && kb) z2 HDz2.out.rd).mono ?_
          rintro e z3 hrd
          have HDz3 := Lib.hid (HDz2.out.read hrd)
          obtain ⟨_, _, _, rfl, -, -, -, hbut⟩ := hrd
          have HI3 := Lib.hid (but_up hbut HI2.out HNL.out (by omega)); have HP3 := Lib.hid (but_up hbut HP2.out HNB.out (by omega)); clear hbut HDz2 HI2 HP2
          go_wp2_with fail
          refine (ND.out (okj && kb && kk) z3 HDz3.out.rd).mono ?_
          rintro e z4 hrd
          have HDz4 := Lib.hid (HDz3.out.read hrd)
          obtain ⟨_, _, _, rfl, -, -, -, hbut⟩ := hrd
          have HI4 := Lib.hid (but_up hbut HI3.out HNL.out (by omega)); have HP4 := Lib.hid (but_up hbut HP3.out HNB.out (by omega)); clear hbut HDz3 HI3 HP3
          obtain ⟨okF, hoF⟩ : ∃ o : Bool, o = (okj && kb && kk && kd) := ⟨_, rfl⟩
          have HDz5 : Hid (DS w ((z4.setCell ⟨w.heap.size + 2, 11, none⟩ (.int .i64 vk)).setCell ⟨w.heap.size + 2, 12, none⟩ (.string vd)) #[.int .i64 v0, .int .i64 v1, .string v2, .int .i64 v3, .int .i64 v4, .int .i64 v5, .int .i64 v6, .int .i64 v7, .slice Al nl cl, .slice B j k, .string vb, .int .i64 vk, .string vd] rd13 okF) := by rw [hoF]; exact Lib.hid ((HDz4.out.setp rfl 11 (.int .i64 vk)).setp rfl 12 (.string vd))
          have HI5 := Lib.hid (set_up (set_up HI4.out HNL.out 11 (.int .i64 vk)) HNL.out 12 (.string vd)); have HP5 := Lib.hid (set_up (set_up HP4.out HNB.out 11 (.int .i64 vk)) HNB.out 12 (.string vd))
          have HOF : Hid (okF = (k0 && k1 && k2 && k3 && k4 && k5 && k6 && k7 && k8 && ky && kj && kb && kk && kd)) := by unfold Hid; rw [hoF, HOJ.out]
          rw [← HOF.out] at HSPj
          clear hoF HOF HOJ
          obtain ⟨hc0, hc1, hc2, hc3, hc4, hc5, hc6, hc7, hc8, hc9', hc10, hc11, hc12⟩ := stm_cells (A := Al) (n := nl) (c := cl) (B := B) (m := j) (k := k) (s := ⟨v0, v1, v2, v3, v4, v5, v6, v7, v8, lj, vb, 0, ⟨#[]⟩⟩) HDz4.out.hp
          have hz11 : z4.frozen? ⟨w.heap.size + 2, 11, none⟩ = false := HDz4.out.froz 11
          have hz12 : z4.frozen? ⟨w.heap.size + 2, 12, none⟩ = false := HDz4.out.froz 12
          obtain ⟨Af, mf, cf, hRf, hrf⟩ := HDz5.out.rd
          have hlf : rd13.length = mf := hrf.len
          have hcf0 : ((z4.setCell ⟨w.heap.size + 2, 11, none⟩ (.int .i64 vk)).setCell ⟨w.heap.size + 2, 12, none⟩ (.string vd)).cell? ⟨w.heap.size + 1, 0, none⟩ = some (.slice Af mf cf) := by rw [cell_of_row _ _ _ _ _ _ hRf]; rfl
          have hcf1 : ((z4.setCell ⟨w.heap.size + 2, 11, none⟩ (.int .i64 vk)).setCell ⟨w.heap.size + 2, 12, none⟩ (.string vd)).cell? ⟨w.heap.size + 1, 1, none⟩ = some (.bool okF) := by rw [cell_of_row _ _ _ _ _ _ hRf]; rfl
          clear hRf hrf HDz4 HI4 HP4
          have HZ1 := Lib.hid hcf0; have HZ2 := Lib.hid hcf1
          have hsm : Small ⟨v0, v1, v2, v3, v4, v5, v6, v7, v8, lj, vb, vk, vd⟩ := ⟨by simp only; omega, by simp only; omega, by simp only; omega, by simp only; omega, by simp only; omega, by simp only; omega⟩
          have HSM := Lib.hid hsm
          have HCK := Lib.hid (refCheck_any ⟨v0, v1, v2, v3, v4, v5, v6, v7, v8, lj, vb, vk, vd⟩ Al nl cl B j k ((z4.setCell ⟨w.heap.size + 2, 11, none⟩ (.int .i64 vk)).setCell ⟨w.heap.size + 2, 12, none⟩ (.string vd)) HI5.out HP5.out (by omega) (by omega) (by simp only; omega))
          have HSL : Hid (∀ y, Below ((z4.setCell ⟨w.heap.size + 2, 11, none⟩ (.int .i64 vk)).setCell ⟨w.heap.size + 2, 12, none⟩ (.string vd)).heap.size ((z4.setCell ⟨w.heap.size + 2, 11, none⟩ (.int .i64 vk)).setCell ⟨w.heap.size + 2, 12, none⟩ (.string vd)) y → Calls Tryz.prog 50 #[stmV ⟨v0, v1, v2, v3, v4, v5, v6, v7, v8, lj, vb, vk, vd⟩ Al nl cl B j k] y (SaysL (.bool (sealedB ⟨v0, v1, v2, v3, v4, v5, v6, v7, v8, lj, vb, vk, vd⟩)) y)) := Lib.hid fun y h => refSealed_any ⟨v0, v1, v2, v3, v4, v5, v6, v7, v8, lj, vb, vk, vd⟩ Al nl cl B j k y (IRow.later HI5.out h) (PRow.later HP5.out h) HSM.out
          have HEN : Hid (∀ y, Below ((z4.setCell ⟨w.heap.size + 2, 11, none⟩ (.int .i64 vk)).setCell ⟨w.heap.size + 2, 12, none⟩ (.string vd)).heap.size ((z4.setCell ⟨w.heap.size + 2, 11, none⟩ (.int .i64 vk)).setCell ⟨w.heap.size + 2, 12, none⟩ (.string vd)) y → Calls Tryz.prog 45 #[stmV ⟨v0, v1, v2, v3, v4, v5, v6, v7, v8, lj, vb, vk, vd⟩ Al nl cl B j k] y (EncS y ⟨v0, v1, v2, v3, v4, v5, v6, v7, v8, lj, vb, vk, vd⟩)) := Lib.hid fun y h => refEncode_any ⟨v0, v1, v2, v3, v4, v5, v6, v7, v8, lj, vb, vk, vd⟩ Al nl cl B j k y (IRow.later HI5.out h) (PRow.later HP5.out h) HSM.out
          have HEB : Hid (checkV ⟨v0, v1, v2, v3, v4, v5, v6, v7, v8, lj, vb, vk, vd⟩ = 0 → sealedB ⟨v0, v1, v2, v3, v4, v5, v6, v7, v8, lj, vb, vk, vd⟩ = true → encB ⟨v0, v1, v2, v3, v4, v5, v6, v7, v8, lj, vb, vk, vd⟩ = wholeB ⟨v0, v1, v2, v3, v4, v5, v6, v7, v8, lj, vb, vk, vd⟩) := Lib.hid fun h1 h2 => by unfold encB; rw [if_pos h1, if_pos h2]
          unfold stmV at HCK HSL HEN
          simp only at HCK HSL HEN
          generalize checkV ⟨v0, v1, v2, v3, v4, v5, v6, v7, v8, lj, vb, vk, vd⟩ = cv at HSPj HCK HEB
          generalize sealedB ⟨v0, v1, v2, v3, v4, v5, v6, v7, v8, lj, vb, vk, vd⟩ = sv at HSPj HSL HEB
          generalize wholeB ⟨v0, v1, v2, v3, v4, v5, v6, v7, v8, lj, vb, vk, vd⟩ = wb at HSPj HEB
          clear hsm
          cases okF
          · have HV := Lib.hid (HSPj.out.1 rfl)
            go_wp2_with (refine wpList_store_row rfl 27 (.tmp 2) (.tmp 127) rfl w.heap.size zeroA rfl rfl 27 _ HDz5.out.hq (by kernel_rfl) rfl (by simp [Value.oneCell', zeroA]) ?_)
            refine bodyPost_ret (results_rdec rfl rfl (setRow_heap _ _ _ zeroA _ _ HDz5.out.hq) rfl) rfl ⟨none, 0, 0, none, 0, 0, by rw [HDS.out, HDE.out, HV.out]; rfl, by rw [HDS.out, HV.out]; exact Row.nilRow _ _, by rw [HDS.out, HV.out]; exact Row.nilRow _ _, (fun _ h => by cases h), (fun _ h => by cases h), below_setRow HDz5.out.hb (Nat.le_refl _) _⟩
          by_cases h0 : mf = 0
          rotate_left
          · have e0 : 0 < mf := by omega
            have HV := Lib.hid ((HSPj.out.2 rfl).1 (by rw [hlf]; exact h0))
            go_wp2_with (refine wpList_store_row rfl 27 (.tmp 2) (.tmp 127) rfl w.heap.size zeroA rfl rfl 27 _ HDz5.out.hq (by kernel_rfl) rfl (by simp [Value.oneCell', zeroA]) ?_)
            refine bodyPost_ret (results_rdec rfl rfl (setRow_heap _ _ _ zeroA _ _ HDz5.out.hq) rfl) rfl ⟨none, 0, 0, none, 0, 0, by rw [HDS.out, HDE.out, HV.out]; rfl, by rw [HDS.out, HV.out]; exact Row.nilRow _ _, by rw [HDS.out, HV.out]; exact Row.nilRow _ _, (fun _ h => by cases h), (fun _ h => by cases h), below_setRow HDz5.out.hb (Nat.le_refl _) _⟩
          have HSP2 := Lib.hid ((HSPj.out.2 rfl).2 (by rw [hlf]; exact h0))
          clear HSPj
          go_wp2_with fail
          refine HCK.out.mono ?_
          clear hc0 hc1 hc2 hc3 hc4 hc5 hc6 hc7 hc8 hc9' hc10 hc11 hc12 hz11 hz12
          generalize ((z4.setCell ⟨w.heap.size + 2, 11, none⟩ (.int .i64 vk)).setCell ⟨w.heap.size + 2, 12, none⟩ (.string vd)) = z5 at HDz5 HI5 HP5 HSL HEN HZ1 HZ2 ⊢
          rintro e z6 ⟨rfl, hb⟩
          have HD6 := Lib.hid (HDz5.out.later hb); have HI6 := Lib.hid (IRow.later HI5.out hb); have HP6 := Lib.hid (PRow.later HP5.out hb); have HN6 := Lib.hid hb
          clear hb HI5 HP5 HCK HZ1 HZ2
          by_cases hc0 : cv = 0
          rotate_left
          · have g1 : (cv == 0) = false := by simpa using hc0
            have HV := Lib.hid (HSP2.out.1 hc0)
            go_wp2_with (refine wpList_store_row rfl 27 (.tmp 2) (.tmp 127) rfl w.heap.size zeroA rfl rfl 27 _ HD6.out.hq (by kernel_rfl) rfl (by simp [Value.oneCell', zeroA]) ?_)
            refine bodyPost_ret (results_rdec rfl rfl (setRow_heap _ _ _ zeroA _ _ HD6.out.hq) rfl) rfl ⟨none, 0, 0, none, 0, 0, by rw [HDS.out, HDE.out, HV.out]; rfl, by rw [HDS.out, HV.out]; exact Row.nilRow _ _, by rw [HDS.out, HV.out]; exact Row.nilRow _ _, (fun _ h => by cases h), (fun _ h => by cases h), below_setRow HD6.out.hb (Nat.le_refl _) _⟩
          subst hc0
          have HSP3 := Lib.hid (HSP2.out.2 rfl); clear HSP2
          obtain ⟨hc0, hc1, hc2, hc3, hc4, hc5, hc6, hc7, hc8, hc9, hc10, hc11, hc12⟩ := stm_cells (A := Al) (n := nl) (c := cl) (B := B) (m := j) (k := k) (s := ⟨v0, v1, v2, v3, v4, v5, v6, v7, v8, lj, vb, vk, vd⟩) HD6.out.hp
          go_wp2_with fail
          refine (HSL.out z6 HN6.out).mono ?_
          rintro e z7 ⟨rfl, hb⟩
          have HD7 := Lib.hid (HD6.out.later hb); have HI7 := Lib.hid (IRow.later HI6.out hb); have HP7 := Lib.hid (PRow.later HP6.out hb); have HN7 := Lib.hid (HN6.out.trans (hb.mono HN6.out.size))
          clear hb HI6 HP6 HSL HN6 HD6 hc0 hc1 hc2 hc3 hc4 hc5 hc6 hc7 hc8 hc9 hc10 hc11 hc12
          cases sv
          · have HV := Lib.hid (HSP3.out.1 rfl)
            go_wp2_with (refine wpList_store_row rfl 27 (.tmp 2) (.tmp 127) rfl w.heap.size zeroA rfl rfl 27 _ HD7.out.hq (by kernel_rfl) rfl (by simp [Value.oneCell', zeroA]) ?_)
            refine bodyPost_ret (results_rdec rfl rfl (setRow_heap _ _ _ zeroA _ _ HD7.out.hq) rfl) rfl ⟨none, 0, 0, none, 0, 0, by rw [HDS.out, HDE.out, HV.out]; rfl, by rw [HDS.out, HV.out]; exact Row.nilRow _ _, by rw [HDS.out, HV.out]; exact Row.nilRow _ _, (fun _ h => by cases h), (fun _ h => by cases h), below_setRow HD7.out.hb (Nat.le_refl _) _⟩
          have HSP4 := Lib.hid (HSP3.out.2 rfl); clear HSP3
          obtain ⟨hc0, hc1, hc2, hc3, hc4, hc5, hc6, hc7, hc8, hc9, hc10, hc11, hc12⟩ := stm_cells (A := Al) (n := nl) (c := cl) (B := B) (m := j) (k := k) (s := ⟨v0, v1, v2, v3, v4, v5, v6, v7, v8, lj, vb, vk, vd⟩) HD7.out.hp
          go_wp2_with fail
          refine (HEN.out z7 HN7.out).mono ?_
          rintro e z8 ⟨A8, m8, c8, rfl, hr8, hb⟩
          have HD8 := Lib.hid (HD7.out.later hb); have HI8 := Lib.hid (IRow.later HI7.out hb); have HP8 := Lib.hid (PRow.later HP7.out hb)
          rw [HEB.out (by first | rfl | trivial) (by first | rfl | trivial)] at hr8
          obtain ⟨t1, ht1⟩ : ∃ t, t = strOf wb := ⟨_, rfl⟩
          obtain ⟨t2, ht2⟩ : ∃ t, t = strOf us := ⟨_, rfl⟩
          have hcv1 : (convert 30 9 (.slice A8 m8 c8)).run Tryz.prog z8 = .ok (.string t1) z8 := by rw [ht1]; exact run_conv_row hr8 Tryz.underlying30 Tryz.underlying5 Tryz.underlying9
          have hcv2 : (convert 30 9 (.slice A n c)).run Tryz.prog z8 = .ok (.string t2) z8 := by rw [ht2]; exact run_conv_row (Row.later HUS.out HD8.out.hb) Tryz.underlying30 Tryz.underlying5 Tryz.underlying9
          clear hb hr8 HI7 HP7 HEN HN7 HD7 hc0 hc1 hc2 hc3 hc4 hc5 hc6 hc7 hc8 hc9 hc10 hc11 hc12 HEB
          by_cases hw : wb = us
          · have hd := HSP4.out.1 hw
            have HV := Lib.hid hd.1; have HVS := Lib.hid hd.2
            have ht : t1 = t2 := by rw [ht1, ht2, hw]
            have hl : t1.toList = t2.toList := by rw [ht]
            have hl2 : (t1.toList != t2.toList) = false := by rw [hl]; simp
            obtain ⟨hc0, hc1, hc2, hc3, hc4, hc5, hc6, hc7, hc8, hc9, hc10, hc11, hc12⟩ := stm_cells (A := Al) (n := nl) (c := cl) (B := B) (m := j) (k := k) (s := ⟨v0, v1, v2, v3, v4, v5, v6, v7, v8, lj, vb, vk, vd⟩) HD8.out.hp
            clear ht1 ht2 hd ht
            go_wp2_with (refine wpList_store_row rfl 27 (.tmp 2) (.tmp 139) rfl w.heap.size #[.int .i64 v0, .int .i64 v1, .string v2, .int .i64 v3, .int .i64 v4, .int .i64 v5, .int .i64 v6, .int .i64 v7, .slice Al nl cl, .slice B j k, .string vb, .int .i64 vk, .string vd] rfl rfl 27 _ HD8.out.hq (by kernel_rfl) rfl (by simp [Value.oneCell']) ?_)
            have hds : DS0 = ⟨v0, v1, v2, v3, v4, v5, v6, v7, v8, lj, vb, vk, vd⟩ := by rw [HDS.out, HV.out, if_pos rfl]; have := HVS.out; unfold decS at this; rw [HV.out, if_pos rfl] at this; exact this
            refine bodyPost_ret (results_rdec rfl rfl (setRow_heap _ _ _ #[.int .i64 v0, .int .i64 v1, .string v2, .int .i64 v3, .int .i64 v4, .int .i64 v5, .int .i64 v6, .int .i64 v7, .slice Al nl cl, .slice B j k, .string vb, .int .i64 vk, .string vd] _ _ HD8.out.hq) rfl) rfl ⟨Al, nl, cl, B, j, k, by rw [hds, HDE.out, HV.out]; rfl, ?_, ?_, (fun ad hA => by have := HNL.out ad hA; omega), (fun ad hA => by have := HNB.out ad hA; omega), below_setRow HD8.out.hb (Nat.le_refl _) _⟩
            · rw [hds]; exact Row.keep HI8.out fun ad hA _ _ => setRow_other _ _ _ _ (by have := HNL.out ad hA; omega)
            · rw [hds]; exact Row.keep HP8.out fun ad hA _ _ => setRow_other _ _ _ _ (by have := HNB.out ad hA; omega)
          · have HV := Lib.hid (HSP4.out.2 hw)
            have hl : ¬ t1.toList = t2.toList := fun h => hw (strOf_inj (by rw [← ht1, ← ht2]; exact (toList_iff _ _).1 h))
            have hl2 : (t1.toList == t2.toList) = false := by simpa using hl
            clear ht1 ht2 hw
            go_wp2_with (refine wpList_store_row rfl 27 (.tmp 2) (.tmp 138) rfl w.heap.size zeroA rfl rfl 27 _ HD8.out.hq (by kernel_rfl) rfl (by simp [Value.oneCell', zeroA]) ?_)
            refine bodyPost_ret (results_rdec rfl rfl (setRow_heap _ _ _ zeroA _ _ HD8.out.hq) rfl) rfl ⟨none, 0, 0, none, 0, 0, by rw [HDS.out, HDE.out, HV.out]; rfl, by rw [HDS.out, HV.out]; exact Row.nilRow _ _, by rw [HDS.out, HV.out]; exact Row.nilRow _ _, (fun _ h => by cases h), (fun _ h => by cases h), below_setRow HD8.out.hb (Nat.le_refl _) _⟩
        · have HQDS := Lib.hid HQ.out.1; have HOJ := Lib.hid HQ.out.2.1; have HPO := Lib.hid HQ.out.2.2.1; have HIR := Lib.hid HQ.out.2.2.2.1; have HAL := Lib.hid HQ.out.2.2.2.2.1
          clear HQ HDb HIb HRb HXb
          by_cases h64 : 64 ≤ j
          · have HV := Lib.hid (HBIG.out (by omega))
            go_wp2_with (refine wpList_store_row rfl 27 (.tmp 2) (.tmp 81) rfl w.heap.size zeroA rfl rfl 27 _ HQDS.out.hq (by kernel_rfl) rfl (by simp [Value.oneCell', zeroA]) ?_)
            refine bodyPost_ret (results_rdec rfl rfl (setRow_heap _ _ _ zeroA _ _ HQDS.out.hq) rfl) rfl ⟨none, 0, 0, none, 0, 0, by rw [HDS.out, HDE.out, HV.out]; rfl, by rw [HDS.out, HV.out]; exact Row.nilRow _ _, by rw [HDS.out, HV.out]; exact Row.nilRow _ _, (fun _ h => by cases h), (fun _ h => by cases h), below_setRow HQDS.out.hb (Nat.le_refl _) _⟩
          have hl0 : (pinsL j ry).2.1.length ≤ 900000 := Nat.le_trans (pinsL_le ry j) hly
          have HSS : Hid (pinsL (j + 1) ry = ((pinsL j ry).1 ++ [pinAt (pinsL j ry).2.1], pinRest (pinsL j ry).2.1, (pinsL j ry).2.2 && pinOk (pinsL j ry).2.1)) := Lib.hid rfl
          have HPK : Hid (pinOk (pinsL j ry).2.1 = ((takeI (pinsL j ry).2.1).2.2 && (takeI (takeI (pinsL j ry).2.1).2.1).2.2 && (takeS (takeI (takeI (pinsL j ry).2.1).2.1).2.1 32).2.2)) := Lib.hid rfl
          have HPA : Hid (pinAt (pinsL j ry).2.1 = ⟨(takeI (pinsL j ry).2.1).1, (takeI (takeI (pinsL j ry).2.1).2.1).1, (takeS (takeI (takeI (pinsL j ry).2.1).2.1).2.1 32).1⟩) := Lib.hid rfl
          have HPT : Hid (pinRest (pinsL j ry).2.1 = (takeS (takeI (takeI (pinsL j ry).2.1).2.1).2.1 32).2.1) := Lib.hid rfl
          have HLN := Lib.hid (pinsL_len ry j)
          generalize (pinsL j ry).2.1 = x0 at hl0 HSS HPK HPA HPT HQDS
          generalize (pinsL j ry).1 = l0 at HSS HPO HLN
          have hx1 := Nat.le_trans (takeI_le x0) hl0
          have N0 := Lib.hid (fun ok y h => refRdInt (w.heap.size + 1) x0 ok y h hl0)
          generalize takeI x0 = X0 at hx1 HPK HPA HPT N0
          obtain ⟨a0, x1, q0⟩ := X0
          simp only at hx1 HPK HPA HPT N0
          have hx2 := Nat.le_trans (takeI_le x1) hx1
          have N1 := Lib.hid (fun ok y h => refRdInt (w.heap.size + 1) x1 ok y h hx1)
          generalize takeI x1 = X1 at hx2 HPK HPA HPT N1
          obtain ⟨a1, x2, q1⟩ := X1
          simp only at hx2 HPK HPA HPT N1
          have N2 := Lib.hid (fun ok y h => refRdText (w.heap.size + 1) x2 ok 32 y h hx2)
          generalize takeS x2 32 = X2 at HPK HPA HPT N2
          obtain ⟨a2, x3, q2⟩ := X2
          simp only at HPK HPA HPT N2
          have HOB : Hid (∀ k', Value.ownBlock (.slice B j k) = some k' → w.heap.size + 3 ≤ k' ∧ k' < wr.heap.size) := Lib.hid fun k' hk => World.ownsRow.lt HPO.out k' hk
          go_wp2_with fail
          refine (N0.out true wr HQDS.out.rd).mono ?_
          rintro e y1 hrd
          have HD1 := Lib.hid (HQDS.out.read hrd)
          obtain ⟨_, _, _, rfl, -, -, -, hbut⟩ := hrd
          have HI1 := Lib.hid (but_up hbut HIR.out HNL.out (by omega)); have HP1 : Hid (POwn y1 (w.heap.size + 3) (.slice B j k) l0) := Lib.hid (own_but HPO.out hbut (by omega)); have HZ1 := Lib.hid hbut.size
          clear hbut hc9 hcd HQDS HIR HPO
          go_wp2_with fail
          refine (N1.out (true && q0) y1 HD1.out.rd).mono ?_
          rintro e y2 hrd
          have HD2 := Lib.hid (HD1.out.read hrd)
          obtain ⟨_, _, _, rfl, -, -, -, hbut⟩ := hrd
          have HI2 := Lib.hid (but_up hbut HI1.out HNL.out (by omega)); have HP2 : Hid (POwn y2 (w.heap.size + 3) (.slice B j k) l0) := Lib.hid (own_but HP1.out hbut (by omega)); have HZ2 := Lib.hid (Nat.le_trans HZ1.out hbut.size)
          clear hbut HD1 HI1 HP1
          go_wp2_with fail
          refine (N2.out (true && q0 && q1) y2 HD2.out.rd).mono ?_
          rintro e y3 hrd
          have HD3 := Lib.hid (HD2.out.read hrd)
          obtain ⟨A3, m3, c3, rfl, hD3, hr3, hn3, hbut⟩ := hrd
          have HI3 := Lib.hid (but_up hbut HI2.out HNL.out (by omega)); have HP3 : Hid (POwn y3 (w.heap.size + 3) (.slice B j k) l0) := Lib.hid (own_but HP2.out hbut (by omega)); have HZ3 := Lib.hid (Nat.le_trans HZ2.out hbut.size)
          have HA3 : Hid (∀ ad, A3 = some ad → Value.ownBlock (.slice B j k) ≠ some ad.block) := Lib.hid fun ad hA he => by have h1 := (HOB.out _ he).2; have h2 := (hn3 ad hA).1; have h3 := HZ2.out; omega
          have HA3G : Hid (∀ ad, A3 = some ad → w.heap.size + 2 < ad.block) := Lib.hid fun ad hA => Nat.lt_of_lt_of_le HD2.out.lp (hn3 ad hA).1
          have HA3L : Hid (∀ ad, A3 = some ad → ad.block < y3.heap.size) := Lib.hid fun ad hA => (hn3 ad hA).2
          have HDR := Lib.hid hD3; have HBR := Lib.hid hr3
          clear hbut hD3 hr3 hn3 HD2 HI2 HP2
          have hlj : l0.length = j := HLN.out
          have hb2 : Below y3.heap.size y3 ((y3.alloc (.cells #[.int .i64 a0, .int .i64 a1, .string a2] 74)).alloc (.cells #[.int .i64 a0, .int .i64 a1, .string a2] 74)) := (one_new y3 _).alloc (by simp) _
          have hrx : Row ((y3.alloc (.cells #[.int .i64 a0, .int .i64 a1, .string a2] 74)).alloc (.cells #[.int .i64 a0, .int .i64 a1, .string a2] 74)) (some ⟨(y3.alloc (.cells #[.int .i64 a0, .int .i64 a1, .string a2] 74)).heap.size, 0, none⟩) 1 1 3 (pinC ⟨a0, a1, a2⟩) := Row.of_block (cs := #[.int .i64 a0, .int .i64 a1, .string a2]) (heap_alloc_new _ _) rfl
          rw [World.size_alloc] at hrx
          have HRX := Lib.hid hrx
          have HPX : Hid (POwn ((y3.alloc (.cells #[.int .i64 a0, .int .i64 a1, .string a2] 74)).alloc (.cells #[.int .i64 a0, .int .i64 a1, .string a2] 74)) (w.heap.size + 3) (.slice B j k) l0) := Lib.hid (World.ownsRow.alloc (World.ownsRow.alloc HP3.out _) _)
          have HDX := Lib.hid (HD3.out.later hb2); have HIX := Lib.hid (HI3.out.later hb2)
          have HDRX := Lib.hid ((hb2.block _ (by have := HD3.out.lp; omega)).trans HDR.out); have HBRX := Lib.hid (BRow.later HBR.out hb2)
          have HSX : Hid (((y3.alloc (.cells #[.int .i64 a0, .int .i64 a1, .string a2] 74)).alloc (.cells #[.int .i64 a0, .int .i64 a1, .string a2] 74)).heap.size = y3.heap.size + 2) := Lib.hid (by simp)
          have hc9 : (y3.alloc (.cells #[.int .i64 a0, .int .i64 a1, .string a2] 74)).cell? ⟨w.heap.size + 2, 9, none⟩ = some (.slice B j k) := by rw [(HD3.out.later (one_new y3 (.cells #[.int .i64 a0, .int .i64 a1, .string a2] 74))).cells]; rfl
          have HL3 : Hid (w.heap.size + 2 < y3.heap.size) := Lib.hid HD3.out.lp
          clear hb2 hrx HD3 HI3 HP3 HDR HBR
          go_wp2_with (at_builtin; go_must (refine wpList_app2 _ rfl (.tmp 90) (.tmp 92) 23 23 74 rfl (w.heap.size + 3) Tryz.underlying23 pin_inf rfl (.slice B j k) _ _ HPX.out rfl _ 1 (pinC ⟨a0, a1, a2⟩) (Row.src HRX.out Tryz.underlying23 (pinsC_one' _)) rfl (by unfold maxLen; omega) (by omega) (by rw [HSX.out]; have := HL3.out; omega) ?_); intro v4 w4 ho4 hb4 hk4 hf4; obtain ⟨B', k', hv4, hrow4⟩ := Row.of_own ho4; subst hv4; rw [hlj] at ho4 hf4 ⊢; have HD4 := Lib.hid (HDX.out.grown HDRX.out HBRX.out hb4 hk4 HA3.out); have HO4 := Lib.hid ho4; have HK4 := Lib.hid hk4; have HF4 := Lib.hid hf4; have HB4 := Lib.hid hb4; have hc9 : w4.cell? ⟨w.heap.size + 2, 9, none⟩ = some (.slice B j k) := (by rw [HD4.out.cells]; rfl); have hz9 : w4.frozen? ⟨w.heap.size + 2, 9, none⟩ = false := HD4.out.froz 9; clear ho4 hb4 hk4 hf4 hrow4)
          have hss := HSX.out
          have hl3 := HL3.out
          refine ⟨⟨j + 1, by omega, by omega, by go_num, B', k', (true && q0 && q1 && q2), A3, m3, c3, Lib.hid ⟨?_, ?_, ?_, ?_, ?_, ?_, ?_, ?_⟩⟩, by simp [intOf]; omega⟩
          · rw [HSS.out, HPT.out]; exact HD4.out.setp rfl 9 (.slice B' (j + 1) k')
          · rw [HSS.out, HPK.out]; have h := HOJ.out; simp only [← Bool.and_assoc]; rw [← h]
          · rw [HSS.out, HPA.out]; unfold POwn; rw [pinsC_app, List.length_append, pinsC_single, hlj]
            exact own_set HO4.out (fun he => by have := (World.ownsRow.lt HO4.out _ he).1; omega) 9 _
          · exact Row.keep HIX.out fun ad hA h0 hlt => (Below.heap_setCell _ _ _ _ (by have := HNL.out ad hA; show ad.block ≠ w.heap.size + 2; omega)).trans (HK4.out _ hlt (HAL.out ad hA h0))
          · intro ad hA h0 he
            rcases HF4.out with h | ⟨g, hg, h⟩
            · exact HAL.out ad hA h0 (h.symm.trans he)
            · rw [h] at he; injection he with he
              have := Row.lt HIX.out (by omega) ad hA h0
              omega
          · exact (Below.heap_setCell _ _ _ _ (by show w.heap.size + 1 ≠ w.heap.size + 2; omega)).trans ((HB4.out.block _ (by omega)).trans HDRX.out)
          · rw [HSS.out, HPT.out]
            exact Row.keep HBRX.out fun ad hA _ hlt => (Below.heap_setCell _ _ _ _ (by have := HA3G.out ad hA; show ad.block ≠ w.heap.size + 2; omega)).trans (HK4.out _ hlt (HA3.out ad hA))
          · intro ad hA he
            rcases HF4.out with h | ⟨g, hg, h⟩
            · exact HA3.out ad hA (h.symm.trans he)
            · rw [h] at he; injection he with he
              have := HA3L.out ad hA
              omega
      · have HDw := Lib.hid HQ.out.1; have HOJ := Lib.hid HQ.out.2.1; have HIR := Lib.hid HQ.out.2.2.2.1
        have HPR : Hid (PRow wr B j k (pinsL j ry).1) := Lib.hid (own_prow HQ.out.2.2.1)
        have HNB : Hid (∀ ad, B = some ad → w.heap.size + 2 < ad.block) := Lib.hid fun ad hA => by subst hA; exact (World.ownsRow.lt HQ.out.2.2.1 _ rfl).1
        clear HQ HDb HIb HRb HXb
        have hlr : (pinsL j ry).2.1.length ≤ 900000 := Nat.le_trans (pinsL_le ry j) hly
        have HSPj := Lib.hid (HSP.out (pinsL j ry) (takeS (pinsL j ry).2.1 4096) (takeI (takeS (pinsL j ry).2.1 4096).2.1) (takeS (takeI (takeS (pinsL j ry).2.1 4096).2.1).2.1 32) j _ rfl rfl rfl rfl rfl hjn hj64 (.inl (by omega)))
        have NB := Lib.hid (fun ok y h => refRdText (w.heap.size + 1) (pinsL j ry).2.1 ok 4096 y h hlr)
        have hlb := Nat.le_trans (takeS_le (pinsL j ry).2.1 4096) hlr
        have hsb := takeS_size (pinsL j ry).2.1 4096 (by omega)
        have hpb := pinsL_size ry j
        have hpl := pinsL_len ry j
        clear HSP
        generalize (pinsL j ry).2.1 = rj at HSPj NB hlb hsb HDw
        generalize (pinsL j ry).2.2 = kj at HSPj HOJ
        generalize (pinsL j ry).1 = lj at HSPj HPR hpb hpl
        generalize takeS rj 4096 = Xb at HSPj NB hlb hsb
        obtain ⟨vb, rb, kb⟩ := Xb
        simp only at HSPj NB hlb hsb
        have NK := Lib.hid (fun ok y h => refRdInt (w.heap.size + 1) rb ok y h hlb)
        have hlk := Nat.le_trans (takeI_le rb) hlb
        generalize takeI rb = Xk at HSPj NK hlk
        obtain ⟨vk, rk, kk⟩ := Xk
        simp only at HSPj NK hlk
        have ND := Lib.hid (fun ok y h => refRdText (w.heap.size + 1) rk ok 32 y h hlk)
        have hsd := takeS_size rk 32 (by omega)
        generalize takeS rk 32 = Xd at HSPj ND hsd
        obtain ⟨vd, rd13, kd⟩ := Xd
        simp only at HSPj ND hsd
        go_wp2_with fail
        refine (NB.out okj wr HDw.out.rd).mono ?_
        rintro e z1 hrd
        have HDz1 := Lib.hid (HDw.out.read hrd)
        obtain ⟨_, _, _, rfl, -, -, -, hbut⟩ := hrd
        have HI1 := Lib.hid (but_up hbut HIR.out HNL.out (by omega)); have HP1 := Lib.hid (but_up hbut HPR.out HNB.out (by omega)); clear hbut HDw HIR HPR
        have hc10 : z1.cell? ⟨w.heap.size + 2, 10, none⟩ = some (.string ⟨#[]⟩) := by rw [HDz1.out.cells]; rfl
        have hz10 : z1.frozen? ⟨w.heap.size + 2, 10, none⟩ = false := HDz1.out.froz 10
        go_wp2_with fail
        have HDz2 : Hid (DS w (z1.setCell ⟨w.heap.size + 2, 10, none⟩ (.string vb)) #[.int .i64 v0, .int .i64 v1, .string v2, .int .i64 v3, .int .i64 v4, .int .i64 v5, .int .i64 v6, .int .i64 v7, .slice Al nl cl, .slice B j k, .string vb, .int .i64 0, .string ⟨#[]⟩] rb (okj && kb)) := Lib.hid (HDz1.out.setp rfl 10 (.string vb))
        have HI2 := Lib.hid (set_up HI1.out HNL.out 10 (.string vb)); have HP2 := Lib.hid (set_up HP1.out HNB.out 10 (.string vb))
        clear HDz1 HI1 HP1 hc10 hz10
        generalize z1.setCell ⟨w.heap.size + 2, 10, none⟩ (.string vb) = z2 at HDz2 HI2 HP2 ⊢
        refine (NK.out (okj && kb) z2 HDz2.out.rd).mono ?_
        rintro e z3 hrd
        have HDz3 := Lib.hid (HDz2.out.read hrd)
        obtain ⟨_, _, _, rfl, -, -, -, hbut⟩ := hrd
        have HI3 := Lib.hid (but_up hbut HI2.out HNL.out (by omega)); have HP3 := Lib.hid (but_up hbut HP2.out HNB.out (by omega)); clear hbut HDz2 HI2 HP2
        go_wp2_with fail
        refine (ND.out (okj && kb && kk) z3 HDz3.out.rd).mono ?_
        rintro e z4 hrd
        have HDz4 := Lib.hid (HDz3.out.read hrd)
        obtain ⟨_, _, _, rfl, -, -, -, hbut⟩ := hrd
        have HI4 := Lib.hid (but_up hbut HI3.out HNL.out (by omega)); have HP4 := Lib.hid (but_up hbut HP3.out HNB.out (by omega)); clear hbut HDz3 HI3 HP3
        obtain ⟨okF, hoF⟩ : ∃ o : Bool, o = (okj && kb && kk && kd) := ⟨_, rfl⟩
        have HDz5 : Hid (DS w ((z4.setCell ⟨w.heap.size + 2, 11, none⟩ (.int .i64 vk)).setCell ⟨w.heap.size + 2, 12, none⟩ (.string vd)) #[.int .i64 v0, .int .i64 v1, .string v2, .int .i64 v3, .int .i64 v4, .int .i64 v5, .int .i64 v6, .int .i64 v7, .slice Al nl cl, .slice B j k, .string vb, .int .i64 vk, .string vd] rd13 okF) := by rw [hoF]; exact Lib.hid ((HDz4.out.setp rfl 11 (.int .i64 vk)).setp rfl 12 (.string vd))
        have HI5 := Lib.hid (set_up (set_up HI4.out HNL.out 11 (.int .i64 vk)) HNL.out 12 (.string vd)); have HP5 := Lib.hid (set_up (set_up HP4.out HNB.out 11 (.int .i64 vk)) HNB.out 12 (.string vd))
        have HOF : Hid (okF = (k0 && k1 && k2 && k3 && k4 && k5 && k6 && k7 && k8 && ky && kj && kb && kk && kd)) := by unfold Hid; rw [hoF, HOJ.out]
        rw [← HOF.out] at HSPj
        clear hoF HOF HOJ
        obtain ⟨hc0, hc1, hc2, hc3, hc4, hc5, hc6, hc7, hc8, hc9', hc10, hc11, hc12⟩ := stm_cells (A := Al) (n := nl) (c := cl) (B := B) (m := j) (k := k) (s := ⟨v0, v1, v2, v3, v4, v5, v6, v7, v8, lj, vb, 0, ⟨#[]⟩⟩) HDz4.out.hp
        have hz11 : z4.frozen? ⟨w.heap.size + 2, 11, none⟩ = false := HDz4.out.froz 11
        have hz12 : z4.frozen? ⟨w.heap.size + 2, 12, none⟩ = false := HDz4.out.froz 12
        obtain ⟨Af, mf, cf, hRf, hrf⟩ := HDz5.out.rd
        have hlf : rd13.length = mf := hrf.len
        have hcf0 : ((z4.setCell ⟨w.heap.size + 2, 11, none⟩ (.int .i64 vk)).setCell ⟨w.heap.size + 2, 12, none⟩ (.string vd)).cell? ⟨w.heap.size + 1, 0, none⟩ = some (.slice Af mf cf) := by rw [cell_of_row _ _ _ _ _ _ hRf]; rfl
        have hcf1 : ((z4.setCell ⟨w.heap.size + 2, 11, none⟩ (.int .i64 vk)).setCell ⟨w.heap.size + 2, 12, none⟩ (.string vd)).cell? ⟨w.heap.size + 1, 1, none⟩ = some (.bool okF) := by rw [cell_of_row _ _ _ _ _ _ hRf]; rfl
        clear hRf hrf HDz4 HI4 HP4
        have HZ1 := Lib.hid hcf0; have HZ2 := Lib.hid hcf1
        have hsm : Small ⟨v0, v1, v2, v3, v4, v5, v6, v7, v8, lj, vb, vk, vd⟩ := ⟨by simp only; omega, by simp only; omega, by simp only; omega, by simp only; omega, by simp only; omega, by simp only; omega⟩
        have HSM := Lib.hid hsm
        have HCK := Lib.hid (refCheck_any ⟨v0, v1, v2, v3, v4, v5, v6, v7, v8, lj, vb, vk, vd⟩ Al nl cl B j k ((z4.setCell ⟨w.heap.size + 2, 11, none⟩ (.int .i64 vk)).setCell ⟨w.heap.size + 2, 12, none⟩ (.string vd)) HI5.out HP5.out (by omega) (by omega) (by simp only; omega))
        have HSL : Hid (∀ y, Below ((z4.setCell ⟨w.heap.size + 2, 11, none⟩ (.int .i64 vk)).setCell ⟨w.heap.size + 2, 12, none⟩ (.string vd)).heap.size ((z4.setCell ⟨w.heap.size + 2, 11, none⟩ (.int .i64 vk)).setCell ⟨w.heap.size + 2, 12, none⟩ (.string vd)) y → Calls Tryz.prog 50 #[stmV ⟨v0, v1, v2, v3, v4, v5, v6, v7, v8, lj, vb, vk, vd⟩ Al nl cl B j k] y (SaysL (.bool (sealedB ⟨v0, v1, v2, v3, v4, v5, v6, v7, v8, lj, vb, vk, vd⟩)) y)) := Lib.hid fun y h => refSealed_any ⟨v0, v1, v2, v3, v4, v5, v6, v7, v8, lj, vb, vk, vd⟩ Al nl cl B j k y (IRow.later HI5.out h) (PRow.later HP5.out h) HSM.out
        have HEN : Hid (∀ y, Below ((z4.setCell ⟨w.heap.size + 2, 11, none⟩ (.int .i64 vk)).setCell ⟨w.heap.size + 2, 12, none⟩ (.string vd)).heap.size ((z4.setCell ⟨w.heap.size + 2, 11, none⟩ (.int .i64 vk)).setCell ⟨w.heap.size + 2, 12, none⟩ (.string vd)) y → Calls Tryz.prog 45 #[stmV ⟨v0, v1, v2, v3, v4, v5, v6, v7, v8, lj, vb, vk, vd⟩ Al nl cl B j k] y (EncS y ⟨v0, v1, v2, v3, v4, v5, v6, v7, v8, lj, vb, vk, vd⟩)) := Lib.hid fun y h => refEncode_any ⟨v0, v1, v2, v3, v4, v5, v6, v7, v8, lj, vb, vk, vd⟩ Al nl cl B j k y (IRow.later HI5.out h) (PRow.later HP5.out h) HSM.out
        have HEB : Hid (checkV ⟨v0, v1, v2, v3, v4, v5, v6, v7, v8, lj, vb, vk, vd⟩ = 0 → sealedB ⟨v0, v1, v2, v3, v4, v5, v6, v7, v8, lj, vb, vk, vd⟩ = true → encB ⟨v0, v1, v2, v3, v4, v5, v6, v7, v8, lj, vb, vk, vd⟩ = wholeB ⟨v0, v1, v2, v3, v4, v5, v6, v7, v8, lj, vb, vk, vd⟩) := Lib.hid fun h1 h2 => by unfold encB; rw [if_pos h1, if_pos h2]
        unfold stmV at HCK HSL HEN
        simp only at HCK HSL HEN
        generalize checkV ⟨v0, v1, v2, v3, v4, v5, v6, v7, v8, lj, vb, vk, vd⟩ = cv at HSPj HCK HEB
        generalize sealedB ⟨v0, v1, v2, v3, v4, v5, v6, v7, v8, lj, vb, vk, vd⟩ = sv at HSPj HSL HEB
        generalize wholeB ⟨v0, v1, v2, v3, v4, v5, v6, v7, v8, lj, vb, vk, vd⟩ = wb at HSPj HEB
        clear hsm
        cases okF
        · have HV := Lib.hid (HSPj.out.1 rfl)
          go_wp2_with (refine wpList_store_row rfl 27 (.tmp 2) (.tmp 127) rfl w.heap.size zeroA rfl rfl 27 _ HDz5.out.hq (by kernel_rfl) rfl (by simp [Value.oneCell', zeroA]) ?_)
          refine bodyPost_ret (results_rdec rfl rfl (setRow_heap _ _ _ zeroA _ _ HDz5.out.hq) rfl) rfl ⟨none, 0, 0, none, 0, 0, by rw [HDS.out, HDE.out, HV.out]; rfl, by rw [HDS.out, HV.out]; exact Row.nilRow _ _, by rw [HDS.out, HV.out]; exact Row.nilRow _ _, (fun _ h => by cases h), (fun _ h => by cases h), below_setRow HDz5.out.hb (Nat.le_refl _) _⟩
        by_cases h0 : mf = 0
        rotate_left
        · have e0 : 0 < mf := by omega
          have HV := Lib.hid ((HSPj.out.2 rfl).1 (by rw [hlf]; exact h0))
          go_wp2_with (refine wpList_store_row rfl 27 (.tmp 2) (.tmp 127) rfl w.heap.size zeroA rfl rfl 27 _ HDz5.out.hq (by kernel_rfl) rfl (by simp [Value.oneCell', zeroA]) ?_)
          refine bodyPost_ret (results_rdec rfl rfl (setRow_heap _ _ _ zeroA _ _ HDz5.out.hq) rfl) rfl ⟨none, 0, 0, none, 0, 0, by rw [HDS.out, HDE.out, HV.out]; rfl, by rw [HDS.out, HV.out]; exact Row.nilRow _ _, by rw [HDS.out, HV.out]; exact Row.nilRow _ _, (fun _ h => by cases h), (fun _ h => by cases h), below_setRow HDz5.out.hb (Nat.le_refl _) _⟩
        have HSP2 := Lib.hid ((HSPj.out.2 rfl).2 (by rw [hlf]; exact h0))
        clear HSPj
        go_wp2_with fail
        refine HCK.out.mono ?_
        clear hc0 hc1 hc2 hc3 hc4 hc5 hc6 hc7 hc8 hc9' hc10 hc11 hc12 hz11 hz12
        generalize ((z4.setCell ⟨w.heap.size + 2, 11, none⟩ (.int .i64 vk)).setCell ⟨w.heap.size + 2, 12, none⟩ (.string vd)) = z5 at HDz5 HI5 HP5 HSL HEN HZ1 HZ2 ⊢
        rintro e z6 ⟨rfl, hb⟩
        have HD6 := Lib.hid (HDz5.out.later hb); have HI6 := Lib.hid (IRow.later HI5.out hb); have HP6 := Lib.hid (PRow.later HP5.out hb); have HN6 := Lib.hid hb
        clear hb HI5 HP5 HCK HZ1 HZ2
        by_cases hc0 : cv = 0
        rotate_left
        · have g1 : (cv == 0) = false := by simpa using hc0
          have HV := Lib.hid (HSP2.out.1 hc0)
          go_wp2_with (refine wpList_store_row rfl 27 (.tmp 2) (.tmp 127) rfl w.heap.size zeroA rfl rfl 27 _ HD6.out.hq (by kernel_rfl) rfl (by simp [Value.oneCell', zeroA]) ?_)
          refine bodyPost_ret (results_rdec rfl rfl (setRow_heap _ _ _ zeroA _ _ HD6.out.hq) rfl) rfl ⟨none, 0, 0, none, 0, 0, by rw [HDS.out, HDE.out, HV.out]; rfl, by rw [HDS.out, HV.out]; exact Row.nilRow _ _, by rw [HDS.out, HV.out]; exact Row.nilRow _ _, (fun _ h => by cases h), (fun _ h => by cases h), below_setRow HD6.out.hb (Nat.le_refl _) _⟩
        subst hc0
        have HSP3 := Lib.hid (HSP2.out.2 rfl); clear HSP2
        obtain ⟨hc0, hc1, hc2, hc3, hc4, hc5, hc6, hc7, hc8, hc9, hc10, hc11, hc12⟩ := stm_cells (A := Al) (n := nl) (c := cl) (B := B) (m := j) (k := k) (s := ⟨v0, v1, v2, v3, v4, v5, v6, v7, v8, lj, vb, vk, vd⟩) HD6.out.hp
        go_wp2_with fail
        refine (HSL.out z6 HN6.out).mono ?_
        rintro e z7 ⟨rfl, hb⟩
        have HD7 := Lib.hid (HD6.out.later hb); have HI7 := Lib.hid (IRow.later HI6.out hb); have HP7 := Lib.hid (PRow.later HP6.out hb); have HN7 := Lib.hid (HN6.out.trans (hb.mono HN6.out.size))
        clear hb HI6 HP6 HSL HN6 HD6 hc0 hc1 hc2 hc3 hc4 hc5 hc6 hc7 hc8 hc9 hc10 hc11 hc12
        cases sv
        · have HV := Lib.hid (HSP3.out.1 rfl)
          go_wp2_with (refine wpList_store_row rfl 27 (.tmp 2) (.tmp 127) rfl w.heap.size zeroA rfl rfl 27 _ HD7.out.hq (by kernel_rfl) rfl (by simp [Value.oneCell', zeroA]) ?_)
          refine bodyPost_ret (results_rdec rfl rfl (setRow_heap _ _ _ zeroA _ _ HD7.out.hq) rfl) rfl ⟨none, 0, 0, none, 0, 0, by rw [HDS.out, HDE.out, HV.out]; rfl, by rw [HDS.out, HV.out]; exact Row.nilRow _ _, by rw [HDS.out, HV.out]; exact Row.nilRow _ _, (fun _ h => by cases h), (fun _ h => by cases h), below_setRow HD7.out.hb (Nat.le_refl _) _⟩
        have HSP4 := Lib.hid (HSP3.out.2 rfl); clear HSP3
        obtain ⟨hc0, hc1, hc2, hc3, hc4, hc5, hc6, hc7, hc8, hc9, hc10, hc11, hc12⟩ := stm_cells (A := Al) (n := nl) (c := cl) (B := B) (m := j) (k := k) (s := ⟨v0, v1, v2, v3, v4, v5, v6, v7, v8, lj, vb, vk, vd⟩) HD7.out.hp
        go_wp2_with fail
        refine (HEN.out z7 HN7.out).mono ?_
        rintro e z8 ⟨A8, m8, c8, rfl, hr8, hb⟩
        have HD8 := Lib.hid (HD7.out.later hb); have HI8 := Lib.hid (IRow.later HI7.out hb); have HP8 := Lib.hid (PRow.later HP7.out hb)
        rw [HEB.out (by first | rfl | trivial) (by first | rfl | trivial)] at hr8
        obtain ⟨t1, ht1⟩ : ∃ t, t = strOf wb := ⟨_, rfl⟩
        obtain ⟨t2, ht2⟩ : ∃ t, t = strOf us := ⟨_, rfl⟩
        have hcv1 : (convert 30 9 (.slice A8 m8 c8)).run Tryz.prog z8 = .ok (.string t1) z8 := by rw [ht1]; exact run_conv_row hr8 Tryz.underlying30 Tryz.underlying5 Tryz.underlying9
        have hcv2 : (convert 30 9 (.slice A n c)).run Tryz.prog z8 = .ok (.string t2) z8 := by rw [ht2]; exact run_conv_row (Row.later HUS.out HD8.out.hb) Tryz.underlying30 Tryz.underlying5 Tryz.underlying9
        clear hb hr8 HI7 HP7 HEN HN7 HD7 hc0 hc1 hc2 hc3 hc4 hc5 hc6 hc7 hc8 hc9 hc10 hc11 hc12 HEB
        by_cases hw : wb = us
        · have hd := HSP4.out.1 hw
          have HV := Lib.hid hd.1; have HVS := Lib.hid hd.2
          have ht : t1 = t2 := by rw [ht1, ht2, hw]
          have hl : t1.toList = t2.toList := by rw [ht]
          have hl2 : (t1.toList != t2.toList) = false := by rw [hl]; simp
          obtain ⟨hc0, hc1, hc2, hc3, hc4, hc5, hc6, hc7, hc8, hc9, hc10, hc11, hc12⟩ := stm_cells (A := Al) (n := nl) (c := cl) (B := B) (m := j) (k := k) (s := ⟨v0, v1, v2, v3, v4, v5, v6, v7, v8, lj, vb, vk, vd⟩) HD8.out.hp
          clear ht1 ht2 hd ht
          go_wp2_with (refine wpList_store_row rfl 27 (.tmp 2) (.tmp 139) rfl w.heap.size #[.int .i64 v0, .int .i64 v1, .string v2, .int .i64 v3, .int .i64 v4, .int .i64 v5, .int .i64 v6, .int .i64 v7, .slice Al nl cl, .slice B j k, .string vb, .int .i64 vk, .string vd] rfl rfl 27 _ HD8.out.hq (by kernel_rfl) rfl (by simp [Value.oneCell']) ?_)
          have hds : DS0 = ⟨v0, v1, v2, v3, v4, v5, v6, v7, v8, lj, vb, vk, vd⟩ := by rw [HDS.out, HV.out, if_pos rfl]; have := HVS.out; unfold decS at this; rw [HV.out, if_pos rfl] at this; exact this
          refine bodyPost_ret (results_rdec rfl rfl (setRow_heap _ _ _ #[.int .i64 v0, .int .i64 v1, .string v2, .int .i64 v3, .int .i64 v4, .int .i64 v5, .int .i64 v6, .int .i64 v7, .slice Al nl cl, .slice B j k, .string vb, .int .i64 vk, .string vd] _ _ HD8.out.hq) rfl) rfl ⟨Al, nl, cl, B, j, k, by rw [hds, HDE.out, HV.out]; rfl, ?_, ?_, (fun ad hA => by have := HNL.out ad hA; omega), (fun ad hA => by have := HNB.out ad hA; omega), below_setRow HD8.out.hb (Nat.le_refl _) _⟩
          · rw [hds]; exact Row.keep HI8.out fun ad hA _ _ => setRow_other _ _ _ _ (by have := HNL.out ad hA; omega)
          · rw [hds]; exact Row.keep HP8.out fun ad hA _ _ => setRow_other _ _ _ _ (by have := HNB.out ad hA; omega)
        · have HV := Lib.hid (HSP4.out.2 hw)
          have hl : ¬ t1.toList = t2.toList := fun h => hw (strOf_inj (by rw [← ht1, ← ht2]; exact (toList_iff _ _).1 h))
          have hl2 : (t1.toList == t2.toList) = false := by simpa using hl
          clear ht1 ht2 hw
          go_wp2_with (refine wpList_store_row rfl 27 (.tmp 2) (.tmp 138) rfl w.heap.size zeroA rfl rfl 27 _ HD8.out.hq (by kernel_rfl) rfl (by simp [Value.oneCell', zeroA]) ?_)
          refine bodyPost_ret (results_rdec rfl rfl (setRow_heap _ _ _ zeroA _ _ HD8.out.hq) rfl) rfl ⟨none, 0, 0, none, 0, 0, by rw [HDS.out, HDE.out, HV.out]; rfl, by rw [HDS.out, HV.out]; exact Row.nilRow _ _, by rw [HDS.out, HV.out]; exact Row.nilRow _ _, (fun _ h => by cases h), (fun _ h => by cases h), below_setRow HD8.out.hb (Nat.le_refl _) _⟩
  · have hdone : True := trivial
    clear hdone
    go_wp2_with fail
    have HDa : Hid (DS w (((y9.setCell ⟨w.heap.size + 2, 8, none⟩ (.slice Al nl cl)).setCell ⟨w.heap.size + 1, 0, none⟩ (.slice A9 m9 c9)).setCell ⟨w.heap.size + 1, 1, none⟩ (.bool k8)) #[.int .i64 v0, .int .i64 v1, .string v2, .int .i64 v3, .int .i64 v4, .int .i64 v5, .int .i64 v6, .int .i64 v7, .slice Al nl cl, .slice none 0 0, .string ⟨#[]⟩, .int .i64 0, .string ⟨#[]⟩] r9 k8) := Lib.hid ((HD9.out.setp rfl 8 (.slice Al nl cl)).setrd (Row.but HB9.out (But.set _ _ _) (row_u8 HB9.out HD9.out.hp rfl)) k8)
    have HIa : Hid (IRow (((y9.setCell ⟨w.heap.size + 2, 8, none⟩ (.slice Al nl cl)).setCell ⟨w.heap.size + 1, 0, none⟩ (.slice A9 m9 c9)).setCell ⟨w.heap.size + 1, 1, none⟩ (.bool k8)) Al nl cl v8) := Lib.hid (list_keep HIL.out HNL.out)
    clear HD9 HIL HB9 hc8 hz8 hcd0 hcd1 hzd0 hzd1
    generalize (((y9.setCell ⟨w.heap.size + 2, 8, none⟩ (.slice Al nl cl)).setCell ⟨w.heap.size + 1, 0, none⟩ (.slice A9 m9 c9)).setCell ⟨w.heap.size + 1, 1, none⟩ (.bool k8)) = ya at HDa HIa ⊢
    obtain ⟨oa, hoa⟩ : ∃ o : Bool, o = k8 := ⟨_, rfl⟩
    have HOC : Hid (oa = (k0 && k1 && k2 && k3 && k4 && k5 && k6 && k7 && k8)) := by unfold Hid; rw [hoa]; rw [← HOA.out]; simp
    rw [← hoa] at HDa
    clear hoa
    refine (NY.out oa ya HDa.out.rd).mono ?_
    rintro e yb hrd
    have HDb := Lib.hid (HDa.out.read hrd)
    obtain ⟨_, _, _, rfl, -, -, -, hbut⟩ := hrd
    have HIb := Lib.hid (but_up hbut HIa.out HNL.out (by omega)); clear hbut HDa HIa NY
    obtain ⟨Ab, nb, cb, hRb, hrb⟩ := HDb.out.rd
    have HRb := Lib.hid hRb; have HXb := Lib.hid hrb; clear hRb hrb
    go_wp2_with fail
    go_loopw [9] (fun i wr => ∃ j : Nat, j ≤ n0.toNat ∧ j ≤ 64 ∧ i = .int .i64 (n0 - j) ∧ ∃ B k okj Aj nj cj, Hid (DS w wr #[.int .i64 v0, .int .i64 v1, .string v2, .int .i64 v3, .int .i64 v4, .int .i64 v5, .int .i64 v6, .int .i64 v7, .slice Al nl cl, .slice B j k, .string ⟨#[]⟩, .int .i64 0, .string ⟨#[]⟩] (pinsL j ry).2.1 okj ∧ okj = (k0 && k1 && k2 && k3 && k4 && k5 && k6 && k7 && k8 && ky && (pinsL j ry).2.2) ∧ POwn wr (w.heap.size + 3) (.slice B j k) (pinsL j ry).1 ∧ IRow wr Al nl cl v8 ∧ (∀ ad, Al = some ad → 0 < nl → Value.ownBlock (.slice B j k) ≠ some ad.block) ∧
        wr.heap[w.heap.size + 1]? = some (.cells #[.slice Aj nj cj, .bool okj] 117 (0, 0)) ∧ BRow wr Aj nj cj (pinsL j ry).2.1 ∧ (∀ ad, Aj = some ad → Value.ownBlock (.slice B j k) ≠ some ad.block))) (fun i _ => (intOf i).toNat)
    case atStart => exact ⟨0, Nat.zero_le _, by omega, by simp, none, 0, (oa && ky), Ab, nb, cb, Lib.hid ⟨HDb.out, by rw [HOC.out]; simp [pinsL], World.ownsRow_nil _ _ _ _, HIb.out, (fun _ _ _ h => by cases h), HRb.out, HXb.out, (fun _ _ h => by cases h)⟩⟩
    case round =>
      obtain ⟨j, hjn, hj64, rfl, B, k, okj, Aj, nj, cj, HQ⟩ := hrel
      have hc9 : wr.cell? ⟨w.heap.size + 2, 9, none⟩ = some (.slice B j k) := by rw [HQ.out.1.cells]; rfl
      have hcd : wr.cell? ⟨w.heap.size + 1, 1, none⟩ = some (.bool okj) := by rw [cell_of_row _ _ _ _ _ _ HQ.out.2.2.2.2.2.1]; rfl
      by_cases hgt : 0 < n0 - (j : Int)
      · cases okj
        · have HDw := Lib.hid HQ.out.1; have HOJ := Lib.hid HQ.out.2.1; have HIR := Lib.hid HQ.out.2.2.2.1
          have HPR : Hid (PRow wr B j k (pinsL j ry).1) := Lib.hid (own_prow HQ.out.2.2.1)
          have HNB : Hid (∀ ad, B = some ad → w.heap.size + 2 < ad.block) := Lib.hid fun ad hA => by subst hA; exact (World.ownsRow.lt HQ.out.2.2.1 _ rfl).1
          obtain ⟨okj, hokj⟩ : ∃ o : Bool, o = false := ⟨_, rfl⟩
          rw [← hokj] at HDw HOJ hcd
          clear HQ HDb HIb HRb HXb
          have hlr : (pinsL j ry).2.1.length ≤ 900000 := Nat.le_trans (pinsL_le ry j) hly
          have HSPj := Lib.hid (HSP.out (pinsL j ry) (takeS (pinsL j ry).2.1 4096) (takeI (takeS (pinsL j ry).2.1 4096).2.1) (takeS (takeI (takeS (pinsL j ry).2.1 4096).2.1).2.1 32) j _ rfl rfl rfl rfl rfl hjn hj64 (.inr (by rw [← HOJ.out, hokj])))
          have NB := Lib.hid (fun ok y h => refRdText (w.heap.size + 1) (pinsL j ry).2.1 ok 4096 y h hlr)
          have hlb := Nat.le_trans (takeS_le (pinsL j ry).2.1 4096) hlr
          have hsb := takeS_size (pinsL j ry).2.1 4096 (by omega)
          have hpb := pinsL_size ry j
          have hpl := pinsL_len ry j
          clear HSP
          generalize (pinsL j ry).2.1 = rj at HSPj NB hlb hsb HDw
          generalize (pinsL j ry).2.2 = kj at HSPj HOJ
          generalize (pinsL j ry).1 = lj at HSPj HPR hpb hpl
          generalize takeS rj 4096 = Xb at HSPj NB hlb hsb
          obtain ⟨vb, rb, kb⟩ := Xb
          simp only at HSPj NB hlb hsb
          have NK := Lib.hid (fun ok y h => refRdInt (w.heap.size + 1) rb ok y h hlb)
          have hlk := Nat.le_trans (takeI_le rb) hlb
          generalize takeI rb = Xk at HSPj NK hlk
          obtain ⟨vk, rk, kk⟩ := Xk
          simp only at HSPj NK hlk
          have ND := Lib.hid (fun ok y h => refRdText (w.heap.size + 1) rk ok 32 y h hlk)
          have hsd := takeS_size rk 32 (by omega)
          generalize takeS rk 32 = Xd at HSPj ND hsd
          obtain ⟨vd, rd13, kd⟩ := Xd
          simp only at HSPj ND hsd
          go_wp2_with fail
          refine (NB.out okj wr HDw.out.rd).mono ?_
          rintro e z1 hrd
          have HDz1 := Lib.hid (HDw.out.read hrd)
          obtain ⟨_, _, _, rfl, -, -, -, hbut⟩ := hrd
          have HI1 := Lib.hid (but_up hbut HIR.out HNL.out (by omega)); have HP1 := Lib.hid (but_up hbut HPR.out HNB.out (by omega)); clear hbut HDw HIR HPR
          have hc10 : z1.cell? ⟨w.heap.size + 2, 10, none⟩ = some (.string ⟨#[]⟩) := by rw [HDz1.out.cells]; rfl
          have hz10 : z1.frozen? ⟨w.heap.size + 2, 10, none⟩ = false := HDz1.out.froz 10
          go_wp2_with fail
          have HDz2 : Hid (DS w (z1.setCell ⟨w.heap.size + 2, 10, none⟩ (.string vb)) #[.int .i64 v0, .int .i64 v1, .string v2, .int .i64 v3, .int .i64 v4, .int .i64 v5, .int .i64 v6, .int .i64 v7, .slice Al nl cl, .slice B j k, .string vb, .int .i64 0, .string ⟨#[]⟩] rb (okj && kb)) := Lib.hid (HDz1.out.setp rfl 10 (.string vb))
          have HI2 := Lib.hid (set_up HI1.out HNL.out 10 (.string vb)); have HP2 := Lib.hid (set_up HP1.out HNB.out 10 (.string vb))
          clear HDz1 HI1 HP1 hc10 hz10
          generalize z1.setCell ⟨w.heap.size + 2, 10, none⟩ (.string vb) = z2 at HDz2 HI2 HP2 ⊢
          refine (NK.out (okj && kb) z2 HDz2.out.rd).mono ?_
          rintro e z3 hrd
          have HDz3 := Lib.hid (HDz2.out.read hrd)
          obtain ⟨_, _, _, rfl, -, -, -, hbut⟩ := hrd
          have HI3 := Lib.hid (but_up hbut HI2.out HNL.out (by omega)); have HP3 := Lib.hid (but_up hbut HP2.out HNB.out (by omega)); clear hbut HDz2 HI2 HP2
          go_wp2_with fail
          refine (ND.out (okj && kb && kk) z3 HDz3.out.rd).mono ?_
          rintro e z4 hrd
          have HDz4 := Lib.hid (HDz3.out.read hrd)
          obtain ⟨_, _, _, rfl, -, -, -, hbut⟩ := hrd
          have HI4 := Lib.hid (but_up hbut HI3.out HNL.out (by omega)); have HP4 := Lib.hid (but_up hbut HP3.out HNB.out (by omega)); clear hbut HDz3 HI3 HP3
          obtain ⟨okF, hoF⟩ : ∃ o : Bool, o = (okj && kb && kk && kd) := ⟨_, rfl⟩
          have HDz5 : Hid (DS w ((z4.setCell ⟨w.heap.size + 2, 11, none⟩ (.int .i64 vk)).setCell ⟨w.heap.size + 2, 12, none⟩ (.string vd)) #[.int .i64 v0, .int .i64 v1, .string v2, .int .i64 v3, .int .i64 v4, .int .i64 v5, .int .i64 v6, .int .i64 v7, .slice Al nl cl, .slice B j k, .string vb, .int .i64 vk, .string vd] rd13 okF) := by rw [hoF]; exact Lib.hid ((HDz4.out.setp rfl 11 (.int .i64 vk)).setp rfl 12 (.string vd))
          have HI5 := Lib.hid (set_up (set_up HI4.out HNL.out 11 (.int .i64 vk)) HNL.out 12 (.string vd)); have HP5 := Lib.hid (set_up (set_up HP4.out HNB.out 11 (.int .i64 vk)) HNB.out 12 (.string vd))
          have HOF : Hid (okF = (k0 && k1 && k2 && k3 && k4 && k5 && k6 && k7 && k8 && ky && kj && kb && kk && kd)) := by unfold Hid; rw [hoF, HOJ.out]
          rw [← HOF.out] at HSPj
          clear hoF HOF HOJ
          obtain ⟨hc0, hc1, hc2, hc3, hc4, hc5, hc6, hc7, hc8, hc9', hc10, hc11, hc12⟩ := stm_cells (A := Al) (n := nl) (c := cl) (B := B) (m := j) (k := k) (s := ⟨v0, v1, v2, v3, v4, v5, v6, v7, v8, lj, vb, 0, ⟨#[]⟩⟩) HDz4.out.hp
          have hz11 : z4.frozen? ⟨w.heap.size + 2, 11, none⟩ = false := HDz4.out.froz 11
          have hz12 : z4.frozen? ⟨w.heap.size + 2, 12, none⟩ = false := HDz4.out.froz 12
          obtain ⟨Af, mf, cf, hRf, hrf⟩ := HDz5.out.rd
          have hlf : rd13.length = mf := hrf.len
          have hcf0 : ((z4.setCell ⟨w.heap.size + 2, 11, none⟩ (.int .i64 vk)).setCell ⟨w.heap.size + 2, 12, none⟩ (.string vd)).cell? ⟨w.heap.size + 1, 0, none⟩ = some (.slice Af mf cf) := by rw [cell_of_row _ _ _ _ _ _ hRf]; rfl
          have hcf1 : ((z4.setCell ⟨w.heap.size + 2, 11, none⟩ (.int .i64 vk)).setCell ⟨w.heap.size + 2, 12, none⟩ (.string vd)).cell? ⟨w.heap.size + 1, 1, none⟩ = some (.bool okF) := by rw [cell_of_row _ _ _ _ _ _ hRf]; rfl
          clear hRf hrf HDz4 HI4 HP4
          have HZ1 := Lib.hid hcf0; have HZ2 := Lib.hid hcf1
          have hsm : Small ⟨v0, v1, v2, v3, v4, v5, v6, v7, v8, lj, vb, vk, vd⟩ := ⟨by simp only; omega, by simp only; omega, by simp only; omega, by simp only; omega, by simp only; omega, by simp only; omega⟩
          have HSM := Lib.hid hsm
          have HCK := Lib.hid (refCheck_any ⟨v0, v1, v2, v3, v4, v5, v6, v7, v8, lj, vb, vk, vd⟩ Al nl cl B j k ((z4.setCell ⟨w.heap.size + 2, 11, none⟩ (.int .i64 vk)).setCell ⟨w.heap.size + 2, 12, none⟩ (.string vd)) HI5.out HP5.out (by omega) (by omega) (by simp only; omega))
          have HSL : Hid (∀ y, Below ((z4.setCell ⟨w.heap.size + 2, 11, none⟩ (.int .i64 vk)).setCell ⟨w.heap.size + 2, 12, none⟩ (.string vd)).heap.size ((z4.setCell ⟨w.heap.size + 2, 11, none⟩ (.int .i64 vk)).setCell ⟨w.heap.size + 2, 12, none⟩ (.string vd)) y → Calls Tryz.prog 50 #[stmV ⟨v0, v1, v2, v3, v4, v5, v6, v7, v8, lj, vb, vk, vd⟩ Al nl cl B j k] y (SaysL (.bool (sealedB ⟨v0, v1, v2, v3, v4, v5, v6, v7, v8, lj, vb, vk, vd⟩)) y)) := Lib.hid fun y h => refSealed_any ⟨v0, v1, v2, v3, v4, v5, v6, v7, v8, lj, vb, vk, vd⟩ Al nl cl B j k y (IRow.later HI5.out h) (PRow.later HP5.out h) HSM.out
          have HEN : Hid (∀ y, Below ((z4.setCell ⟨w.heap.size + 2, 11, none⟩ (.int .i64 vk)).setCell ⟨w.heap.size + 2, 12, none⟩ (.string vd)).heap.size ((z4.setCell ⟨w.heap.size + 2, 11, none⟩ (.int .i64 vk)).setCell ⟨w.heap.size + 2, 12, none⟩ (.string vd)) y → Calls Tryz.prog 45 #[stmV ⟨v0, v1, v2, v3, v4, v5, v6, v7, v8, lj, vb, vk, vd⟩ Al nl cl B j k] y (EncS y ⟨v0, v1, v2, v3, v4, v5, v6, v7, v8, lj, vb, vk, vd⟩)) := Lib.hid fun y h => refEncode_any ⟨v0, v1, v2, v3, v4, v5, v6, v7, v8, lj, vb, vk, vd⟩ Al nl cl B j k y (IRow.later HI5.out h) (PRow.later HP5.out h) HSM.out
          have HEB : Hid (checkV ⟨v0, v1, v2, v3, v4, v5, v6, v7, v8, lj, vb, vk, vd⟩ = 0 → sealedB ⟨v0, v1, v2, v3, v4, v5, v6, v7, v8, lj, vb, vk, vd⟩ = true → encB ⟨v0, v1, v2, v3, v4, v5, v6, v7, v8, lj, vb, vk, vd⟩ = wholeB ⟨v0, v1, v2, v3, v4, v5, v6, v7, v8, lj, vb, vk, vd⟩) := Lib.hid fun h1 h2 => by unfold encB; rw [if_pos h1, if_pos h2]
          unfold stmV at HCK HSL HEN
          simp only at HCK HSL HEN
          generalize checkV ⟨v0, v1, v2, v3, v4, v5, v6, v7, v8, lj, vb, vk, vd⟩ = cv at HSPj HCK HEB
          generalize sealedB ⟨v0, v1, v2, v3, v4, v5, v6, v7, v8, lj, vb, vk, vd⟩ = sv at HSPj HSL HEB
          generalize wholeB ⟨v0, v1, v2, v3, v4, v5, v6, v7, v8, lj, vb, vk, vd⟩ = wb at HSPj HEB
          clear hsm
          cases okF
          · have HV := Lib.hid (HSPj.out.1 rfl)
            go_wp2_with (refine wpList_store_row rfl 27 (.tmp 2) (.tmp 127) rfl w.heap.size zeroA rfl rfl 27 _ HDz5.out.hq (by kernel_rfl) rfl (by simp [Value.oneCell', zeroA]) ?_)
            refine bodyPost_ret (results_rdec rfl rfl (setRow_heap _ _ _ zeroA _ _ HDz5.out.hq) rfl) rfl ⟨none, 0, 0, none, 0, 0, by rw [HDS.out, HDE.out, HV.out]; rfl, by rw [HDS.out, HV.out]; exact Row.nilRow _ _, by rw [HDS.out, HV.out]; exact Row.nilRow _ _, (fun _ h => by cases h), (fun _ h => by cases h), below_setRow HDz5.out.hb (Nat.le_refl _) _⟩
          by_cases h0 : mf = 0
          rotate_left
          · have e0 : 0 < mf := by omega
            have HV := Lib.hid ((HSPj.out.2 rfl).1 (by rw [hlf]; exact h0))
            go_wp2_with (refine wpList_store_row rfl 27 (.tmp 2) (.tmp 127) rfl w.heap.size zeroA rfl rfl 27 _ HDz5.out.hq (by kernel_rfl) rfl (by simp [Value.oneCell', zeroA]) ?_)
            refine bodyPost_ret (results_rdec rfl rfl (setRow_heap _ _ _ zeroA _ _ HDz5.out.hq) rfl) rfl ⟨none, 0, 0, none, 0, 0, by rw [HDS.out, HDE.out, HV.out]; rfl, by rw [HDS.out, HV.out]; exact Row.nilRow _ _, by rw [HDS.out, HV.out]; exact Row.nilRow _ _, (fun _ h => by cases h), (fun _ h => by cases h), below_setRow HDz5.out.hb (Nat.le_refl _) _⟩
          have HSP2 := Lib.hid ((HSPj.out.2 rfl).2 (by rw [hlf]; exact h0))
          clear HSPj
          go_wp2_with fail
          refine HCK.out.mono ?_
          clear hc0 hc1 hc2 hc3 hc4 hc5 hc6 hc7 hc8 hc9' hc10 hc11 hc12 hz11 hz12
          generalize ((z4.setCell ⟨w.heap.size + 2, 11, none⟩ (.int .i64 vk)).setCell ⟨w.heap.size + 2, 12, none⟩ (.string vd)) = z5 at HDz5 HI5 HP5 HSL HEN HZ1 HZ2 ⊢
          rintro e z6 ⟨rfl, hb⟩
          have HD6 := Lib.hid (HDz5.out.later hb); have HI6 := Lib.hid (IRow.later HI5.out hb); have HP6 := Lib.hid (PRow.later HP5.out hb); have HN6 := Lib.hid hb
          clear hb HI5 HP5 HCK HZ1 HZ2
          by_cases hc0 : cv = 0
          rotate_left
          · have g1 : (cv == 0) = false := by simpa using hc0
            have HV := Lib.hid (HSP2.out.1 hc0)
            go_wp2_with (refine wpList_store_row rfl 27 (.tmp 2) (.tmp 127) rfl w.heap.size zeroA rfl rfl 27 _ HD6.out.hq (by kernel_rfl) rfl (by simp [Value.oneCell', zeroA]) ?_)
            refine bodyPost_ret (results_rdec rfl rfl (setRow_heap _ _ _ zeroA _ _ HD6.out.hq) rfl) rfl ⟨none, 0, 0, none, 0, 0, by rw [HDS.out, HDE.out, HV.out]; rfl, by rw [HDS.out, HV.out]; exact Row.nilRow _ _, by rw [HDS.out, HV.out]; exact Row.nilRow _ _, (fun _ h => by cases h), (fun _ h => by cases h), below_setRow HD6.out.hb (Nat.le_refl _) _⟩
          subst hc0
          have HSP3 := Lib.hid (HSP2.out.2 rfl); clear HSP2
          obtain ⟨hc0, hc1, hc2, hc3, hc4, hc5, hc6, hc7, hc8, hc9, hc10, hc11, hc12⟩ := stm_cells (A := Al) (n := nl) (c := cl) (B := B) (m := j) (k := k) (s := ⟨v0, v1, v2, v3, v4, v5, v6, v7, v8, lj, vb, vk, vd⟩) HD6.out.hp
          go_wp2_with fail
          refine (HSL.out z6 HN6.out).mono ?_
          rintro e z7 ⟨rfl, hb⟩
          have HD7 := Lib.hid (HD6.out.later hb); have HI7 := Lib.hid (IRow.later HI6.out hb); have HP7 := Lib.hid (PRow.later HP6.out hb); have HN7 := Lib.hid (HN6.out.trans (hb.mono HN6.out.size))
          clear hb HI6 HP6 HSL HN6 HD6 hc0 hc1 hc2 hc3 hc4 hc5 hc6 hc7 hc8 hc9 hc10 hc11 hc12
          cases sv
          · have HV := Lib.hid (HSP3.out.1 rfl)
            go_wp2_with (refine wpList_store_row rfl 27 (.tmp 2) (.tmp 127) rfl w.heap.size zeroA rfl rfl 27 _ HD7.out.hq (by kernel_rfl) rfl (by simp [Value.oneCell', zeroA]) ?_)
            refine bodyPost_ret (results_rdec rfl rfl (setRow_heap _ _ _ zeroA _ _ HD7.out.hq) rfl) rfl ⟨none, 0, 0, none, 0, 0, by rw [HDS.out, HDE.out, HV.out]; rfl, by rw [HDS.out, HV.out]; exact Row.nilRow _ _, by rw [HDS.out, HV.out]; exact Row.nilRow _ _, (fun _ h => by cases h), (fun _ h => by cases h), below_setRow HD7.out.hb (Nat.le_refl _) _⟩
          have HSP4 := Lib.hid (HSP3.out.2 rfl); clear HSP3
          obtain ⟨hc0, hc1, hc2, hc3, hc4, hc5, hc6, hc7, hc8, hc9, hc10, hc11, hc12⟩ := stm_cells (A := Al) (n := nl) (c := cl) (B := B) (m := j) (k := k) (s := ⟨v0, v1, v2, v3, v4, v5, v6, v7, v8, lj, vb, vk, vd⟩) HD7.out.hp
          go_wp2_with fail
          refine (HEN.out z7 HN7.out).mono ?_
          rintro e z8 ⟨A8, m8, c8, rfl, hr8, hb⟩
          have HD8 := Lib.hid (HD7.out.later hb); have HI8 := Lib.hid (IRow.later HI7.out hb); have HP8 := Lib.hid (PRow.later HP7.out hb)
          rw [HEB.out (by first | rfl | trivial) (by first | rfl | trivial)] at hr8
          obtain ⟨t1, ht1⟩ : ∃ t, t = strOf wb := ⟨_, rfl⟩
          obtain ⟨t2, ht2⟩ : ∃ t, t = strOf us := ⟨_, rfl⟩
          have hcv1 : (convert 30 9 (.slice A8 m8 c8)).run Tryz.prog z8 = .ok (.string t1) z8 := by rw [ht1]; exact run_conv_row hr8 Tryz.underlying30 Tryz.underlying5 Tryz.underlying9
          have hcv2 : (convert 30 9 (.slice A n c)).run Tryz.prog z8 = .ok (.string t2) z8 := by rw [ht2]; exact run_conv_row (Row.later HUS.out HD8.out.hb) Tryz.underlying30 Tryz.underlying5 Tryz.underlying9
          clear hb hr8 HI7 HP7 HEN HN7 HD7 hc0 hc1 hc2 hc3 hc4 hc5 hc6 hc7 hc8 hc9 hc10 hc11 hc12 HEB
          by_cases hw : wb = us
          · have hd := HSP4.out.1 hw
            have HV := Lib.hid hd.1; have HVS := Lib.hid hd.2
            have ht : t1 = t2 := by rw [ht1, ht2, hw]
            have hl : t1.toList = t2.toList := by rw [ht]
            have hl2 : (t1.toList != t2.toList) = false := by rw [hl]; simp
            obtain ⟨hc0, hc1, hc2, hc3, hc4, hc5, hc6, hc7, hc8, hc9, hc10, hc11, hc12⟩ := stm_cells (A := Al) (n := nl) (c := cl) (B := B) (m := j) (k := k) (s := ⟨v0, v1, v2, v3, v4, v5, v6, v7, v8, lj, vb, vk, vd⟩) HD8.out.hp
            clear ht1 ht2 hd ht
            go_wp2_with (refine wpList_store_row rfl 27 (.tmp 2) (.tmp 139) rfl w.heap.size #[.int .i64 v0, .int .i64 v1, .string v2, .int .i64 v3, .int .i64 v4, .int .i64 v5, .int .i64 v6, .int .i64 v7, .slice Al nl cl, .slice B j k, .string vb, .int .i64 vk, .string vd] rfl rfl 27 _ HD8.out.hq (by kernel_rfl) rfl (by simp [Value.oneCell']) ?_)
            have hds : DS0 = ⟨v0, v1, v2, v3, v4, v5, v6, v7, v8, lj, vb, vk, vd⟩ := by rw [HDS.out, HV.out, if_pos rfl]; have := HVS.out; unfold decS at this; rw [HV.out, if_pos rfl] at this; exact this
            refine bodyPost_ret (results_rdec rfl rfl (setRow_heap _ _ _ #[.int .i64 v0, .int .i64 v1, .string v2, .int .i64 v3, .int .i64 v4, .int .i64 v5, .int .i64 v6, .int .i64 v7, .slice Al nl cl, .slice B j k, .string vb, .int .i64 vk, .string vd] _ _ HD8.out.hq) rfl) rfl ⟨Al, nl, cl, B, j, k, by rw [hds, HDE.out, HV.out]; rfl, ?_, ?_, (fun ad hA => by have := HNL.out ad hA; omega), (fun ad hA => by have := HNB.out ad hA; omega), below_setRow HD8.out.hb (Nat.le_refl _) _⟩
            · rw [hds]; exact Row.keep HI8.out fun ad hA _ _ => setRow_other _ _ _ _ (by have := HNL.out ad hA; omega)
            · rw [hds]; exact Row.keep HP8.out fun ad hA _ _ => setRow_other _ _ _ _ (by have := HNB.out ad hA; omega)
          · have HV := Lib.hid (HSP4.out.2 hw)
            have hl : ¬ t1.toList = t2.toList := fun h => hw (strOf_inj (by rw [← ht1, ← ht2]; exact (toList_iff _ _).1 h))
            have hl2 : (t1.toList == t2.toList) = false := by simpa using hl
            clear ht1 ht2 hw
            go_wp2_with (refine wpList_store_row rfl 27 (.tmp 2) (.tmp 138) rfl w.heap.size zeroA rfl rfl 27 _ HD8.out.hq (by kernel_rfl) rfl (by simp [Value.oneCell', zeroA]) ?_)
            refine bodyPost_ret (results_rdec rfl rfl (setRow_heap _ _ _ zeroA _ _ HD8.out.hq) rfl) rfl ⟨none, 0, 0, none, 0, 0, by rw [HDS.out, HDE.out, HV.out]; rfl, by rw [HDS.out, HV.out]; exact Row.nilRow _ _, by rw [HDS.out, HV.out]; exact Row.nilRow _ _, (fun _ h => by cases h), (fun _ h => by cases h), below_setRow HD8.out.hb (Nat.le_refl _) _⟩
        · have HQDS := Lib.hid HQ.out.1; have HOJ := Lib.hid HQ.out.2.1; have HPO := Lib.hid HQ.out.2.2.1; have HIR := Lib.hid HQ.out.2.2.2.1; have HAL := Lib.hid HQ.out.2.2.2.2.1
          clear HQ HDb HIb HRb HXb
          by_cases h64 : 64 ≤ j
          · have HV := Lib.hid (HBIG.out (by omega))
            go_wp2_with (refine wpList_store_row rfl 27 (.tmp 2) (.tmp 81) rfl w.heap.size zeroA rfl rfl 27 _ HQDS.out.hq (by kernel_rfl) rfl (by simp [Value.oneCell', zeroA]) ?_)
            refine bodyPost_ret (results_rdec rfl rfl (setRow_heap _ _ _ zeroA _ _ HQDS.out.hq) rfl) rfl ⟨none, 0, 0, none, 0, 0, by rw [HDS.out, HDE.out, HV.out]; rfl, by rw [HDS.out, HV.out]; exact Row.nilRow _ _, by rw [HDS.out, HV.out]; exact Row.nilRow _ _, (fun _ h => by cases h), (fun _ h => by cases h), below_setRow HQDS.out.hb (Nat.le_refl _) _⟩
          have hl0 : (pinsL j ry).2.1.length ≤ 900000 := Nat.le_trans (pinsL_le ry j) hly
          have HSS : Hid (pinsL (j + 1) ry = ((pinsL j ry).1 ++ [pinAt (pinsL j ry).2.1], pinRest (pinsL j ry).2.1, (pinsL j ry).2.2 && pinOk (pinsL j ry).2.1)) := Lib.hid rfl
          have HPK : Hid (pinOk (pinsL j ry).2.1 = ((takeI (pinsL j ry).2.1).2.2 && (takeI (takeI (pinsL j ry).2.1).2.1).2.2 && (takeS (takeI (takeI (pinsL j ry).2.1).2.1).2.1 32).2.2)) := Lib.hid rfl
          have HPA : Hid (pinAt (pinsL j ry).2.1 = ⟨(takeI (pinsL j ry).2.1).1, (takeI (takeI (pinsL j ry).2.1).2.1).1, (takeS (takeI (takeI (pinsL j ry).2.1).2.1).2.1 32).1⟩) := Lib.hid rfl
          have HPT : Hid (pinRest (pinsL j ry).2.1 = (takeS (takeI (takeI (pinsL j ry).2.1).2.1).2.1 32).2.1) := Lib.hid rfl
          have HLN := Lib.hid (pinsL_len ry j)
          generalize (pinsL j ry).2.1 = x0 at hl0 HSS HPK HPA HPT HQDS
          generalize (pinsL j ry).1 = l0 at HSS HPO HLN
          have hx1 := Nat.le_trans (takeI_le x0) hl0
          have N0 := Lib.hid (fun ok y h => refRdInt (w.heap.size + 1) x0 ok y h hl0)
          generalize takeI x0 = X0 at hx1 HPK HPA HPT N0
          obtain ⟨a0, x1, q0⟩ := X0
          simp only at hx1 HPK HPA HPT N0
          have hx2 := Nat.le_trans (takeI_le x1) hx1
          have N1 := Lib.hid (fun ok y h => refRdInt (w.heap.size + 1) x1 ok y h hx1)
          generalize takeI x1 = X1 at hx2 HPK HPA HPT N1
          obtain ⟨a1, x2, q1⟩ := X1
          simp only at hx2 HPK HPA HPT N1
          have N2 := Lib.hid (fun ok y h => refRdText (w.heap.size + 1) x2 ok 32 y h hx2)
          generalize takeS x2 32 = X2 at HPK HPA HPT N2
          obtain ⟨a2, x3, q2⟩ := X2
          simp only at HPK HPA HPT N2
          have HOB : Hid (∀ k', Value.ownBlock (.slice B j k) = some k' → w.heap.size + 3 ≤ k' ∧ k' < wr.heap.size) := Lib.hid fun k' hk => World.ownsRow.lt HPO.out k' hk
          go_wp2_with fail
          refine (N0.out true wr HQDS.out.rd).mono ?_
          rintro e y1 hrd
          have HD1 := Lib.hid (HQDS.out.read hrd)
          obtain ⟨_, _, _, rfl, -, -, -, hbut⟩ := hrd
          have HI1 := Lib.hid (but_up hbut HIR.out HNL.out (by omega)); have HP1 : Hid (POwn y1 (w.heap.size + 3) (.slice B j k) l0) := Lib.hid (own_but HPO.out hbut (by omega)); have HZ1 := Lib.hid hbut.size
          clear hbut hc9 hcd HQDS HIR HPO
          go_wp2_with fail
          refine (N1.out (true && q0) y1 HD1.out.rd).mono ?_
          rintro e y2 hrd
          have HD2 := Lib.hid (HD1.out.read hrd)
          obtain ⟨_, _, _, rfl, -, -, -, hbut⟩ := hrd
          have HI2 := Lib.hid (but_up hbut HI1.out HNL.out (by omega)); have HP2 : Hid (POwn y2 (w.heap.size + 3) (.slice B j k) l0) := Lib.hid (own_but HP1.out hbut (by omega)); have HZ2 := Lib.hid (Nat.le_trans HZ1.out hbut.size)
          clear hbut HD1 HI1 HP1
          go_wp2_with fail
          refine (N2.out (true && q0 && q1) y2 HD2.out.rd).mono ?_
          rintro e y3 hrd
          have HD3 := Lib.hid (HD2.out.read hrd)
          obtain ⟨A3, m3, c3, rfl, hD3, hr3, hn3, hbut⟩ := hrd
          have HI3 := Lib.hid (but_up hbut HI2.out HNL.out (by omega)); have HP3 : Hid (POwn y3 (w.heap.size + 3) (.slice B j k) l0) := Lib.hid (own_but HP2.out hbut (by omega)); have HZ3 := Lib.hid (Nat.le_trans HZ2.out hbut.size)
          have HA3 : Hid (∀ ad, A3 = some ad → Value.ownBlock (.slice B j k) ≠ some ad.block) := Lib.hid fun ad hA he => by have h1 := (HOB.out _ he).2; have h2 := (hn3 ad hA).1; have h3 := HZ2.out; omega
          have HA3G : Hid (∀ ad, A3 = some ad → w.heap.size + 2 < ad.block) := Lib.hid fun ad hA => Nat.lt_of_lt_of_le HD2.out.lp (hn3 ad hA).1
          have HA3L : Hid (∀ ad, A3 = some ad → ad.block < y3.heap.size) := Lib.hid fun ad hA => (hn3 ad hA).2
          have HDR := Lib.hid hD3; have HBR := Lib.hid hr3
          clear hbut hD3 hr3 hn3 HD2 HI2 HP2
          have hlj : l0.length = j := HLN.out
          have hb2 : Below y3.heap.size y3 ((y3.alloc (.cells #[.int .i64 a0, .int .i64 a1, .string a2] 74)).alloc (.cells #[.int .i64 a0, .int .i64 a1, .string a2] 74)) := (one_new y3 _).alloc (by simp) _
          have hrx : Row ((y3.alloc (.cells #[.int .i64 a0, .int .i64 a1, .string a2] 74)).alloc (.cells #[.int .i64 a0, .int .i64 a1, .string a2] 74)) (some ⟨(y3.alloc (.cells #[.int .i64 a0, .int .i64 a1, .string a2] 74)).heap.size, 0, none⟩) 1 1 3 (pinC ⟨a0, a1, a2⟩) := Row.of_block (cs := #[.int .i64 a0, .int .i64 a1, .string a2]) (heap_alloc_new _ _) rfl
          rw [World.size_alloc] at hrx
          have HRX := Lib.hid hrx
          have HPX : Hid (POwn ((y3.alloc (.cells #[.int .i64 a0, .int .i64 a1, .string a2] 74)).alloc (.cells #[.int .i64 a0, .int .i64 a1, .string a2] 74)) (w.heap.size + 3) (.slice B j k) l0) := Lib.hid (World.ownsRow.alloc (World.ownsRow.alloc HP3.out _) _)
          have HDX := Lib.hid (HD3.out.later hb2); have HIX := Lib.hid (HI3.out.later hb2)
          have HDRX := Lib.hid ((hb2.block _ (by have := HD3.out.lp; omega)).trans HDR.out); have HBRX := Lib.hid (BRow.later HBR.out hb2)
          have HSX : Hid (((y3.alloc (.cells #[.int .i64 a0, .int .i64 a1, .string a2] 74)).alloc (.cells #[.int .i64 a0, .int .i64 a1, .string a2] 74)).heap.size = y3.heap.size + 2) := Lib.hid (by simp)
          have hc9 : (y3.alloc (.cells #[.int .i64 a0, .int .i64 a1, .string a2] 74)).cell? ⟨w.heap.size + 2, 9, none⟩ = some (.slice B j k) := by rw [(HD3.out.later (one_new y3 (.cells #[.int .i64 a0, .int .i64 a1, .string a2] 74))).cells]; rfl
          have HL3 : Hid (w.heap.size + 2 < y3.heap.size) := Lib.hid HD3.out.lp
          clear hb2 hrx HD3 HI3 HP3 HDR HBR
          go_wp2_with (at_builtin; go_must (refine wpList_app2 _ rfl (.tmp 90) (.tmp 92) 23 23 74 rfl (w.heap.size + 3) Tryz.underlying23 pin_inf rfl (.slice B j k) _ _ HPX.out rfl _ 1 (pinC ⟨a0, a1, a2⟩) (Row.src HRX.out Tryz.underlying23 (pinsC_one' _)) rfl (by unfold maxLen; omega) (by omega) (by rw [HSX.out]; have := HL3.out; omega) ?_); intro v4 w4 ho4 hb4 hk4 hf4; obtain ⟨B', k', hv4, hrow4⟩ := Row.of_own ho4; subst hv4; rw [hlj] at ho4 hf4 ⊢; have HD4 := Lib.hid (HDX.out.grown HDRX.out HBRX.out hb4 hk4 HA3.out); have HO4 := Lib.hid ho4; have HK4 := Lib.hid hk4; have HF4 := Lib.hid hf4; have HB4 := Lib.hid hb4; have hc9 : w4.cell? ⟨w.heap.size + 2, 9, none⟩ = some (.slice B j k) := (by rw [HD4.out.cells]; rfl); have hz9 : w4.frozen? ⟨w.heap.size + 2, 9, none⟩ = false := HD4.out.froz 9; clear ho4 hb4 hk4 hf4 hrow4)
          have hss := HSX.out
          have hl3 := HL3.out
          refine ⟨⟨j + 1, by omega, by omega, by go_num, B', k', (true && q0 && q1 && q2), A3, m3, c3, Lib.hid ⟨?_, ?_, ?_, ?_, ?_, ?_, ?_, ?_⟩⟩, by simp [intOf]; omega⟩
          · rw [HSS.out, HPT.out]; exact HD4.out.setp rfl 9 (.slice B' (j + 1) k')
          · rw [HSS.out, HPK.out]; have h := HOJ.out; simp only [← Bool.and_assoc]; rw [← h]
          · rw [HSS.out, HPA.out]; unfold POwn; rw [pinsC_app, List.length_append, pinsC_single, hlj]
            exact own_set HO4.out (fun he => by have := (World.ownsRow.lt HO4.out _ he).1; omega) 9 _
          · exact Row.keep HIX.out fun ad hA h0 hlt => (Below.heap_setCell _ _ _ _ (by have := HNL.out ad hA; show ad.block ≠ w.heap.size + 2; omega)).trans (HK4.out _ hlt (HAL.out ad hA h0))
          · intro ad hA h0 he
            rcases HF4.out with h | ⟨g, hg, h⟩
            · exact HAL.out ad hA h0 (h.symm.trans he)
            · rw [h] at he; injection he with he
              have := Row.lt HIX.out (by omega) ad hA h0
              omega
          · exact (Below.heap_setCell _ _ _ _ (by show w.heap.size + 1 ≠ w.heap.size + 2; omega)).trans ((HB4.out.block _ (by omega)).trans HDRX.out)
          · rw [HSS.out, HPT.out]
            exact Row.keep HBRX.out fun ad hA _ hlt => (Below.heap_setCell _ _ _ _ (by have := HA3G.out ad hA; show ad.block ≠ w.heap.size + 2; omega)).trans (HK4.out _ hlt (HA3.out ad hA))
          · intro ad hA he
            rcases HF4.out with h | ⟨g, hg, h⟩
            · exact HA3.out ad hA (h.symm.trans he)
            · rw [h] at he; injection he with he
              have := HA3L.out ad hA
              omega
      · have HDw := Lib.hid HQ.out.1; have HOJ := Lib.hid HQ.out.2.1; have HIR := Lib.hid HQ.out.2.2.2.1
        have HPR : Hid (PRow wr B j k (pinsL j ry).1) := Lib.hid (own_prow HQ.out.2.2.1)
        have HNB : Hid (∀ ad, B = some ad → w.heap.size + 2 < ad.block) := Lib.hid fun ad hA => by subst hA; exact (World.ownsRow.lt HQ.out.2.2.1 _ rfl).1
        clear HQ HDb HIb HRb HXb
        have hlr : (pinsL j ry).2.1.length ≤ 900000 := Nat.le_trans (pinsL_le ry j) hly
        have HSPj := Lib.hid (HSP.out (pinsL j ry) (takeS (pinsL j ry).2.1 4096) (takeI (takeS (pinsL j ry).2.1 4096).2.1) (takeS (takeI (takeS (pinsL j ry).2.1 4096).2.1).2.1 32) j _ rfl rfl rfl rfl rfl hjn hj64 (.inl (by omega)))
        have NB := Lib.hid (fun ok y h => refRdText (w.heap.size + 1) (pinsL j ry).2.1 ok 4096 y h hlr)
        have hlb := Nat.le_trans (takeS_le (pinsL j ry).2.1 4096) hlr
        have hsb := takeS_size (pinsL j ry).2.1 4096 (by omega)
        have hpb := pinsL_size ry j
        have hpl := pinsL_len ry j
        clear HSP
        generalize (pinsL j ry).2.1 = rj at HSPj NB hlb hsb HDw
        generalize (pinsL j ry).2.2 = kj at HSPj HOJ
        generalize (pinsL j ry).1 = lj at HSPj HPR hpb hpl
        generalize takeS rj 4096 = Xb at HSPj NB hlb hsb
        obtain ⟨vb, rb, kb⟩ := Xb
        simp only at HSPj NB hlb hsb
        have NK := Lib.hid (fun ok y h => refRdInt (w.heap.size + 1) rb ok y h hlb)
        have hlk := Nat.le_trans (takeI_le rb) hlb
        generalize takeI rb = Xk at HSPj NK hlk
        obtain ⟨vk, rk, kk⟩ := Xk
        simp only at HSPj NK hlk
        have ND := Lib.hid (fun ok y h => refRdText (w.heap.size + 1) rk ok 32 y h hlk)
        have hsd := takeS_size rk 32 (by omega)
        generalize takeS rk 32 = Xd at HSPj ND hsd
        obtain ⟨vd, rd13, kd⟩ := Xd
        simp only at HSPj ND hsd
        go_wp2_with fail
        refine (NB.out okj wr HDw.out.rd).mono ?_
        rintro e z1 hrd
        have HDz1 := Lib.hid (HDw.out.read hrd)
        obtain ⟨_, _, _, rfl, -, -, -, hbut⟩ := hrd
        have HI1 := Lib.hid (but_up hbut HIR.out HNL.out (by omega)); have HP1 := Lib.hid (but_up hbut HPR.out HNB.out (by omega)); clear hbut HDw HIR HPR
        have hc10 : z1.cell? ⟨w.heap.size + 2, 10, none⟩ = some (.string ⟨#[]⟩) := by rw [HDz1.out.cells]; rfl
        have hz10 : z1.frozen? ⟨w.heap.size + 2, 10, none⟩ = false := HDz1.out.froz 10
        go_wp2_with fail
        have HDz2 : Hid (DS w (z1.setCell ⟨w.heap.size + 2, 10, none⟩ (.string vb)) #[.int .i64 v0, .int .i64 v1, .string v2, .int .i64 v3, .int .i64 v4, .int .i64 v5, .int .i64 v6, .int .i64 v7, .slice Al nl cl, .slice B j k, .string vb, .int .i64 0, .string ⟨#[]⟩] rb (okj && kb)) := Lib.hid (HDz1.out.setp rfl 10 (.string vb))
        have HI2 := Lib.hid (set_up HI1.out HNL.out 10 (.string vb)); have HP2 := Lib.hid (set_up HP1.out HNB.out 10 (.string vb))
        clear HDz1 HI1 HP1 hc10 hz10
        generalize z1.setCell ⟨w.heap.size + 2, 10, none⟩ (.string vb) = z2 at HDz2 HI2 HP2 ⊢
        refine (NK.out (okj && kb) z2 HDz2.out.rd).mono ?_
        rintro e z3 hrd
        have HDz3 := Lib.hid (HDz2.out.read hrd)
        obtain ⟨_, _, _, rfl, -, -, -, hbut⟩ := hrd
        have HI3 := Lib.hid (but_up hbut HI2.out HNL.out (by omega)); have HP3 := Lib.hid (but_up hbut HP2.out HNB.out (by omega)); clear hbut HDz2 HI2 HP2
        go_wp2_with fail
        refine (ND.out (okj && kb && kk) z3 HDz3.out.rd).mono ?_
        rintro e z4 hrd
        have HDz4 := Lib.hid (HDz3.out.read hrd)
        obtain ⟨_, _, _, rfl, -, -, -, hbut⟩ := hrd
        have HI4 := Lib.hid (but_up hbut HI3.out HNL.out (by omega)); have HP4 := Lib.hid (but_up hbut HP3.out HNB.out (by omega)); clear hbut HDz3 HI3 HP3
        obtain ⟨okF, hoF⟩ : ∃ o : Bool, o = (okj && kb && kk && kd) := ⟨_, rfl⟩
        have HDz5 : Hid (DS w ((z4.setCell ⟨w.heap.size + 2, 11, none⟩ (.int .i64 vk)).setCell ⟨w.heap.size + 2, 12, none⟩ (.string vd)) #[.int .i64 v0, .int .i64 v1, .string v2, .int .i64 v3, .int .i64 v4, .int .i64 v5, .int .i64 v6, .int .i64 v7, .slice Al nl cl, .slice B j k, .string vb, .int .i64 vk, .string vd] rd13 okF) := by rw [hoF]; exact Lib.hid ((HDz4.out.setp rfl 11 (.int .i64 vk)).setp rfl 12 (.string vd))
        have HI5 := Lib.hid (set_up (set_up HI4.out HNL.out 11 (.int .i64 vk)) HNL.out 12 (.string vd)); have HP5 := Lib.hid (set_up (set_up HP4.out HNB.out 11 (.int .i64 vk)) HNB.out 12 (.string vd))
        have HOF : Hid (okF = (k0 && k1 && k2 && k3 && k4 && k5 && k6 && k7 && k8 && ky && kj && kb && kk && kd)) := by unfold Hid; rw [hoF, HOJ.out]
        rw [← HOF.out] at HSPj
        clear hoF HOF HOJ
        obtain ⟨hc0, hc1, hc2, hc3, hc4, hc5, hc6, hc7, hc8, hc9', hc10, hc11, hc12⟩ := stm_cells (A := Al) (n := nl) (c := cl) (B := B) (m := j) (k := k) (s := ⟨v0, v1, v2, v3, v4, v5, v6, v7, v8, lj, vb, 0, ⟨#[]⟩⟩) HDz4.out.hp
        have hz11 : z4.frozen? ⟨w.heap.size + 2, 11, none⟩ = false := HDz4.out.froz 11
        have hz12 : z4.frozen? ⟨w.heap.size + 2, 12, none⟩ = false := HDz4.out.froz 12
        obtain ⟨Af, mf, cf, hRf, hrf⟩ := HDz5.out.rd
        have hlf : rd13.length = mf := hrf.len
        have hcf0 : ((z4.setCell ⟨w.heap.size + 2, 11, none⟩ (.int .i64 vk)).setCell ⟨w.heap.size + 2, 12, none⟩ (.string vd)).cell? ⟨w.heap.size + 1, 0, none⟩ = some (.slice Af mf cf) := by rw [cell_of_row _ _ _ _ _ _ hRf]; rfl
        have hcf1 : ((z4.setCell ⟨w.heap.size + 2, 11, none⟩ (.int .i64 vk)).setCell ⟨w.heap.size + 2, 12, none⟩ (.string vd)).cell? ⟨w.heap.size + 1, 1, none⟩ = some (.bool okF) := by rw [cell_of_row _ _ _ _ _ _ hRf]; rfl
        clear hRf hrf HDz4 HI4 HP4
        have HZ1 := Lib.hid hcf0; have HZ2 := Lib.hid hcf1
        have hsm : Small ⟨v0, v1, v2, v3, v4, v5, v6, v7, v8, lj, vb, vk, vd⟩ := ⟨by simp only; omega, by simp only; omega, by simp only; omega, by simp only; omega, by simp only; omega, by simp only; omega⟩
        have HSM := Lib.hid hsm
        have HCK := Lib.hid (refCheck_any ⟨v0, v1, v2, v3, v4, v5, v6, v7, v8, lj, vb, vk, vd⟩ Al nl cl B j k ((z4.setCell ⟨w.heap.size + 2, 11, none⟩ (.int .i64 vk)).setCell ⟨w.heap.size + 2, 12, none⟩ (.string vd)) HI5.out HP5.out (by omega) (by omega) (by simp only; omega))
        have HSL : Hid (∀ y, Below ((z4.setCell ⟨w.heap.size + 2, 11, none⟩ (.int .i64 vk)).setCell ⟨w.heap.size + 2, 12, none⟩ (.string vd)).heap.size ((z4.setCell ⟨w.heap.size + 2, 11, none⟩ (.int .i64 vk)).setCell ⟨w.heap.size + 2, 12, none⟩ (.string vd)) y → Calls Tryz.prog 50 #[stmV ⟨v0, v1, v2, v3, v4, v5, v6, v7, v8, lj, vb, vk, vd⟩ Al nl cl B j k] y (SaysL (.bool (sealedB ⟨v0, v1, v2, v3, v4, v5, v6, v7, v8, lj, vb, vk, vd⟩)) y)) := Lib.hid fun y h => refSealed_any ⟨v0, v1, v2, v3, v4, v5, v6, v7, v8, lj, vb, vk, vd⟩ Al nl cl B j k y (IRow.later HI5.out h) (PRow.later HP5.out h) HSM.out
        have HEN : Hid (∀ y, Below ((z4.setCell ⟨w.heap.size + 2, 11, none⟩ (.int .i64 vk)).setCell ⟨w.heap.size + 2, 12, none⟩ (.string vd)).heap.size ((z4.setCell ⟨w.heap.size + 2, 11, none⟩ (.int .i64 vk)).setCell ⟨w.heap.size + 2, 12, none⟩ (.string vd)) y → Calls Tryz.prog 45 #[stmV ⟨v0, v1, v2, v3, v4, v5, v6, v7, v8, lj, vb, vk, vd⟩ Al nl cl B j k] y (EncS y ⟨v0, v1, v2, v3, v4, v5, v6, v7, v8, lj, vb, vk, vd⟩)) := Lib.hid fun y h => refEncode_any ⟨v0, v1, v2, v3, v4, v5, v6, v7, v8, lj, vb, vk, vd⟩ Al nl cl B j k y (IRow.later HI5.out h) (PRow.later HP5.out h) HSM.out
        have HEB : Hid (checkV ⟨v0, v1, v2, v3, v4, v5, v6, v7, v8, lj, vb, vk, vd⟩ = 0 → sealedB ⟨v0, v1, v2, v3, v4, v5, v6, v7, v8, lj, vb, vk, vd⟩ = true → encB ⟨v0, v1, v2, v3, v4, v5, v6, v7, v8, lj, vb, vk, vd⟩ = wholeB ⟨v0, v1, v2, v3, v4, v5, v6, v7, v8, lj, vb, vk, vd⟩) := Lib.hid fun h1 h2 => by unfold encB; rw [if_pos h1, if_pos h2]
        unfold stmV at HCK HSL HEN
        simp only at HCK HSL HEN
        generalize checkV ⟨v0, v1, v2, v3, v4, v5, v6, v7, v8, lj, vb, vk, vd⟩ = cv at HSPj HCK HEB
        generalize sealedB ⟨v0, v1, v2, v3, v4, v5, v6, v7, v8, lj, vb, vk, vd⟩ = sv at HSPj HSL HEB
        generalize wholeB ⟨v0, v1, v2, v3, v4, v5, v6, v7, v8, lj, vb, vk, vd⟩ = wb at HSPj HEB
        clear hsm
        cases okF
        · have HV := Lib.hid (HSPj.out.1 rfl)
          go_wp2_with (refine wpList_store_row rfl 27 (.tmp 2) (.tmp 127) rfl w.heap.size zeroA rfl rfl 27 _ HDz5.out.hq (by kernel_rfl) rfl (by simp [Value.oneCell', zeroA]) ?_)
          refine bodyPost_ret (results_rdec rfl rfl (setRow_heap _ _ _ zeroA _ _ HDz5.out.hq) rfl) rfl ⟨none, 0, 0, none, 0, 0, by rw [HDS.out, HDE.out, HV.out]; rfl, by rw [HDS.out, HV.out]; exact Row.nilRow _ _, by rw [HDS.out, HV.out]; exact Row.nilRow _ _, (fun _ h => by cases h), (fun _ h => by cases h), below_setRow HDz5.out.hb (Nat.le_refl _) _⟩
        by_cases h0 : mf = 0
        rotate_left
        · have e0 : 0 < mf := by omega
          have HV := Lib.hid ((HSPj.out.2 rfl).1 (by rw [hlf]; exact h0))
          go_wp2_with (refine wpList_store_row rfl 27 (.tmp 2) (.tmp 127) rfl w.heap.size zeroA rfl rfl 27 _ HDz5.out.hq (by kernel_rfl) rfl (by simp [Value.oneCell', zeroA]) ?_)
          refine bodyPost_ret (results_rdec rfl rfl (setRow_heap _ _ _ zeroA _ _ HDz5.out.hq) rfl) rfl ⟨none, 0, 0, none, 0, 0, by rw [HDS.out, HDE.out, HV.out]; rfl, by rw [HDS.out, HV.out]; exact Row.nilRow _ _, by rw [HDS.out, HV.out]; exact Row.nilRow _ _, (fun _ h => by cases h), (fun _ h => by cases h), below_setRow HDz5.out.hb (Nat.le_refl _) _⟩
        have HSP2 := Lib.hid ((HSPj.out.2 rfl).2 (by rw [hlf]; exact h0))
        clear HSPj
        go_wp2_with fail
        refine HCK.out.mono ?_
        clear hc0 hc1 hc2 hc3 hc4 hc5 hc6 hc7 hc8 hc9' hc10 hc11 hc12 hz11 hz12
        generalize ((z4.setCell ⟨w.heap.size + 2, 11, none⟩ (.int .i64 vk)).setCell ⟨w.heap.size + 2, 12, none⟩ (.string vd)) = z5 at HDz5 HI5 HP5 HSL HEN HZ1 HZ2 ⊢
        rintro e z6 ⟨rfl, hb⟩
        have HD6 := Lib.hid (HDz5.out.later hb); have HI6 := Lib.hid (IRow.later HI5.out hb); have HP6 := Lib.hid (PRow.later HP5.out hb); have HN6 := Lib.hid hb
        clear hb HI5 HP5 HCK HZ1 HZ2
        by_cases hc0 : cv = 0
        rotate_left
        · have g1 : (cv == 0) = false := by simpa using hc0
          have HV := Lib.hid (HSP2.out.1 hc0)
          go_wp2_with (refine wpList_store_row rfl 27 (.tmp 2) (.tmp 127) rfl w.heap.size zeroA rfl rfl 27 _ HD6.out.hq (by kernel_rfl) rfl (by simp [Value.oneCell', zeroA]) ?_)
          refine bodyPost_ret (results_rdec rfl rfl (setRow_heap _ _ _ zeroA _ _ HD6.out.hq) rfl) rfl ⟨none, 0, 0, none, 0, 0, by rw [HDS.out, HDE.out, HV.out]; rfl, by rw [HDS.out, HV.out]; exact Row.nilRow _ _, by rw [HDS.out, HV.out]; exact Row.nilRow _ _, (fun _ h => by cases h), (fun _ h => by cases h), below_setRow HD6.out.hb (Nat.le_refl _) _⟩
        subst hc0
        have HSP3 := Lib.hid (HSP2.out.2 rfl); clear HSP2
        obtain ⟨hc0, hc1, hc2, hc3, hc4, hc5, hc6, hc7, hc8, hc9, hc10, hc11, hc12⟩ := stm_cells (A := Al) (n := nl) (c := cl) (B := B) (m := j) (k := k) (s := ⟨v0, v1, v2, v3, v4, v5, v6, v7, v8, lj, vb, vk, vd⟩) HD6.out.hp
        go_wp2_with fail
        refine (HSL.out z6 HN6.out).mono ?_
        rintro e z7 ⟨rfl, hb⟩
        have HD7 := Lib.hid (HD6.out.later hb); have HI7 := Lib.hid (IRow.later HI6.out hb); have HP7 := Lib.hid (PRow.later HP6.out hb); have HN7 := Lib.hid (HN6.out.trans (hb.mono HN6.out.size))
        clear hb HI6 HP6 HSL HN6 HD6 hc0 hc1 hc2 hc3 hc4 hc5 hc6 hc7 hc8 hc9 hc10 hc11 hc12
        cases sv
        · have HV := Lib.hid (HSP3.out.1 rfl)
          go_wp2_with (refine wpList_store_row rfl 27 (.tmp 2) (.tmp 127) rfl w.heap.size zeroA rfl rfl 27 _ HD7.out.hq (by kernel_rfl) rfl (by simp [Value.oneCell', zeroA]) ?_)
          refine bodyPost_ret (results_rdec rfl rfl (setRow_heap _ _ _ zeroA _ _ HD7.out.hq) rfl) rfl ⟨none, 0, 0, none, 0, 0, by rw [HDS.out, HDE.out, HV.out]; rfl, by rw [HDS.out, HV.out]; exact Row.nilRow _ _, by rw [HDS.out, HV.out]; exact Row.nilRow _ _, (fun _ h => by cases h), (fun _ h => by cases h), below_setRow HD7.out.hb (Nat.le_refl _) _⟩
        have HSP4 := Lib.hid (HSP3.out.2 rfl); clear HSP3
        obtain ⟨hc0, hc1, hc2, hc3, hc4, hc5, hc6, hc7, hc8, hc9, hc10, hc11, hc12⟩ := stm_cells (A := Al) (n := nl) (c := cl) (B := B) (m := j) (k := k) (s := ⟨v0, v1, v2, v3, v4, v5, v6, v7, v8, lj, vb, vk, vd⟩) HD7.out.hp
        go_wp2_with fail
        refine (HEN.out z7 HN7.out).mono ?_
        rintro e z8 ⟨A8, m8, c8, rfl, hr8, hb⟩
        have HD8 := Lib.hid (HD7.out.later hb); have HI8 := Lib.hid (IRow.later HI7.out hb); have HP8 := Lib.hid (PRow.later HP7.out hb)
        rw [HEB.out (by first | rfl | trivial) (by first | rfl | trivial)] at hr8
        obtain ⟨t1, ht1⟩ : ∃ t, t = strOf wb := ⟨_, rfl⟩
        obtain ⟨t2, ht2⟩ : ∃ t, t = strOf us := ⟨_, rfl⟩
        have hcv1 : (convert 30 9 (.slice A8 m8 c8)).run Tryz.prog z8 = .ok (.string t1) z8 := by rw [ht1]; exact run_conv_row hr8 Tryz.underlying30 Tryz.underlying5 Tryz.underlying9
        have hcv2 : (convert 30 9 (.slice A n c)).run Tryz.prog z8 = .ok (.string t2) z8 := by rw [ht2]; exact run_conv_row (Row.later HUS.out HD8.out.hb) Tryz.underlying30 Tryz.underlying5 Tryz.underlying9
        clear hb hr8 HI7 HP7 HEN HN7 HD7 hc0 hc1 hc2 hc3 hc4 hc5 hc6 hc7 hc8 hc9 hc10 hc11 hc12 HEB
        by_cases hw : wb = us
        · have hd := HSP4.out.1 hw
          have HV := Lib.hid hd.1; have HVS := Lib.hid hd.2
          have ht : t1 = t2 := by rw [ht1, ht2, hw]
          have hl : t1.toList = t2.toList := by rw [ht]
          have hl2 : (t1.toList != t2.toList) = false := by rw [hl]; simp
          obtain ⟨hc0, hc1, hc2, hc3, hc4, hc5, hc6, hc7, hc8, hc9, hc10, hc11, hc12⟩ := stm_cells (A := Al) (n := nl) (c := cl) (B := B) (m := j) (k := k) (s := ⟨v0, v1, v2, v3, v4, v5, v6, v7, v8, lj, vb, vk, vd⟩) HD8.out.hp
          clear ht1 ht2 hd ht
          go_wp2_with (refine wpList_store_row rfl 27 (.tmp 2) (.tmp 139) rfl w.heap.size #[.int .i64 v0, .int .i64 v1, .string v2, .int .i64 v3, .int .i64 v4, .int .i64 v5, .int .i64 v6, .int .i64 v7, .slice Al nl cl, .slice B j k, .string vb, .int .i64 vk, .string vd] rfl rfl 27 _ HD8.out.hq (by kernel_rfl) rfl (by simp [Value.oneCell']) ?_)
          have hds : DS0 = ⟨v0, v1, v2, v3, v4, v5, v6, v7, v8, lj, vb, vk, vd⟩ := by rw [HDS.out, HV.out, if_pos rfl]; have := HVS.out; unfold decS at this; rw [HV.out, if_pos rfl] at this; exact this
          refine bodyPost_ret (results_rdec rfl rfl (setRow_heap _ _ _ #[.int .i64 v0, .int .i64 v1, .string v2, .int .i64 v3, .int .i64 v4, .int .i64 v5, .int .i64 v6, .int .i64 v7, .slice Al nl cl, .slice B j k, .string vb, .int .i64 vk, .string vd] _ _ HD8.out.hq) rfl) rfl ⟨Al, nl, cl, B, j, k, by rw [hds, HDE.out, HV.out]; rfl, ?_, ?_, (fun ad hA => by have := HNL.out ad hA; omega), (fun ad hA => by have := HNB.out ad hA; omega), below_setRow HD8.out.hb (Nat.le_refl _) _⟩
          · rw [hds]; exact Row.keep HI8.out fun ad hA _ _ => setRow_other _ _ _ _ (by have := HNL.out ad hA; omega)
          · rw [hds]; exact Row.keep HP8.out fun ad hA _ _ => setRow_other _ _ _ _ (by have := HNB.out ad hA; omega)
        · have HV := Lib.hid (HSP4.out.2 hw)
          have hl : ¬ t1.toList = t2.toList := fun h => hw (strOf_inj (by rw [← ht1, ← ht2]; exact (toList_iff _ _).1 h))
          have hl2 : (t1.toList == t2.toList) = false := by simpa using hl
          clear ht1 ht2 hw
          go_wp2_with (refine wpList_store_row rfl 27 (.tmp 2) (.tmp 138) rfl w.heap.size zeroA rfl rfl 27 _ HD8.out.hq (by kernel_rfl) rfl (by simp [Value.oneCell', zeroA]) ?_)
          refine bodyPost_ret (results_rdec rfl rfl (setRow_heap _ _ _ zeroA _ _ HD8.out.hq) rfl) rfl ⟨none, 0, 0, none, 0, 0, by rw [HDS.out, HDE.out, HV.out]; rfl, by rw [HDS.out, HV.out]; exact Row.nilRow _ _, by rw [HDS.out, HV.out]; exact Row.nilRow _ _, (fun _ h => by cases h), (fun _ h => by cases h), below_setRow HD8.out.hb (Nat.le_refl _) _⟩
theorem refDecode_any (A : Option Addr) (n c : Nat) (us : List UInt8) (w : World) (hr : BRow w A n c us) (hn : n ≤ 900000) :
    Calls Tryz.prog 64 #[.slice A n c] w (DecR w (decS us) (decE us)) :=
  (refDecode_new A n c us w hr hn).mono fun _ _ h => h.dec
end Go.Proofs.YtkglgboncngpbaaGreatDoor
