import Derived.Test.YtnjilfdmplbalaaGreatDoorRefSeal
import Derived.Test.YtnjilfdmplbalaaGreatDoorPackN
import Derived.Test.YtnjilfdmplbalaaGreatDoorPackP
import Derived.Test.YtnjilfdmplbalaaGreatDoorGrowFlow
/- The reference's Copy and Seal of statements without lists: nil stays nil. -/
namespace Go.Proofs.YtnjilfdmplbalaaGreatDoor
open Go.RowKit
theorem run_app_nil {P : Program} (w : World) (t ty e : TypeId) (i : TypeInfo) (ht : P.underlying t = some (.slice e)) (hi : P.info? e = some i) :
    (Builtin.append_ #[t, t] ty #[.slice none 0 0, .slice none 0 0]).run P w = .ok (.slice none 0 0) w := by
  simp [Builtin.append_, run_underlying ht, sizeOf, typeInfo, hi, Builtin.lenOf, Builtin.firstCells]
theorem wpList_app_nil {P : Program} {ops : Array Oper} {rest : List Oper} {o : Oper} {a : Act} {w : World} {Q : Exit → Act → World → Prop} (hgd : o.guard = none) (s x : Operand) (t e : TypeId) (ho : o.op = .call { callee := .builtin .append, args := #[s, x], argTypes := #[t, t] })
    (i : TypeInfo) (ht : P.underlying t = some (.slice e)) (hi : P.info? e = some i) (hs : a.eval s = .slice none 0 0) (hx : a.eval x = .slice none 0 0) (h : wpList P ops Q rest (a.put o.dst (.slice none 0 0)) w) : wpList P ops Q (o :: rest) a w := by
  refine wpList_plain hgd fun K hK => ?_
  unfold Oper.wp execOp
  simp only [ho, resolve, invoke, builtin, Sem.run_bind, Sem.run_pure, Result.andThen_ok, List.map_toArray, List.map_cons, List.map_nil, hs, hx, run_app_nil w t o.type e i ht hi]
  exact hK _ _ h
/-- A call that returns a statement whose lists are nil. -/
def GivesN (w : World) (s : Stm) (e : Ending) (w' : World) : Prop := ∃ A n c B m k, e = .returned (stmV s A n c B m k) ∧ IRow w' A n c s.list ∧ PRow w' B m k s.pins ∧ New w w' A ∧ New w w' B ∧ (A = none ∧ n = 0 ∧ c = 0 ∧ B = none ∧ m = 0 ∧ k = 0) ∧ Below w.heap.size w w'
theorem infoI : ∃ i, Tryz.prog.info? 3 = some i := by
  obtain ⟨i, hi, _⟩ := info_parts (P := Tryz.prog) i64_info
  exact ⟨i, hi⟩
theorem infoPin : ∃ i, Tryz.prog.info? 57 = some i := by
  obtain ⟨i, hi, _⟩ := info_parts (P := Tryz.prog) pin_info
  exact ⟨i, hi⟩
set_option maxRecDepth 100000 in
set_option maxHeartbeats 2000000 in
theorem copyBare_any (s : Stm) (w : World) : Calls Tryz.prog 59 #[stmV s none 0 0 none 0 0] w (SaysL (stmV s none 0 0 none 0 0) w) := by
  obtain ⟨ii, hii⟩ := infoI
  obtain ⟨ip, hip⟩ := infoPin

  obtain ⟨author, number, prev, time, kind, a, b, cc, list, pins, body, key, dig⟩ := s
  unfold stmV
  go_enter Tryz.func59, Tryz.ntmps59
  go_wp2_with (first
    | (at_builtin; refine wpList_app_nil rfl (.const (.slice none 0 0)) (.tmp 4) 25 3 rfl ii Tryz.underlying25 hii rfl rfl ?_)
    | (at_builtin; refine wpList_app_nil rfl (.const (.slice none 0 0)) (.tmp 8) 26 57 rfl ip Tryz.underlying26 hip rfl rfl ?_))
  have hy := heap_alloc_new (w.alloc (.cells #[.int .i64 author, .int .i64 number, .string prev, .int .i64 time, .int .i64 kind, .int .i64 a, .int .i64 b, .int .i64 cc, .slice none 0 0, .slice none 0 0, .string body, .int .i64 key, .string dig] 30)) (.cells #[.int .i64 author, .int .i64 number, .string prev, .int .i64 time, .int .i64 kind, .int .i64 a, .int .i64 b, .int .i64 cc, .slice none 0 0, .slice none 0 0, .string body, .int .i64 key, .string dig] 30)
  rw [show (w.alloc (.cells #[.int .i64 author, .int .i64 number, .string prev, .int .i64 time, .int .i64 kind, .int .i64 a, .int .i64 b, .int .i64 cc, .slice none 0 0, .slice none 0 0, .string body, .int .i64 key, .string dig] 30)).heap.size = w.heap.size + 1 by simp] at hy
  refine bodyPost_ret (v := .agg #[.int .i64 author, .int .i64 number, .string prev, .int .i64 time, .int .i64 kind, .int .i64 a, .int .i64 b, .int .i64 cc, .slice none 0 0, .slice none 0 0, .string body, .int .i64 key, .string dig]) (results_cell_row rfl _ _ (w.heap.size + 1) 30 #[.int .i64 author, .int .i64 number, .string prev, .int .i64 time, .int .i64 kind, .int .i64 a, .int .i64 b, .int .i64 cc, .slice none 0 0, .slice none 0 0, .string body, .int .i64 key, .string dig] (0, 0) _ rfl hy Tryz.underlying30 rfl (by kernel_rfl)) rfl ⟨rfl, (one_new w _).alloc (by simp) _⟩
set_option maxRecDepth 100000 in
set_option maxHeartbeats 2000000 in
theorem refSealN_any (s : Stm) (A : Option Addr) (n c : Nat) (B : Option Addr) (m k : Nat) (w : World) (hl : IRow w A n c s.list) (hp : PRow w B m k s.pins) (hs : Small s) (hnn : A = none ∧ n = 0 ∧ c = 0 ∧ B = none ∧ m = 0 ∧ k = 0) (hsl : s.list = [] ∧ s.pins = []) :
    Calls Tryz.prog 22 #[stmV s A n c B m k] w (GivesN w (sealOf s)) := by
  have HCP : Hid (∀ w', Below w.heap.size w w' → Calls Tryz.prog 59 #[stmV s A n c B m k] w' (GivesN w' s)) := Lib.hid fun w' h => by
    obtain ⟨rfl, rfl, rfl, rfl, rfl, rfl⟩ := hnn
    exact (copyBare_any s w').mono fun e w'' ⟨h1, h2⟩ => ⟨none, 0, 0, none, 0, 0, h1, by rw [hsl.1]; exact Row.nilRow _ _, by rw [hsl.2]; exact Row.nilRow _ _, (fun _ h => by cases h), (fun _ h => by cases h), ⟨rfl, rfl, rfl, rfl, rfl, rfl⟩, h2⟩
  have HD : Hid (∀ A n c B m k w', IRow w' A n c s.list → PRow w' B m k s.pins → Calls Tryz.prog 60 #[stmV s A n c B m k] w' (SaysL (.string (digS s)) w')) := Lib.hid fun A n c B m k w' h1 h2 => refDigest_any s A n c B m k w' h1 h2 hs
  clear hl hp hs hsl hnn
  unfold sealOf
  generalize digS s = D at HD ⊢
  obtain ⟨author, number, prev, time, kind, a, b, cc, list, pins, body, key, dig⟩ := s
  unfold stmV at HCP HD ⊢
  simp only at HD
  obtain ⟨G, hG⟩ : ∃ G, G = w.heap.size + 1 := ⟨_, rfl⟩
  have HGG := Lib.hid hG; clear hG
  have hb0 : Below w.heap.size w ((w.alloc (.cells #[.int .i64 author, .int .i64 number, .string prev, .int .i64 time, .int .i64 kind, .int .i64 a, .int .i64 b, .int .i64 cc, .slice A n c, .slice B m k, .string body, .int .i64 key, .string dig] 30)).alloc (.cells #[.int .i64 0, .int .i64 0, .string ⟨#[]⟩, .int .i64 0, .int .i64 0, .int .i64 0, .int .i64 0, .int .i64 0, .slice none 0 0, .slice none 0 0, .string ⟨#[]⟩, .int .i64 0, .string ⟨#[]⟩] 30)) := (one_new w _).alloc (by simp) _
  have hx0 : ((w.alloc (.cells #[.int .i64 author, .int .i64 number, .string prev, .int .i64 time, .int .i64 kind, .int .i64 a, .int .i64 b, .int .i64 cc, .slice A n c, .slice B m k, .string body, .int .i64 key, .string dig] 30)).alloc (.cells #[.int .i64 0, .int .i64 0, .string ⟨#[]⟩, .int .i64 0, .int .i64 0, .int .i64 0, .int .i64 0, .int .i64 0, .slice none 0 0, .slice none 0 0, .string ⟨#[]⟩, .int .i64 0, .string ⟨#[]⟩] 30)).heap[w.heap.size]? = _ := (Below.heap_alloc _ _ _ (by simp)).trans (heap_alloc_new w (.cells #[.int .i64 author, .int .i64 number, .string prev, .int .i64 time, .int .i64 kind, .int .i64 a, .int .i64 b, .int .i64 cc, .slice A n c, .slice B m k, .string body, .int .i64 key, .string dig] 30))
  have hy0 : ((w.alloc (.cells #[.int .i64 author, .int .i64 number, .string prev, .int .i64 time, .int .i64 kind, .int .i64 a, .int .i64 b, .int .i64 cc, .slice A n c, .slice B m k, .string body, .int .i64 key, .string dig] 30)).alloc (.cells #[.int .i64 0, .int .i64 0, .string ⟨#[]⟩, .int .i64 0, .int .i64 0, .int .i64 0, .int .i64 0, .int .i64 0, .slice none 0 0, .slice none 0 0, .string ⟨#[]⟩, .int .i64 0, .string ⟨#[]⟩] 30)).heap[(w.alloc (.cells #[.int .i64 author, .int .i64 number, .string prev, .int .i64 time, .int .i64 kind, .int .i64 a, .int .i64 b, .int .i64 cc, .slice A n c, .slice B m k, .string body, .int .i64 key, .string dig] 30)).heap.size]? = _ := heap_alloc_new (w.alloc (.cells #[.int .i64 author, .int .i64 number, .string prev, .int .i64 time, .int .i64 kind, .int .i64 a, .int .i64 b, .int .i64 cc, .slice A n c, .slice B m k, .string body, .int .i64 key, .string dig] 30)) (.cells #[.int .i64 0, .int .i64 0, .string ⟨#[]⟩, .int .i64 0, .int .i64 0, .int .i64 0, .int .i64 0, .int .i64 0, .slice none 0 0, .slice none 0 0, .string ⟨#[]⟩, .int .i64 0, .string ⟨#[]⟩] 30)
  rw [show (w.alloc (.cells #[.int .i64 author, .int .i64 number, .string prev, .int .i64 time, .int .i64 kind, .int .i64 a, .int .i64 b, .int .i64 cc, .slice A n c, .slice B m k, .string body, .int .i64 key, .string dig] 30)).heap.size = w.heap.size + 1 by simp] at hy0
  have hz0 : ((w.alloc (.cells #[.int .i64 author, .int .i64 number, .string prev, .int .i64 time, .int .i64 kind, .int .i64 a, .int .i64 b, .int .i64 cc, .slice A n c, .slice B m k, .string body, .int .i64 key, .string dig] 30)).alloc (.cells #[.int .i64 0, .int .i64 0, .string ⟨#[]⟩, .int .i64 0, .int .i64 0, .int .i64 0, .int .i64 0, .int .i64 0, .slice none 0 0, .slice none 0 0, .string ⟨#[]⟩, .int .i64 0, .string ⟨#[]⟩] 30)).heap.size = G + 1 := by rw [HGG.out]; simp
  have HB1 := Lib.hid hb0; have HX1 := Lib.hid hx0; have HY1 := Lib.hid hy0; have HZ1 := Lib.hid hz0; clear hb0 hx0 hy0 hz0
  go_enter Tryz.func22, Tryz.ntmps22
  go_wp2_with fail
  refine (HCP.out _ HB1.out).mono ?_
  rintro e w2 ⟨A2, n2, c2, B2, m2, k2, rfl, hl2, hp2, hna, hnb, hnil, hb⟩
  have HNIL := Lib.hid hnil
  clear hnil
  unfold stmV
  simp only at hl2 hp2
  have hsz := HZ1.out
  have HNA : Hid (∀ ad, A2 = some ad → G + 1 ≤ ad.block) := Lib.hid fun ad hA => by have := (hna ad hA).1; rw [hsz] at this; exact this
  have HNB : Hid (∀ ad, B2 = some ad → G + 1 ≤ ad.block) := Lib.hid fun ad hA => by have := (hnb ad hA).1; rw [hsz] at this; exact this
  have HMA2 : Hid (∀ ad, A2 = some ad → ad.block < w2.heap.size) := Lib.hid fun ad hA => (hna ad hA).2
  have HMB2 : Hid (∀ ad, B2 = some ad → ad.block < w2.heap.size) := Lib.hid fun ad hA => (hnb ad hA).2
  clear hna hnb
  have HL2 := Lib.hid hl2; have HP2 := Lib.hid hp2; have HB2 := Lib.hid (HB1.out.trans (hb.mono HB1.out.size)); have HX2 := Lib.hid ((hb.block w.heap.size (by rw [hsz, HGG.out]; omega)).trans HX1.out); have HY2 := Lib.hid ((hb.block (w.heap.size + 1) (by rw [hsz, HGG.out]; omega)).trans HY1.out); have HZ2 : Hid (G + 1 ≤ w2.heap.size) := Lib.hid (by have := hb.size; rw [hsz] at this; exact this)
  clear hl2 hp2 hb HB1 HX1 HY1 HZ1 hsz
  go_wp2_with (refine wpList_store_row rfl 30 (.tmp 1) (.tmp 4) rfl w.heap.size #[.int .i64 author, .int .i64 number, .string prev, .int .i64 time, .int .i64 kind, .int .i64 a, .int .i64 b, .int .i64 cc, .slice A2 n2 c2, .slice B2 m2 k2, .string body, .int .i64 key, .string dig] rfl rfl 30 _ HX2.out (by kernel_rfl) rfl (by simp [Value.oneCell']) ?_)
  refine wp_region_grow (by kernel_rfl) (KeepC w.heap.size ⟨w.heap.size, 0, none⟩) (KeepC.refl _ _) (fun _ _ _ => KeepC.trans) [] [([0, 1], 2), ([], 3), ([], 4), ([5], 6)] (by kernel_rfl) (by kernel_rfl) (by kernel_rfl) ?_
  simp only [List.map_cons, List.map_nil, pick, List.getD_cons_zero, List.getD_cons_succ]
  simp only [Act.put]
  have HX3 : Hid ((w2.setRow w.heap.size #[.int .i64 author, .int .i64 number, .string prev, .int .i64 time, .int .i64 kind, .int .i64 a, .int .i64 b, .int .i64 cc, .slice A2 n2 c2, .slice B2 m2 k2, .string body, .int .i64 key, .string dig]).drew.heap[w.heap.size]? = _) := Lib.hid (setRow_heap _ _ _ #[.int .i64 author, .int .i64 number, .string prev, .int .i64 time, .int .i64 kind, .int .i64 a, .int .i64 b, .int .i64 cc, .slice A2 n2 c2, .slice B2 m2 k2, .string body, .int .i64 key, .string dig] _ _ HX2.out)
  have HY3 : Hid ((w2.setRow w.heap.size #[.int .i64 author, .int .i64 number, .string prev, .int .i64 time, .int .i64 kind, .int .i64 a, .int .i64 b, .int .i64 cc, .slice A2 n2 c2, .slice B2 m2 k2, .string body, .int .i64 key, .string dig]).drew.heap[w.heap.size + 1]? = _) := Lib.hid ((setRow_other w2 w.heap.size (w.heap.size + 1) #[.int .i64 author, .int .i64 number, .string prev, .int .i64 time, .int .i64 kind, .int .i64 a, .int .i64 b, .int .i64 cc, .slice A2 n2 c2, .slice B2 m2 k2, .string body, .int .i64 key, .string dig] (by omega)).trans HY2.out)
  have HB3 : Hid (Below w.heap.size w (w2.setRow w.heap.size #[.int .i64 author, .int .i64 number, .string prev, .int .i64 time, .int .i64 kind, .int .i64 a, .int .i64 b, .int .i64 cc, .slice A2 n2 c2, .slice B2 m2 k2, .string body, .int .i64 key, .string dig]).drew) := Lib.hid ((below_setRow HB2.out (Nat.le_refl _) _).drew)
  have HL3 : Hid (IRow (w2.setRow w.heap.size #[.int .i64 author, .int .i64 number, .string prev, .int .i64 time, .int .i64 kind, .int .i64 a, .int .i64 b, .int .i64 cc, .slice A2 n2 c2, .slice B2 m2 k2, .string body, .int .i64 key, .string dig]).drew A2 n2 c2 list) := Lib.hid (Row.drew (Row.keep HL2.out fun ad hA _ _ => setRow_other _ _ _ _ (by have := HNA.out ad hA; have := HGG.out; omega)))
  have HP3 : Hid (PRow (w2.setRow w.heap.size #[.int .i64 author, .int .i64 number, .string prev, .int .i64 time, .int .i64 kind, .int .i64 a, .int .i64 b, .int .i64 cc, .slice A2 n2 c2, .slice B2 m2 k2, .string body, .int .i64 key, .string dig]).drew B2 m2 k2 pins) := Lib.hid (Row.drew (Row.keep HP2.out fun ad hA _ _ => setRow_other _ _ _ _ (by have := HNB.out ad hA; have := HGG.out; omega)))
  have HZ3 : Hid (G + 1 ≤ (w2.setRow w.heap.size #[.int .i64 author, .int .i64 number, .string prev, .int .i64 time, .int .i64 kind, .int .i64 a, .int .i64 b, .int .i64 cc, .slice A2 n2 c2, .slice B2 m2 k2, .string body, .int .i64 key, .string dig]).drew.heap.size) := Lib.hid (by show _ ≤ (w2.setRow _ _).heap.size; rw [setRow_size]; exact HZ2.out)
  have HMA3 : Hid (∀ ad, A2 = some ad → ad.block < (w2.setRow w.heap.size #[.int .i64 author, .int .i64 number, .string prev, .int .i64 time, .int .i64 kind, .int .i64 a, .int .i64 b, .int .i64 cc, .slice A2 n2 c2, .slice B2 m2 k2, .string body, .int .i64 key, .string dig]).drew.heap.size) := Lib.hid fun ad hA => by show _ < (w2.setRow _ _).heap.size; rw [setRow_size]; exact HMA2.out ad hA
  have HMB3 : Hid (∀ ad, B2 = some ad → ad.block < (w2.setRow w.heap.size #[.int .i64 author, .int .i64 number, .string prev, .int .i64 time, .int .i64 kind, .int .i64 a, .int .i64 b, .int .i64 cc, .slice A2 n2 c2, .slice B2 m2 k2, .string body, .int .i64 key, .string dig]).drew.heap.size) := Lib.hid fun ad hA => by show _ < (w2.setRow _ _).heap.size; rw [setRow_size]; exact HMB2.out ad hA
  clear HX2 HY2 HB2 HL2 HP2 HZ2 HCP HMA2 HMB2
  generalize (w2.setRow w.heap.size #[.int .i64 author, .int .i64 number, .string prev, .int .i64 time, .int .i64 kind, .int .i64 a, .int .i64 b, .int .i64 cc, .slice A2 n2 c2, .slice B2 m2 k2, .string body, .int .i64 key, .string dig]).drew = w3 at HX3 HY3 HB3 HL3 HP3 HZ3 HMA3 HMB3 ⊢
  have hf0 : ∀ x, (fut (KeepC w.heap.size ⟨w.heap.size, 0, none⟩) w3 x).cell? ⟨w.heap.size, 0, none⟩ = some (.int .i64 author) := fun x => by
    rw [(fut_ok (KeepC.refl _ _) w3 x).2, cell_of_row _ _ _ _ _ _ HX3.out]; rfl
  refine wpGrow_cons ?_
  repeat (go_big_quiet_step (fail))
  refine wpQuiet_nil ?_
  clear hf0
  obtain ⟨hc0, hc1, hc2, hc3, hc4, hc5, hc6, hc7, hc8, hc9, hc10, hc11, hc12⟩ := stm_cells (A := A2) (n := n2) (c := c2) (B := B2) (m := m2) (k := k2) (s := ⟨author, number, prev, time, kind, a, b, cc, list, pins, body, key, dig⟩) HX3.out
  go_wp2_with fail
  clear hc0 hc1 hc2 hc3 hc4 hc5 hc6 hc7 hc8 hc9 hc10 hc11 hc12
  refine pieceEnd_normal ⟨KeepC.refl _ _ _, ?_⟩
  refine wpGrow_cons ?_
  refine wpQuiet_nil ?_
  go_wp2_with fail
  refine (HD.out A2 n2 c2 B2 m2 k2 w3 HL3.out HP3.out).mono ?_
  rintro e w4 ⟨rfl, hb⟩
  have hG := HGG.out
  have HF : Hid (KeepC w.heap.size ⟨w.heap.size, 0, none⟩ w3 w4) := Lib.hid ⟨hb.mono (by have := HZ3.out; omega), hb.cell (by show w.heap.size < _; have := HZ3.out; omega)⟩
  have HX4 := Lib.hid ((hb.block w.heap.size (by have := HZ3.out; omega)).trans HX3.out); have HY4 := Lib.hid ((hb.block (w.heap.size + 1) (by have := HZ3.out; omega)).trans HY3.out); have HB4 := Lib.hid (HB3.out.trans (hb.mono HB3.out.size)); have HL4 := Lib.hid (HL3.out.later hb); have HP4 := Lib.hid (HP3.out.later hb)
  have HZ4 : Hid (w3.heap.size ≤ w4.heap.size) := Lib.hid hb.size
  have HMA : Hid (∀ ad, A2 = some ad → ad.block < w4.heap.size) := Lib.hid fun ad hA => Nat.lt_of_lt_of_le (HMA3.out ad hA) hb.size
  have HMB : Hid (∀ ad, B2 = some ad → ad.block < w4.heap.size) := Lib.hid fun ad hA => Nat.lt_of_lt_of_le (HMB3.out ad hA) hb.size
  clear hb HX3 HY3 HB3 HL3 HP3
  go_wp2_with fail
  refine pieceEnd_normal ⟨HF.out, ?_⟩
  clear HF
  refine wpGrow_cons ?_
  refine wpQuiet_nil ?_
  go_wp2_with fail
  refine pieceEnd_normal ⟨KeepC.refl _ _ _, ?_⟩
  refine wpGrow_cons ?_
  repeat (go_big_quiet_step (fail))
  refine wpQuiet_nil ?_
  obtain ⟨hc0, hc1, hc2, hc3, hc4, hc5, hc6, hc7, hc8, hc9, hc10, hc11, hc12⟩ := stm_cells (A := A2) (n := n2) (c := c2) (B := B2) (m := m2) (k := k2) (s := ⟨author, number, prev, time, kind, a, b, cc, list, pins, body, key, dig⟩) HX4.out
  have hz1 : w4.frozen? ⟨w.heap.size, 11, none⟩ = false := frozen_of_row _ _ _ _ _ HX4.out
  have hz2 : w4.frozen? ⟨w.heap.size, 12, none⟩ = false := frozen_of_row _ _ _ _ _ HX4.out
  go_wp2_with fail
  have hx5 : ((w4.setCell ⟨w.heap.size, 11, none⟩ (.int .i64 author)).setCell ⟨w.heap.size, 12, none⟩ (.string D)).heap[w.heap.size]? = some (.cells #[.int .i64 author, .int .i64 number, .string prev, .int .i64 time, .int .i64 kind, .int .i64 a, .int .i64 b, .int .i64 cc, .slice A2 n2 c2, .slice B2 m2 k2, .string body, .int .i64 author, .string D] 30 (0, 0)) := heap_setCell_same _ _ _ _ _ _ (heap_setCell_same _ _ _ _ _ _ HX4.out)
  have hy5 : ((w4.setCell ⟨w.heap.size, 11, none⟩ (.int .i64 author)).setCell ⟨w.heap.size, 12, none⟩ (.string D)).heap[w.heap.size + 1]? = _ := (Below.heap_setCell _ _ _ _ (by show w.heap.size + 1 ≠ w.heap.size; omega)).trans ((Below.heap_setCell _ _ _ _ (by show w.heap.size + 1 ≠ w.heap.size; omega)).trans HY4.out)
  have hk5 : ∀ k, G + 1 ≤ k → ((w4.setCell ⟨w.heap.size, 11, none⟩ (.int .i64 author)).setCell ⟨w.heap.size, 12, none⟩ (.string D)).heap[k]? = w4.heap[k]? := fun k hk => (Below.heap_setCell _ _ _ _ (by show k ≠ w.heap.size; omega)).trans (Below.heap_setCell _ _ _ _ (by show k ≠ w.heap.size; omega))
  have hs5 : ((w4.setCell ⟨w.heap.size, 11, none⟩ (.int .i64 author)).setCell ⟨w.heap.size, 12, none⟩ (.string D)).heap.size = w4.heap.size := by rw [World.size_setCell, World.size_setCell]
  have hb5 : Below w.heap.size w4 ((w4.setCell ⟨w.heap.size, 11, none⟩ (.int .i64 author)).setCell ⟨w.heap.size, 12, none⟩ (.string D)) := ((Below.refl _ _).setCell (p := ⟨w.heap.size, 11, none⟩) (Nat.le_refl _) _).setCell (p := ⟨w.heap.size, 12, none⟩) (Nat.le_refl _) _
  refine pieceEnd_normal ⟨⟨hb5, by rw [cell_of_row _ _ _ _ _ _ hx5, cell_of_row _ _ _ _ _ _ HX4.out]; rfl⟩, ?_⟩
  have HY5 := Lib.hid hy5; have HK5 := Lib.hid hk5; have HS5 := Lib.hid hs5; have HB5 := Lib.hid (HB4.out.trans hb5)
  clear hc0 hc1 hc2 hc3 hc4 hc5 hc6 hc7 hc8 hc9 hc10 hc11 hc12 hz1 hz2 hy5 hk5 hs5 hb5 HX4 HY4 HB4
  generalize ((w4.setCell ⟨w.heap.size, 11, none⟩ (.int .i64 author)).setCell ⟨w.heap.size, 12, none⟩ (.string D)) = w5 at hx5 HY5 HK5 HS5 HB5 ⊢
  obtain ⟨hc0, hc1, hc2, hc3, hc4, hc5, hc6, hc7, hc8, hc9, hc10, hc11, hc12⟩ := stm_cells (A := A2) (n := n2) (c := c2) (B := B2) (m := m2) (k := k2) (s := ⟨author, number, prev, time, kind, a, b, cc, list, pins, body, author, D⟩) hx5
  refine wpGrow_nil ?_
  refine wpQuiet_nil ?_
  go_wp2_with (refine wpList_store_row rfl 30 (.tmp 2) (.tmp 11) rfl (w.heap.size + 1) #[.int .i64 author, .int .i64 number, .string prev, .int .i64 time, .int .i64 kind, .int .i64 a, .int .i64 b, .int .i64 cc, .slice A2 n2 c2, .slice B2 m2 k2, .string body, .int .i64 author, .string D] rfl rfl 30 _ HY5.out (by kernel_rfl) rfl (by simp [Value.oneCell']) ?_)
  have hfin : ∀ k, G + 1 ≤ k → (w5.setRow (w.heap.size + 1) #[.int .i64 author, .int .i64 number, .string prev, .int .i64 time, .int .i64 kind, .int .i64 a, .int .i64 b, .int .i64 cc, .slice A2 n2 c2, .slice B2 m2 k2, .string body, .int .i64 author, .string D]).heap[k]? = w4.heap[k]? := fun k hk => (setRow_other _ _ _ _ (by omega)).trans (HK5.out k hk)
  refine bodyPost_ret (v := .agg #[.int .i64 author, .int .i64 number, .string prev, .int .i64 time, .int .i64 kind, .int .i64 a, .int .i64 b, .int .i64 cc, .slice A2 n2 c2, .slice B2 m2 k2, .string body, .int .i64 author, .string D]) (results_cell_row rfl _ _ (w.heap.size + 1) 30 #[.int .i64 author, .int .i64 number, .string prev, .int .i64 time, .int .i64 kind, .int .i64 a, .int .i64 b, .int .i64 cc, .slice A2 n2 c2, .slice B2 m2 k2, .string body, .int .i64 author, .string D] (0, 0) _ rfl (setRow_heap _ _ _ _ _ _ HY5.out) Tryz.underlying30 rfl (by kernel_rfl)) rfl
    ⟨A2, n2, c2, B2, m2, k2, rfl, Row.keep HL4.out fun ad hA _ _ => hfin _ (HNA.out ad hA), Row.keep HP4.out fun ad hA _ _ => hfin _ (HNB.out ad hA), fun ad hA => ⟨by have := HNA.out ad hA; omega, by rw [setRow_size, HS5.out]; exact HMA.out ad hA⟩, fun ad hA => ⟨by have := HNB.out ad hA; omega, by rw [setRow_size, HS5.out]; exact HMB.out ad hA⟩, HNIL.out, below_setRow HB5.out (by omega) _⟩
theorem sealBare_any (s : Stm) (w : World) (hs : Small s) (hsl : s.list = [] ∧ s.pins = []) : Calls Tryz.prog 22 #[stmV s none 0 0 none 0 0] w (SaysL (stmV (sealOf s) none 0 0 none 0 0) w) :=
  (refSealN_any s none 0 0 none 0 0 w (by rw [hsl.1]; exact Row.nilRow _ _) (by rw [hsl.2]; exact Row.nilRow _ _) hs ⟨rfl, rfl, rfl, rfl, rfl, rfl⟩ hsl).mono fun e w' h => by
    obtain ⟨A, n, c, B, m, k, rfl, -, -, -, -, ⟨rfl, rfl, rfl, rfl, rfl, rfl⟩, hb⟩ := h
    exact ⟨rfl, hb⟩
end Go.Proofs.YtnjilfdmplbalaaGreatDoor
/- The sanity check of the layer store: it answers yes. -/
namespace Go.Proofs.YtnjilfdmplbalaaGreatDoor
open Go.RowKit
theorem Fit.well {au : Int} {s : Stm} (h : Fit au s) : Well s := ⟨h.check, h.sealed, h.bare.1, h.bare.2.1, h.bare.2.2.1⟩
theorem one_is : One (bareS 1 0 ⟨#[]⟩ 0 10 0) := ⟨mk_fit 1 0 ⟨#[]⟩ 0 10 0 (by omega) (by omega) rfl (by omega) (.inr (by omega)) (by omega) (by omega), rfl, rfl, digS_size _⟩
theorem sto_nil : Sto [] := ⟨fun i _ h => absurd h (Nat.not_lt_zero _), fun _ h => (by cases h), by simp⟩
theorem sto_one {s : Stm} (h : Well s) : Sto [s] := ⟨fun i h1 h2 => absurd h2 (by simp; omega), fun x hx => (by rw [List.mem_singleton.1 hx]; exact h), by simp⟩
theorem seal_bare (au number : Nat) (prev : ByteArray) (time kind a : Nat) (hp : prev.size ≤ 100) (w : World) :
    Calls Tryz.prog 22 #[stmV (F.bare au number prev time kind a) none 0 0 none 0 0] w (SaysL (stmV (bareS au number prev time kind a) none 0 0 none 0 0) w) := by
  have h := refSealN_any (F.bare au number prev time kind a) none 0 0 none 0 0 w (Row.nilRow _ _) (Row.nilRow _ _) ⟨by show prev.size ≤ _; omega, Nat.zero_le _, Nat.zero_le _, Nat.zero_le _, Nat.zero_le _, Nat.zero_le _⟩ ⟨rfl, rfl, rfl, rfl, rfl, rfl⟩ ⟨rfl, rfl⟩
  refine Calls.mono h ?_
  rintro e w' ⟨A, n, c, B, m, k, rfl, -, -, -, -, ⟨rfl, rfl, rfl, rfl, rfl, rfl⟩, hb⟩
  exact ⟨rfl, hb⟩
set_option maxRecDepth 100000 in
set_option maxHeartbeats 4000000 in
theorem awake_any (w : World) (hr : Rounds w) : Calls Tryz.prog 10 #[] w (SaysL (.bool true) w) := by
  obtain ⟨s, hs0⟩ : ∃ s, s = bareS 1 0 ⟨#[]⟩ 0 10 0 := ⟨_, rfl⟩
  have hs : One s := by rw [hs0]; exact one_is
  have hw : Well s := hs.fit.well
  have HSE : Hid (∀ y, Calls Tryz.prog 22 #[.agg #[.int .i64 1, .int .i64 0, .string ⟨#[]⟩, .int .i64 0, .int .i64 10, .int .i64 0, .int .i64 0, .int .i64 0, .slice none 0 0, .slice none 0 0, .string ⟨#[]⟩, .int .i64 0, .string ⟨#[]⟩]] y (SaysL (stmV s none 0 0 none 0 0) y)) := Lib.hid fun y => by
    rw [hs0]
    exact seal_bare 1 0 ⟨#[]⟩ 0 10 0 (by show (0 : Nat) ≤ 100; omega) y
  have HA1 : Hid (∀ y, Below w.heap.size w y → Calls Tryz.prog 11 #[.agg #[.slice none 0 0], stmV s none 0 0 none 0 0] y fun e w' => ∃ A2 c2, e = .returned (.tuple #[.agg #[.slice A2 1 c2], .bool true, .int .i64 0]) ∧ SRow w' A2 1 c2 [s] ∧ Below y.heap.size y w') := Lib.hid fun y h => by
    have h1 := add_any none 0 0 [] s y (Row.nilRow _ _) sto_nil hw 0 (Nat.le_refl _) (fun i h => absurd h (Nat.not_lt_zero _)) (fun i _ h => absurd h (Nat.not_lt_zero _)) (hr.later h)
    refine Calls.mono h1 ?_
    rintro e w' ⟨A2, n2, c2, b, er, rfl, hb, -, -, h3⟩
    obtain ⟨rfl, rfl, rfl, hrow⟩ := h3 (fun h => absurd h.1 (Nat.lt_irrefl _)) (by omega)
    exact ⟨A2, c2, rfl, hrow, hb⟩
  have HA2 : Hid (∀ y A2 c2, Below w.heap.size w y → SRow y A2 1 c2 [s] → Calls Tryz.prog 11 #[.agg #[.slice A2 1 c2], stmV s none 0 0 none 0 0] y (SaysL (.tuple #[.agg #[.slice A2 1 c2], .bool false, .int .i64 0]) y)) := Lib.hid fun y A2 c2 h hrow => by
    have h1 := add_any A2 1 c2 [s] s y hrow (sto_one hw) hw 0 (by omega) (fun i h => absurd h (Nat.not_lt_zero _)) (fun i _ h => by
      have : i = 0 := by omega
      rw [this]
      show 0 ≤ cmpS s s
      rw [cmpS_self]; omega) (hr.later h)
    refine Calls.mono h1 ?_
    rintro e w' ⟨A3, n3, c3, b, er, rfl, hb, h2, -, -⟩
    obtain ⟨rfl, rfl, rfl, rfl, rfl⟩ := h2 ⟨by omega, cmpS_self s⟩
    exact ⟨rfl, hb⟩
  have HPI : Hid (∀ y A2 c2, Below w.heap.size w y → SRow y A2 1 c2 [s] → Calls Tryz.prog 30 #[.agg #[.slice A2 1 c2]] y fun e w' => ∃ A3 c3, e = .returned (.slice A3 1 c3) ∧ PRow w' A3 1 c3 [⟨1, 1, s.dig⟩] ∧ Below y.heap.size y w') := Lib.hid fun y A2 c2 h hrow => pins_one A2 c2 s y hrow hs (hr.later h)
  have HPD : Hid (∀ y A2 c2 A3 c3, Below w.heap.size w y → SRow y A2 1 c2 [s] → PRow y A3 1 c3 [⟨1, 1, s.dig⟩] → Calls Tryz.prog 40 #[.agg #[.slice A2 1 c2], .slice A3 1 c3] y fun e w' => ∃ A4 c4, e = .returned (.tuple #[.slice A4 1 c4, .int .i64 0]) ∧ Below y.heap.size y w') := Lib.hid fun y A2 c2 A3 c3 h hrow hp => pinned_one A2 c2 s A3 c3 y hrow hp hs (sto_one hw) (hr.later h)
  have HVA : Hid (∀ y A2 c2, Below w.heap.size w y → SRow y A2 1 c2 [s] → Calls Tryz.prog 15 #[.agg #[.slice A2 1 c2]] y (SaysL (.bool true) y)) := Lib.hid fun y A2 c2 h hrow => valid_any A2 1 c2 [s] y hrow (sto_one hw) (hr.later h)
  have HHE : Hid (∀ y A2 c2, Below w.heap.size w y → SRow y A2 1 c2 [s] → Calls Tryz.prog 34 #[.agg #[.slice A2 1 c2], .int .i64 1] y (SaysL (.int .i64 1) y)) := Lib.hid fun y A2 c2 h hrow => by
    have h1 := height_any A2 1 c2 [s] y hrow (by omega) 1 (hs.good 1) (hs.two 1) (hr.later h)
    rw [hs.count 1, hs.by 1, if_pos rfl] at h1
    exact h1
  clear hs0 hs hw hr
  unfold stmV at HSE HA1 HA2
  go_enter Tryz.func10, Tryz.ntmps10
  go_wp2_with fail
  refine (HSE.out w).mono ?_
  rintro e w1 ⟨rfl, hb⟩
  have HB1 := Lib.hid hb; clear hb HSE
  go_wp2_with (first | (refine wpList_store_new rfl 30 (.tmp 1) (.tmp 12) rfl 30 _ #[.int .i64 s.author, .int .i64 s.number, .string s.prev, .int .i64 s.time, .int .i64 s.kind, .int .i64 s.a, .int .i64 s.b, .int .i64 s.c, .slice none 0 0, .slice none 0 0, .string s.body, .int .i64 s.key, .string s.dig] rfl rfl (by kernel_rfl) rfl (by simp [Value.oneCell']) ?_) | (refine wpList_load_row rfl 30 (.tmp 1) rfl (w1.heap.size) rfl 30 #[.int .i64 s.author, .int .i64 s.number, .string s.prev, .int .i64 s.time, .int .i64 s.kind, .int .i64 s.a, .int .i64 s.b, .int .i64 s.c, .slice none 0 0, .slice none 0 0, .string s.body, .int .i64 s.key, .string s.dig] (0, 0) _ (BoxS.new w1 s) Tryz.underlying30 rfl (by kernel_rfl) ?_))
  have HB1' : Hid (Below w.heap.size w (w1.alloc (.cells #[.int .i64 s.author, .int .i64 s.number, .string s.prev, .int .i64 s.time, .int .i64 s.kind, .int .i64 s.a, .int .i64 s.b, .int .i64 s.c, .slice none 0 0, .slice none 0 0, .string s.body, .int .i64 s.key, .string s.dig] 30))) := Lib.hid (HB1.out.trans ((one_new w1 _).mono HB1.out.size))
  have HX1 : Hid (BoxS (w1.alloc (.cells #[.int .i64 s.author, .int .i64 s.number, .string s.prev, .int .i64 s.time, .int .i64 s.kind, .int .i64 s.a, .int .i64 s.b, .int .i64 s.c, .slice none 0 0, .slice none 0 0, .string s.body, .int .i64 s.key, .string s.dig] 30)) w1.heap.size s) := Lib.hid (BoxS.new w1 s)
  have HZ1 : Hid (w1.heap.size < (w1.alloc (.cells #[.int .i64 s.author, .int .i64 s.number, .string s.prev, .int .i64 s.time, .int .i64 s.kind, .int .i64 s.a, .int .i64 s.b, .int .i64 s.c, .slice none 0 0, .slice none 0 0, .string s.body, .int .i64 s.key, .string s.dig] 30)).heap.size) := Lib.hid (by simp)
  generalize (w1.alloc (.cells #[.int .i64 s.author, .int .i64 s.number, .string s.prev, .int .i64 s.time, .int .i64 s.kind, .int .i64 s.a, .int .i64 s.b, .int .i64 s.c, .slice none 0 0, .slice none 0 0, .string s.body, .int .i64 s.key, .string s.dig] 30)) = y1 at *
  refine (HA1.out y1 HB1'.out).mono ?_
  rintro e w2 ⟨A2, c2, rfl, hrow, hb⟩
  have HR2 := Lib.hid hrow; have HB2 := Lib.hid (HB1'.out.trans (hb.mono HB1'.out.size)); have HX2 := Lib.hid (HX1.out.later hb); have HZ2 : Hid (w1.heap.size < w2.heap.size) := Lib.hid (Nat.lt_of_lt_of_le HZ1.out hb.size)
  clear hrow hb HA1 HX1 HB1' HB1 HZ1
  have HX3 := Lib.hid (HX2.out.later (one_new w2 (.cells #[.slice A2 1 c2] 24))); have HB3 := Lib.hid (HB2.out.trans ((one_new w2 (.cells #[.slice A2 1 c2] 24)).mono HB2.out.size)); have HR3 := Lib.hid (HR2.out.later (one_new w2 (.cells #[.slice A2 1 c2] 24)))
  have HS3 := Lib.hid (heap_alloc_new w2 (.cells #[.slice A2 1 c2] 24)); have HZ3 : Hid (w2.heap.size < (w2.alloc (.cells #[.slice A2 1 c2] 24)).heap.size) := Lib.hid (by simp)
  go_wp2_with (first | (refine wpList_store_new rfl 24 (.tmp 2) (.tmp 17) rfl 24 _ #[.slice A2 1 c2] rfl rfl (by kernel_rfl) rfl (by simp [Value.oneCell']) ?_) | (refine wpList_load_row rfl 24 (.tmp 2) rfl (w2.heap.size) rfl 24 #[.slice A2 1 c2] (0, 0) _ (HS3.out) Tryz.underlying24 rfl (by kernel_rfl) ?_) | (refine wpList_load_row rfl 30 (.tmp 1) rfl (w1.heap.size) rfl 30 #[.int .i64 s.author, .int .i64 s.number, .string s.prev, .int .i64 s.time, .int .i64 s.kind, .int .i64 s.a, .int .i64 s.b, .int .i64 s.c, .slice none 0 0, .slice none 0 0, .string s.body, .int .i64 s.key, .string s.dig] (0, 0) _ (HX3.out) Tryz.underlying30 rfl (by kernel_rfl) ?_))
  generalize (w2.alloc (.cells #[.slice A2 1 c2] 24)) = y2 at *
  refine (HA2.out y2 A2 c2 HB3.out HR3.out).mono ?_
  rintro e w3 ⟨rfl, hb⟩
  have HR4 := Lib.hid (HR3.out.later hb); have HB4 := Lib.hid (HB3.out.trans (hb.mono HB3.out.size))
  clear hb HA2 HX3 HB3 HR3 HX2 HB2 HR2 HS3 HZ3 HZ2
  have HB5 := Lib.hid (HB4.out.trans ((one_new w3 (.cells #[.slice A2 1 c2] 24)).mono HB4.out.size)); have HR5 := Lib.hid (HR4.out.later (one_new w3 (.cells #[.slice A2 1 c2] 24)))
  have HS5 := Lib.hid (heap_alloc_new w3 (.cells #[.slice A2 1 c2] 24)); have HZ5 : Hid (w3.heap.size < (w3.alloc (.cells #[.slice A2 1 c2] 24)).heap.size) := Lib.hid (by simp)
  go_wp2_with (first | (refine wpList_store_new rfl 24 (.tmp 5) (.tmp 24) rfl 24 _ #[.slice A2 1 c2] rfl rfl (by kernel_rfl) rfl (by simp [Value.oneCell']) ?_) | (refine wpList_load_row rfl 24 (.tmp 5) rfl (w3.heap.size) rfl 24 #[.slice A2 1 c2] (0, 0) _ (HS5.out) Tryz.underlying24 rfl (by kernel_rfl) ?_))
  generalize (w3.alloc (.cells #[.slice A2 1 c2] 24)) = y3 at *
  refine (HPI.out y3 A2 c2 HB5.out HR5.out).mono ?_
  rintro e w4 ⟨A3, c3, rfl, hp, hb⟩
  have HP6 := Lib.hid hp; have HR6 := Lib.hid (HR5.out.later hb); have HB6 := Lib.hid (HB5.out.trans (hb.mono HB5.out.size)); have HS6 := Lib.hid ((hb.block _ HZ5.out).trans HS5.out); have HZ6 : Hid (w3.heap.size < w4.heap.size) := Lib.hid (Nat.lt_of_lt_of_le HZ5.out hb.size)
  clear hp hb HPI HR5 HB5 HS5 HZ5 HR4 HB4
  go_wp2_with (refine wpList_load_row rfl 24 (.tmp 5) rfl (w3.heap.size) rfl 24 #[.slice A2 1 c2] (0, 0) _ (HS6.out) Tryz.underlying24 rfl (by kernel_rfl) ?_)
  refine (HPD.out w4 A2 c2 A3 c3 HB6.out HR6.out HP6.out).mono ?_
  rintro e w5 ⟨A4, c4, rfl, hb⟩
  have HR7 := Lib.hid (HR6.out.later hb); have HB7 := Lib.hid (HB6.out.trans (hb.mono HB6.out.size)); have HS7 := Lib.hid ((hb.block _ HZ6.out).trans HS6.out); have HZ7 : Hid (w3.heap.size < w5.heap.size) := Lib.hid (Nat.lt_of_lt_of_le HZ6.out hb.size)
  clear hb HPD HR6 HB6 HS6 HZ6 HP6
  have hc7 := cell_of_row _ _ 0 _ _ _ HS7.out
  simp only [List.getElem?_toArray, List.getElem?_cons_zero] at hc7
  go_wp2_with fail
  refine (HVA.out w5 A2 c2 HB7.out HR7.out).mono ?_
  rintro e w6 ⟨rfl, hb⟩
  have HR8 := Lib.hid (HR7.out.later hb); have HB8 := Lib.hid (HB7.out.trans (hb.mono HB7.out.size)); have HS8 := Lib.hid ((hb.block _ HZ7.out).trans HS7.out)
  clear hb HVA HR7 HB7 HS7 HZ7 hc7
  have hc8 := cell_of_row _ _ 0 _ _ _ HS8.out
  simp only [List.getElem?_toArray, List.getElem?_cons_zero] at hc8
  go_wp2_with fail
  refine (HHE.out w6 A2 c2 HB8.out HR8.out).mono ?_
  rintro e w7 ⟨rfl, hb⟩
  have HB9 := Lib.hid (HB8.out.trans (hb.mono HB8.out.size))
  clear hb HHE HR8 HB8 HS8 hc8
  go_wp2_with fail
  go_ret
  exact ⟨rfl, HB9.out⟩
end Go.Proofs.YtnjilfdmplbalaaGreatDoor
/- The full list of StoreFull: five authors with 200 statements each. No program. -/
namespace Go.Proofs.YtnjilfdmplbalaaGreatDoor
/-- The digest that statement i of an author names. -/
noncomputable def prevAt (k : Nat) : Nat → ByteArray
  | 0 => ⟨#[]⟩
  | i + 1 => (bareS k i (prevAt k i) 0 10 0).dig
noncomputable def stAt (k i : Nat) : Stm := bareS k i (prevAt k i) 0 10 0
theorem prevAt_size (k i : Nat) : (prevAt k i).size = if i = 0 then 0 else 32 := by
  cases i with
  | zero => rfl
  | succ i => rw [if_neg (by omega)]; exact digS_size _
theorem stAt_fit (k i : Nat) (hk : k ≤ 63) (hi : i ≤ 199) : Fit (k : Int) (stAt k i) := mk_fit k i (prevAt k i) 0 10 0 hk hi (prevAt_size k i) (by omega) (.inr (by omega)) (by omega) (by omega)
noncomputable def nth (j : Nat) : Stm := stAt (j / 200) (j % 200)
noncomputable def fullL (n : Nat) : List Stm := (List.range n).map nth
theorem fullL_len (n : Nat) : (fullL n).length = n := by unfold fullL; simp
theorem fullL_snoc (n : Nat) : fullL (n + 1) = fullL n ++ [nth n] := by unfold fullL; rw [List.range_succ]; simp
theorem fullL_at (n j : Nat) (h : j < n) : (fullL n).getD j noStm = nth j := by
  rw [List.getD_eq_getElem?_getD, List.getElem?_eq_getElem (by rw [fullL_len]; exact h)]
  unfold fullL
  simp
theorem nth_at (k i : Nat) (h : i < 200) : nth (200 * k + i) = stAt k i := by
  unfold nth
  rw [show (200 * k + i) / 200 = k by omega, show (200 * k + i) % 200 = i by omega]
theorem nth_fit (j : Nat) (h : j < 1000) : Fit ((j / 200 : Nat) : Int) (nth j) := stAt_fit _ _ (by omega) (by omega)
theorem nth_lt (i j : Nat) (h : i < j) : cmpS (nth i) (nth j) < 0 := by
  by_cases hq : i / 200 < j / 200
  · exact cmpS_author (by show ((i / 200 : Nat) : Int) < ((j / 200 : Nat) : Int); omega)
  · have he : i / 200 = j / 200 := by have := Nat.div_le_div_right (c := 200) (Nat.le_of_lt h); omega
    exact cmpS_number (by show ((i / 200 : Nat) : Int) = ((j / 200 : Nat) : Int); rw [he]) (by show ((i % 200 : Nat) : Int) < ((j % 200 : Nat) : Int); omega)
theorem fullL_pair (n : Nat) : (fullL n).Pairwise fun x y => cmpS x y < 0 := by
  unfold fullL
  rw [List.pairwise_map]
  exact List.pairwise_lt_range.imp fun h => nth_lt _ _ h
theorem asc_of {l : List Stm} (h : l.Pairwise fun x y => cmpS x y < 0) : Asc l := by
  intro i h1 hi
  have hx := List.pairwise_iff_getElem.1 h (i - 1) i (by omega) hi (by omega)
  have e1 : l.getD i noStm = l[i] := by rw [List.getD_eq_getElem?_getD, List.getElem?_eq_getElem hi]; rfl
  have e2 : l.getD (i - 1) noStm = l[i - 1] := by rw [List.getD_eq_getElem?_getD, List.getElem?_eq_getElem (by omega)]; rfl
  rw [e1, e2]
  exact hx
theorem fullL_well (n : Nat) (h : n ≤ 1000) : ∀ s ∈ fullL n, Well s := by
  intro s hs
  obtain ⟨j, hj, rfl⟩ := List.mem_map.1 hs
  exact (nth_fit j (by have := List.mem_range.1 hj; omega)).well
theorem fullL_sto : Sto (fullL 1000) := ⟨asc_of (fullL_pair 1000), fullL_well 1000 (Nat.le_refl _), by rw [fullL_len]; omega⟩
/-- The statement of another author. -/
noncomputable def moreS : Stm := bareS 7 0 ⟨#[]⟩ 0 10 0
theorem more_fit : Fit ((7 : Nat) : Int) moreS := mk_fit 7 0 ⟨#[]⟩ 0 10 0 (by omega) (by omega) rfl (by omega) (.inr (by omega)) (by omega) (by omega)
theorem more_lt (j : Nat) (h : j < 1000) : cmpS (nth j) moreS < 0 := cmpS_author (by show ((j / 200 : Nat) : Int) < ((7 : Nat) : Int); omega)
/-- All but one. -/
noncomputable def lessL : List Stm := (fullL 1000).take 777 ++ (fullL 1000).drop 778
theorem full_split : fullL 1000 = (fullL 1000).take 777 ++ nth 777 :: (fullL 1000).drop 778 := by
  have h : 777 < (fullL 1000).length := by rw [fullL_len]; omega
  conv => lhs; rw [← List.take_append_drop 777 (fullL 1000), List.drop_eq_getElem_cons h]
  have e := fullL_at 1000 777 (by omega)
  rw [List.getD_eq_getElem?_getD, List.getElem?_eq_getElem h] at e
  have e2 : (fullL 1000)[777] = nth 777 := e
  rw [e2]
theorem lessL_sub : List.Sublist lessL (fullL 1000) := by
  conv => rhs; rw [full_split]
  exact List.Sublist.append (List.Sublist.refl _) (List.sublist_cons_self _ _)
theorem lessL_len : lessL.length = 999 := by
  unfold lessL
  rw [List.length_append, List.length_take, List.length_drop, fullL_len]
  omega
theorem lessL_sto : Sto lessL := ⟨asc_of ((fullL_pair 1000).sublist lessL_sub), fun s hs => fullL_well 1000 (Nat.le_refl _) s (lessL_sub.mem hs), by rw [lessL_len]; omega⟩
theorem snoc_perm (a b : List Stm) (x : Stm) : (a ++ (b ++ [x])).Perm (a ++ x :: b) := List.Perm.append_left a List.perm_append_comm
theorem less_apart : (lessL ++ [nth 777]).Pairwise fun x y => cmpS x y ≠ 0 := by
  have h1 : (fullL 1000).Pairwise fun x y => cmpS x y ≠ 0 := (fullL_pair 1000).imp fun h => by omega
  refine (List.Perm.pairwise_iff (R := fun x y => cmpS x y ≠ 0) (fun h => cmp_symm h) ?_).2 h1
  conv => rhs; rw [full_split]
  unfold lessL
  rw [List.append_assoc]
  exact snoc_perm _ _ _
theorem more_apart : (fullL 1000 ++ [moreS]).Pairwise fun x y => cmpS x y ≠ 0 := by
  rw [List.pairwise_append]
  refine ⟨(fullL_pair 1000).imp fun h => by omega, by simp, fun a ha b hb => ?_⟩
  obtain ⟨j, hj, rfl⟩ := List.mem_map.1 ha
  rw [List.mem_singleton.1 hb]
  have := more_lt j (List.mem_range.1 hj)
  omega
end Go.Proofs.YtnjilfdmplbalaaGreatDoor
/- A region that draws its order: an operation that builds a value is taken as readers are. Plain facts over any program. -/
namespace Go.Proofs.YtnjilfdmplbalaaGreatDoor
open Go.RowKit Go
def isVal (o : Oper) : Bool := isRead o || (match o.op with | .build .. => true | _ => false)
theorem val_value {P : Program} {o : Oper} (h : isVal o = true) {ρ : Operand → Value} {w w' : World} {n : Next} (hr : (execOp ρ o).run P w = .ok n w') : ∃ v, n = .value v := by
  unfold isVal at h
  rw [Bool.or_eq_true] at h
  rcases h with h | h
  · exact read_value h hr
  · obtain ⟨dst, op, t, pos, after, g⟩ := o
    cases op with
    | build t parts => exact run_v hr
    | _ => cases h
section
variable {P : Program} {md : Region.Mode} {F : World → World → Prop}
theorem val_yields {ops : Array Oper} {C : World → Prop} {o : Oper} {a : Act} {v : Value} (ho : isVal o = true) (hw : Region.wanted o (yielded ops a.tmps) = true) (h : ∀ w, C w → o.quietAt P a C w v) : YieldsIf P ops C o v a := by
  refine .inl ⟨hw, fun w hC => ?_⟩
  have h1 := h w hC
  unfold Oper.quietAt at h1
  cases hr : (execOp a.eval o).run P w with
  | halt x w' => rw [hr] at h1; exact h1.elim
  | ok n w' =>
    obtain ⟨u, rfl⟩ := val_value ho hr
    rw [hr] at h1
    obtain ⟨rfl, rfl⟩ := h1
    rfl
/-- A value is built, whatever else may come up. -/
theorem flow_val {l : List Oper} {Q : Exit → Act → World → Prop} (hr : ∀ w, F w w) (hs : Region.noSelect l.toArray = true) {fuel : Nat} (i : Nat) {listed : Array Bool} {a : Act} {w : World}
    (hB : ((Region.ready md l.toArray listed).contains i && Region.free md l.toArray listed i && isVal (pick l i) && decide (i < l.length)) = true)
    (h : wpQuiet P l.toArray (Futs F w) (fun a' => wpAnyH P md l.toArray (NoPanic Q) (Futs F w) fuel (listed.setIfInBounds i true) a' w) [pick l i] a) :
    wpAnyH P md l.toArray (NoPanic Q) (Futs F w) (fuel + 1) listed a w := by
  simp only [Bool.and_eq_true, decide_eq_true_eq] at hB
  obtain ⟨⟨⟨h1, h2⟩, h3⟩, h4⟩ := hB
  unfold wpQuiet at h
  split at h
  · rename_i hw
    obtain ⟨v, hv, hn⟩ := h
    exact wpAnyH_take (pick_at h4) hs h2 h1 (fun _ _ _ h => h) (val_yields h3 hw hv) (Futs.of (hr w)) hn
  · rename_i hw
    exact wpAnyH_take (pick_at h4) hs h2 h1 (fun _ _ _ h => h) (.inr ⟨by simpa using hw, rfl⟩) (Futs.of (hr w)) h
theorem flow_three {l : List Oper} {Q : Exit → Act → World → Prop} (ht : ∀ a b c, F a b → F b c → F a c) (hr : ∀ w, F w w) {fuel : Nat} (e1 e2 e3 : Nat) {listed : Array Bool} {a : Act} {w : World} (h2 : (Region.ready md l.toArray listed == [e1, e2, e3]) = true) (h3 : e1 < l.length) (h4 : e2 < l.length) (h5 : e3 < l.length)
    (h : wpList P l.toArray (pieceEnd fun a'' w' => F w w' ∧ wpAnyH P md l.toArray (NoPanic Q) (Futs F w') fuel (listed.setIfInBounds e1 true) a'' w') [pick l e1] a w)
    (h' : wpList P l.toArray (pieceEnd fun a'' w' => F w w' ∧ wpAnyH P md l.toArray (NoPanic Q) (Futs F w') fuel (listed.setIfInBounds e2 true) a'' w') [pick l e2] a w)
    (h'' : wpList P l.toArray (pieceEnd fun a'' w' => F w w' ∧ wpAnyH P md l.toArray (NoPanic Q) (Futs F w') fuel (listed.setIfInBounds e3 true) a'' w') [pick l e3] a w) :
    wpAnyH P md l.toArray (NoPanic Q) (Futs F w) (fuel + 1) listed a w :=
  flow_step ht hr [e1, e2, e3] h2 (by simp) (by simp [h3, h4, h5]) (fun i hi => by
    have : i = e1 ∨ i = e2 ∨ i = e3 := by simpa using hi
    rcases this with rfl | rfl | rfl
    · exact h
    · exact h'
    · exact h'')
end
end Go.Proofs.YtnjilfdmplbalaaGreatDoor
