import Derived.Test.YtdioijnhliejpaaDoorGrowFlow
import Derived.Test.YtdioijnhliejpaaDoorRefSeal
import Derived.Test.YtdioijnhliejpaaDoorPackC
/- A region that draws its order: an operation that builds a value is taken as readers are. Plain facts over any program. -/
namespace Go.Proofs.YtdioijnhliejpaaDoor
open Go.RowKit Go
def isVal (o : Oper) : Bool := isRead o || (match o.op with | .build .. => true | _ => false)
theorem val_value {P : Program} {o : Oper} (h : isVal o = true) {ρ : Operand → Value} {w w' : World} {n : Next} (hr : (execOp ρ o).run P w = .ok n w') : ∃ v, n = .value v := by
  unfold isVal at h
  rw [Bool.or_eq_true] at h
  rcases h with h | h
  · exact read_value h hr
  · obtain ⟨dst, op, t, pos, after, g⟩ := o
    cases op with
    | build t parts => exact run_v hr
    | _ => cases h
section
variable {P : Program} {md : Region.Mode} {F : World → World → Prop}
theorem val_yields {ops : Array Oper} {C : World → Prop} {o : Oper} {a : Act} {v : Value} (ho : isVal o = true) (hw : Region.wanted o (yielded ops a.tmps) = true) (h : ∀ w, C w → o.quietAt P a C w v) : YieldsIf P ops C o v a := by
  refine .inl ⟨hw, fun w hC => ?_⟩
  have h1 := h w hC
  unfold Oper.quietAt at h1
  cases hr : (execOp a.eval o).run P w with
  | halt x w' => rw [hr] at h1; exact h1.elim
  | ok n w' =>
    obtain ⟨u, rfl⟩ := val_value ho hr
    rw [hr] at h1
    obtain ⟨rfl, rfl⟩ := h1
    rfl
/-- A value is built, whatever else may come up. -/
theorem flow_val {l : List Oper} {Q : Exit → Act → World → Prop} (hr : ∀ w, F w w) (hs : Region.noSelect l.toArray = true) {fuel : Nat} (i : Nat) {listed : Array Bool} {a : Act} {w : World}
    (hB : ((Region.ready md l.toArray listed).contains i && Region.free md l.toArray listed i && isVal (pick l i) && decide (i < l.length)) = true)
    (h : wpQuiet P l.toArray (Futs F w) (fun a' => wpAnyH P md l.toArray (NoPanic Q) (Futs F w) fuel (listed.setIfInBounds i true) a' w) [pick l i] a) :
    wpAnyH P md l.toArray (NoPanic Q) (Futs F w) (fuel + 1) listed a w := by
  simp only [Bool.and_eq_true, decide_eq_true_eq] at hB
  obtain ⟨⟨⟨h1, h2⟩, h3⟩, h4⟩ := hB
  unfold wpQuiet at h
  split at h
  · rename_i hw
    obtain ⟨v, hv, hn⟩ := h
    exact wpAnyH_take (pick_at h4) hs h2 h1 (fun _ _ _ h => h) (val_yields h3 hw hv) (Futs.of (hr w)) hn
  · rename_i hw
    exact wpAnyH_take (pick_at h4) hs h2 h1 (fun _ _ _ h => h) (.inr ⟨by simpa using hw, rfl⟩) (Futs.of (hr w)) h
theorem flow_three {l : List Oper} {Q : Exit → Act → World → Prop} (ht : ∀ a b c, F a b → F b c → F a c) (hr : ∀ w, F w w) {fuel : Nat} (e1 e2 e3 : Nat) {listed : Array Bool} {a : Act} {w : World} (h2 : (Region.ready md l.toArray listed == [e1, e2, e3]) = true) (h3 : e1 < l.length) (h4 : e2 < l.length) (h5 : e3 < l.length)
    (h : wpList P l.toArray (pieceEnd fun a'' w' => F w w' ∧ wpAnyH P md l.toArray (NoPanic Q) (Futs F w') fuel (listed.setIfInBounds e1 true) a'' w') [pick l e1] a w)
    (h' : wpList P l.toArray (pieceEnd fun a'' w' => F w w' ∧ wpAnyH P md l.toArray (NoPanic Q) (Futs F w') fuel (listed.setIfInBounds e2 true) a'' w') [pick l e2] a w)
    (h'' : wpList P l.toArray (pieceEnd fun a'' w' => F w w' ∧ wpAnyH P md l.toArray (NoPanic Q) (Futs F w') fuel (listed.setIfInBounds e3 true) a'' w') [pick l e3] a w) :
    wpAnyH P md l.toArray (NoPanic Q) (Futs F w) (fuel + 1) listed a w :=
  flow_step ht hr [e1, e2, e3] h2 (by simp) (by simp [h3, h4, h5]) (fun i hi => by
    have : i = e1 ∨ i = e2 ∨ i = e3 := by simpa using hi
    rcases this with rfl | rfl | rfl
    · exact h
    · exact h'
    · exact h'')
end
end Go.Proofs.YtdioijnhliejpaaDoor
/- The reference's Copy and Seal of statements without lists: nil stays nil. -/
namespace Go.Proofs.YtdioijnhliejpaaDoor
open Go.RowKit
theorem run_app_nil {P : Program} (w : World) (t ty e : TypeId) (i : TypeInfo) (ht : P.underlying t = some (.slice e)) (hi : P.info? e = some i) :
    (Builtin.append_ #[t, t] ty #[.slice none 0 0, .slice none 0 0]).run P w = .ok (.slice none 0 0) w := by
  simp [Builtin.append_, run_underlying ht, sizeOf, typeInfo, hi, Builtin.lenOf, Builtin.firstCells]
theorem wpList_app_nil {P : Program} {ops : Array Oper} {rest : List Oper} {o : Oper} {a : Act} {w : World} {Q : Exit → Act → World → Prop} (hgd : o.guard = none) (s x : Operand) (t e : TypeId) (ho : o.op = .call { callee := .builtin .append, args := #[s, x], argTypes := #[t, t] })
    (i : TypeInfo) (ht : P.underlying t = some (.slice e)) (hi : P.info? e = some i) (hs : a.eval s = .slice none 0 0) (hx : a.eval x = .slice none 0 0) (h : wpList P ops Q rest (a.put o.dst (.slice none 0 0)) w) : wpList P ops Q (o :: rest) a w := by
  refine wpList_plain hgd fun K hK => ?_
  unfold Oper.wp execOp
  simp only [ho, resolve, invoke, builtin, Sem.run_bind, Sem.run_pure, Result.andThen_ok, List.map_toArray, List.map_cons, List.map_nil, hs, hx, run_app_nil w t o.type e i ht hi]
  exact hK _ _ h
/-- A call that returns a statement whose lists are nil. -/
def GivesN (w : World) (s : Stm) (e : Ending) (w' : World) : Prop := ∃ A n c B m k, e = .returned (stmV s A n c B m k) ∧ IRow w' A n c s.list ∧ PRow w' B m k s.pins ∧ New w w' A ∧ New w w' B ∧ (A = none ∧ n = 0 ∧ c = 0 ∧ B = none ∧ m = 0 ∧ k = 0) ∧ Below w.heap.size w w'
theorem infoI : ∃ i, Tryd.prog.info? 3 = some i := by
  obtain ⟨i, hi, _⟩ := info_parts (P := Tryd.prog) i64_info
  exact ⟨i, hi⟩
theorem infoPin : ∃ i, Tryd.prog.info? 68 = some i := by
  obtain ⟨i, hi, _⟩ := info_parts (P := Tryd.prog) pin_info
  exact ⟨i, hi⟩
set_option maxRecDepth 100000 in
set_option maxHeartbeats 2000000 in
theorem copyBare_any (s : Stm) (w : World) : Calls Tryd.prog 16 #[stmV s none 0 0 none 0 0] w (SaysL (stmV s none 0 0 none 0 0) w) := by
  obtain ⟨ii, hii⟩ := infoI
  obtain ⟨ip, hip⟩ := infoPin

  obtain ⟨author, number, prev, time, kind, a, b, cc, list, pins, body, key, dig⟩ := s
  unfold stmV
  go_enter Tryd.func16, Tryd.ntmps16
  go_wp2_with (first
    | (at_builtin; refine wpList_app_nil rfl (.const (.slice none 0 0)) (.tmp 4) 22 3 rfl ii Tryd.underlying22 hii rfl rfl ?_)
    | (at_builtin; refine wpList_app_nil rfl (.const (.slice none 0 0)) (.tmp 8) 29 68 rfl ip Tryd.underlying29 hip rfl rfl ?_))
  have hy := heap_alloc_new (w.alloc (.cells #[.int .i64 author, .int .i64 number, .string prev, .int .i64 time, .int .i64 kind, .int .i64 a, .int .i64 b, .int .i64 cc, .slice none 0 0, .slice none 0 0, .string body, .int .i64 key, .string dig] 33)) (.cells #[.int .i64 author, .int .i64 number, .string prev, .int .i64 time, .int .i64 kind, .int .i64 a, .int .i64 b, .int .i64 cc, .slice none 0 0, .slice none 0 0, .string body, .int .i64 key, .string dig] 33)
  rw [show (w.alloc (.cells #[.int .i64 author, .int .i64 number, .string prev, .int .i64 time, .int .i64 kind, .int .i64 a, .int .i64 b, .int .i64 cc, .slice none 0 0, .slice none 0 0, .string body, .int .i64 key, .string dig] 33)).heap.size = w.heap.size + 1 by simp] at hy
  refine bodyPost_ret (v := .agg #[.int .i64 author, .int .i64 number, .string prev, .int .i64 time, .int .i64 kind, .int .i64 a, .int .i64 b, .int .i64 cc, .slice none 0 0, .slice none 0 0, .string body, .int .i64 key, .string dig]) (results_cell_row rfl _ _ (w.heap.size + 1) 33 #[.int .i64 author, .int .i64 number, .string prev, .int .i64 time, .int .i64 kind, .int .i64 a, .int .i64 b, .int .i64 cc, .slice none 0 0, .slice none 0 0, .string body, .int .i64 key, .string dig] (0, 0) _ rfl hy Tryd.underlying33 rfl (by kernel_rfl)) rfl ⟨rfl, (one_new w _).alloc (by simp) _⟩
set_option maxRecDepth 100000 in
set_option maxHeartbeats 2000000 in
theorem refSealN_any (s : Stm) (A : Option Addr) (n c : Nat) (B : Option Addr) (m k : Nat) (w : World) (hl : IRow w A n c s.list) (hp : PRow w B m k s.pins) (hs : Small s) (hnn : A = none ∧ n = 0 ∧ c = 0 ∧ B = none ∧ m = 0 ∧ k = 0) (hsl : s.list = [] ∧ s.pins = []) :
    Calls Tryd.prog 17 #[stmV s A n c B m k] w (GivesN w (sealOf s)) := by
  have HCP : Hid (∀ w', Below w.heap.size w w' → Calls Tryd.prog 16 #[stmV s A n c B m k] w' (GivesN w' s)) := Lib.hid fun w' h => by
    obtain ⟨rfl, rfl, rfl, rfl, rfl, rfl⟩ := hnn
    exact (copyBare_any s w').mono fun e w'' ⟨h1, h2⟩ => ⟨none, 0, 0, none, 0, 0, h1, by rw [hsl.1]; exact Row.nilRow _ _, by rw [hsl.2]; exact Row.nilRow _ _, (fun _ h => by cases h), (fun _ h => by cases h), ⟨rfl, rfl, rfl, rfl, rfl, rfl⟩, h2⟩
  have HD : Hid (∀ A n c B m k w', IRow w' A n c s.list → PRow w' B m k s.pins → Calls Tryd.prog 30 #[stmV s A n c B m k] w' (SaysL (.string (digS s)) w')) := Lib.hid fun A n c B m k w' h1 h2 => refDigest_any s A n c B m k w' h1 h2 hs
  clear hl hp hs hsl hnn
  unfold sealOf
  generalize digS s = D at HD ⊢
  obtain ⟨author, number, prev, time, kind, a, b, cc, list, pins, body, key, dig⟩ := s
  unfold stmV at HCP HD ⊢
  simp only at HD
  obtain ⟨G, hG⟩ : ∃ G, G = w.heap.size + 1 := ⟨_, rfl⟩
  have HGG := Lib.hid hG; clear hG
  have hb0 : Below w.heap.size w ((w.alloc (.cells #[.int .i64 author, .int .i64 number, .string prev, .int .i64 time, .int .i64 kind, .int .i64 a, .int .i64 b, .int .i64 cc, .slice A n c, .slice B m k, .string body, .int .i64 key, .string dig] 33)).alloc (.cells #[.int .i64 0, .int .i64 0, .string ⟨#[]⟩, .int .i64 0, .int .i64 0, .int .i64 0, .int .i64 0, .int .i64 0, .slice none 0 0, .slice none 0 0, .string ⟨#[]⟩, .int .i64 0, .string ⟨#[]⟩] 33)) := (one_new w _).alloc (by simp) _
  have hx0 : ((w.alloc (.cells #[.int .i64 author, .int .i64 number, .string prev, .int .i64 time, .int .i64 kind, .int .i64 a, .int .i64 b, .int .i64 cc, .slice A n c, .slice B m k, .string body, .int .i64 key, .string dig] 33)).alloc (.cells #[.int .i64 0, .int .i64 0, .string ⟨#[]⟩, .int .i64 0, .int .i64 0, .int .i64 0, .int .i64 0, .int .i64 0, .slice none 0 0, .slice none 0 0, .string ⟨#[]⟩, .int .i64 0, .string ⟨#[]⟩] 33)).heap[w.heap.size]? = _ := (Below.heap_alloc _ _ _ (by simp)).trans (heap_alloc_new w (.cells #[.int .i64 author, .int .i64 number, .string prev, .int .i64 time, .int .i64 kind, .int .i64 a, .int .i64 b, .int .i64 cc, .slice A n c, .slice B m k, .string body, .int .i64 key, .string dig] 33))
  have hy0 : ((w.alloc (.cells #[.int .i64 author, .int .i64 number, .string prev, .int .i64 time, .int .i64 kind, .int .i64 a, .int .i64 b, .int .i64 cc, .slice A n c, .slice B m k, .string body, .int .i64 key, .string dig] 33)).alloc (.cells #[.int .i64 0, .int .i64 0, .string ⟨#[]⟩, .int .i64 0, .int .i64 0, .int .i64 0, .int .i64 0, .int .i64 0, .slice none 0 0, .slice none 0 0, .string ⟨#[]⟩, .int .i64 0, .string ⟨#[]⟩] 33)).heap[(w.alloc (.cells #[.int .i64 author, .int .i64 number, .string prev, .int .i64 time, .int .i64 kind, .int .i64 a, .int .i64 b, .int .i64 cc, .slice A n c, .slice B m k, .string body, .int .i64 key, .string dig] 33)).heap.size]? = _ := heap_alloc_new (w.alloc (.cells #[.int .i64 author, .int .i64 number, .string prev, .int .i64 time, .int .i64 kind, .int .i64 a, .int .i64 b, .int .i64 cc, .slice A n c, .slice B m k, .string body, .int .i64 key, .string dig] 33)) (.cells #[.int .i64 0, .int .i64 0, .string ⟨#[]⟩, .int .i64 0, .int .i64 0, .int .i64 0, .int .i64 0, .int .i64 0, .slice none 0 0, .slice none 0 0, .string ⟨#[]⟩, .int .i64 0, .string ⟨#[]⟩] 33)
  rw [show (w.alloc (.cells #[.int .i64 author, .int .i64 number, .string prev, .int .i64 time, .int .i64 kind, .int .i64 a, .int .i64 b, .int .i64 cc, .slice A n c, .slice B m k, .string body, .int .i64 key, .string dig] 33)).heap.size = w.heap.size + 1 by simp] at hy0
  have hz0 : ((w.alloc (.cells #[.int .i64 author, .int .i64 number, .string prev, .int .i64 time, .int .i64 kind, .int .i64 a, .int .i64 b, .int .i64 cc, .slice A n c, .slice B m k, .string body, .int .i64 key, .string dig] 33)).alloc (.cells #[.int .i64 0, .int .i64 0, .string ⟨#[]⟩, .int .i64 0, .int .i64 0, .int .i64 0, .int .i64 0, .int .i64 0, .slice none 0 0, .slice none 0 0, .string ⟨#[]⟩, .int .i64 0, .string ⟨#[]⟩] 33)).heap.size = G + 1 := by rw [HGG.out]; simp
  have HB1 := Lib.hid hb0; have HX1 := Lib.hid hx0; have HY1 := Lib.hid hy0; have HZ1 := Lib.hid hz0; clear hb0 hx0 hy0 hz0
  go_enter Tryd.func17, Tryd.ntmps17
  go_wp2_with fail
  refine (HCP.out _ HB1.out).mono ?_
  rintro e w2 ⟨A2, n2, c2, B2, m2, k2, rfl, hl2, hp2, hna, hnb, hnil, hb⟩
  have HNIL := Lib.hid hnil
  clear hnil
  unfold stmV
  simp only at hl2 hp2
  have hsz := HZ1.out
  have HNA : Hid (∀ ad, A2 = some ad → G + 1 ≤ ad.block) := Lib.hid fun ad hA => by have := (hna ad hA).1; rw [hsz] at this; exact this
  have HNB : Hid (∀ ad, B2 = some ad → G + 1 ≤ ad.block) := Lib.hid fun ad hA => by have := (hnb ad hA).1; rw [hsz] at this; exact this
  have HMA2 : Hid (∀ ad, A2 = some ad → ad.block < w2.heap.size) := Lib.hid fun ad hA => (hna ad hA).2
  have HMB2 : Hid (∀ ad, B2 = some ad → ad.block < w2.heap.size) := Lib.hid fun ad hA => (hnb ad hA).2
  clear hna hnb
  have HL2 := Lib.hid hl2; have HP2 := Lib.hid hp2; have HB2 := Lib.hid (HB1.out.trans (hb.mono HB1.out.size)); have HX2 := Lib.hid ((hb.block w.heap.size (by rw [hsz, HGG.out]; omega)).trans HX1.out); have HY2 := Lib.hid ((hb.block (w.heap.size + 1) (by rw [hsz, HGG.out]; omega)).trans HY1.out); have HZ2 : Hid (G + 1 ≤ w2.heap.size) := Lib.hid (by have := hb.size; rw [hsz] at this; exact this)
  clear hl2 hp2 hb HB1 HX1 HY1 HZ1 hsz
  go_wp2_with (refine wpList_store_row rfl 33 (.tmp 1) (.tmp 4) rfl w.heap.size #[.int .i64 author, .int .i64 number, .string prev, .int .i64 time, .int .i64 kind, .int .i64 a, .int .i64 b, .int .i64 cc, .slice A2 n2 c2, .slice B2 m2 k2, .string body, .int .i64 key, .string dig] rfl rfl 33 _ HX2.out (by kernel_rfl) rfl (by simp [Value.oneCell']) ?_)
  refine wp_region_grow (by kernel_rfl) (KeepC w.heap.size ⟨w.heap.size, 0, none⟩) (KeepC.refl _ _) (fun _ _ _ => KeepC.trans) [] [([0, 1], 2), ([], 3), ([], 4), ([5], 6)] (by kernel_rfl) (by kernel_rfl) (by kernel_rfl) ?_
  simp only [List.map_cons, List.map_nil, pick, List.getD_cons_zero, List.getD_cons_succ]
  simp only [Act.put]
  have HX3 : Hid ((w2.setRow w.heap.size #[.int .i64 author, .int .i64 number, .string prev, .int .i64 time, .int .i64 kind, .int .i64 a, .int .i64 b, .int .i64 cc, .slice A2 n2 c2, .slice B2 m2 k2, .string body, .int .i64 key, .string dig]).drew.heap[w.heap.size]? = _) := Lib.hid (setRow_heap _ _ _ #[.int .i64 author, .int .i64 number, .string prev, .int .i64 time, .int .i64 kind, .int .i64 a, .int .i64 b, .int .i64 cc, .slice A2 n2 c2, .slice B2 m2 k2, .string body, .int .i64 key, .string dig] _ _ HX2.out)
  have HY3 : Hid ((w2.setRow w.heap.size #[.int .i64 author, .int .i64 number, .string prev, .int .i64 time, .int .i64 kind, .int .i64 a, .int .i64 b, .int .i64 cc, .slice A2 n2 c2, .slice B2 m2 k2, .string body, .int .i64 key, .string dig]).drew.heap[w.heap.size + 1]? = _) := Lib.hid ((setRow_other w2 w.heap.size (w.heap.size + 1) #[.int .i64 author, .int .i64 number, .string prev, .int .i64 time, .int .i64 kind, .int .i64 a, .int .i64 b, .int .i64 cc, .slice A2 n2 c2, .slice B2 m2 k2, .string body, .int .i64 key, .string dig] (by omega)).trans HY2.out)
  have HB3 : Hid (Below w.heap.size w (w2.setRow w.heap.size #[.int .i64 author, .int .i64 number, .string prev, .int .i64 time, .int .i64 kind, .int .i64 a, .int .i64 b, .int .i64 cc, .slice A2 n2 c2, .slice B2 m2 k2, .string body, .int .i64 key, .string dig]).drew) := Lib.hid ((below_setRow HB2.out (Nat.le_refl _) _).drew)
  have HL3 : Hid (IRow (w2.setRow w.heap.size #[.int .i64 author, .int .i64 number, .string prev, .int .i64 time, .int .i64 kind, .int .i64 a, .int .i64 b, .int .i64 cc, .slice A2 n2 c2, .slice B2 m2 k2, .string body, .int .i64 key, .string dig]).drew A2 n2 c2 list) := Lib.hid (Row.drew (Row.keep HL2.out fun ad hA _ _ => setRow_other _ _ _ _ (by have := HNA.out ad hA; have := HGG.out; omega)))
  have HP3 : Hid (PRow (w2.setRow w.heap.size #[.int .i64 author, .int .i64 number, .string prev, .int .i64 time, .int .i64 kind, .int .i64 a, .int .i64 b, .int .i64 cc, .slice A2 n2 c2, .slice B2 m2 k2, .string body, .int .i64 key, .string dig]).drew B2 m2 k2 pins) := Lib.hid (Row.drew (Row.keep HP2.out fun ad hA _ _ => setRow_other _ _ _ _ (by have := HNB.out ad hA; have := HGG.out; omega)))
  have HZ3 : Hid (G + 1 ≤ (w2.setRow w.heap.size #[.int .i64 author, .int .i64 number, .string prev, .int .i64 time, .int .i64 kind, .int .i64 a, .int .i64 b, .int .i64 cc, .slice A2 n2 c2, .slice B2 m2 k2, .string body, .int .i64 key, .string dig]).drew.heap.size) := Lib.hid (by show _ ≤ (w2.setRow _ _).heap.size; rw [setRow_size]; exact HZ2.out)
  have HMA3 : Hid (∀ ad, A2 = some ad → ad.block < (w2.setRow w.heap.size #[.int .i64 author, .int .i64 number, .string prev, .int .i64 time, .int .i64 kind, .int .i64 a, .int .i64 b, .int .i64 cc, .slice A2 n2 c2, .slice B2 m2 k2, .string body, .int .i64 key, .string dig]).drew.heap.size) := Lib.hid fun ad hA => by show _ < (w2.setRow _ _).heap.size; rw [setRow_size]; exact HMA2.out ad hA
  have HMB3 : Hid (∀ ad, B2 = some ad → ad.block < (w2.setRow w.heap.size #[.int .i64 author, .int .i64 number, .string prev, .int .i64 time, .int .i64 kind, .int .i64 a, .int .i64 b, .int .i64 cc, .slice A2 n2 c2, .slice B2 m2 k2, .string body, .int .i64 key, .string dig]).drew.heap.size) := Lib.hid fun ad hA => by show _ < (w2.setRow _ _).heap.size; rw [setRow_size]; exact HMB2.out ad hA
  clear HX2 HY2 HB2 HL2 HP2 HZ2 HCP HMA2 HMB2
  generalize (w2.setRow w.heap.size #[.int .i64 author, .int .i64 number, .string prev, .int .i64 time, .int .i64 kind, .int .i64 a, .int .i64 b, .int .i64 cc, .slice A2 n2 c2, .slice B2 m2 k2, .string body, .int .i64 key, .string dig]).drew = w3 at HX3 HY3 HB3 HL3 HP3 HZ3 HMA3 HMB3 ⊢
  have hf0 : ∀ x, (fut (KeepC w.heap.size ⟨w.heap.size, 0, none⟩) w3 x).cell? ⟨w.heap.size, 0, none⟩ = some (.int .i64 author) := fun x => by
    rw [(fut_ok (KeepC.refl _ _) w3 x).2, cell_of_row _ _ _ _ _ _ HX3.out]; rfl
  refine wpGrow_cons ?_
  repeat (go_big_quiet_step (fail))
  refine wpQuiet_nil ?_
  clear hf0
  obtain ⟨hc0, hc1, hc2, hc3, hc4, hc5, hc6, hc7, hc8, hc9, hc10, hc11, hc12⟩ := stm_cells (A := A2) (n := n2) (c := c2) (B := B2) (m := m2) (k := k2) (s := ⟨author, number, prev, time, kind, a, b, cc, list, pins, body, key, dig⟩) HX3.out
  go_wp2_with fail
  clear hc0 hc1 hc2 hc3 hc4 hc5 hc6 hc7 hc8 hc9 hc10 hc11 hc12
  refine pieceEnd_normal ⟨KeepC.refl _ _ _, ?_⟩
  refine wpGrow_cons ?_
  refine wpQuiet_nil ?_
  go_wp2_with fail
  refine (HD.out A2 n2 c2 B2 m2 k2 w3 HL3.out HP3.out).mono ?_
  rintro e w4 ⟨rfl, hb⟩
  have hG := HGG.out
  have HF : Hid (KeepC w.heap.size ⟨w.heap.size, 0, none⟩ w3 w4) := Lib.hid ⟨hb.mono (by have := HZ3.out; omega), hb.cell (by show w.heap.size < _; have := HZ3.out; omega)⟩
  have HX4 := Lib.hid ((hb.block w.heap.size (by have := HZ3.out; omega)).trans HX3.out); have HY4 := Lib.hid ((hb.block (w.heap.size + 1) (by have := HZ3.out; omega)).trans HY3.out); have HB4 := Lib.hid (HB3.out.trans (hb.mono HB3.out.size)); have HL4 := Lib.hid (HL3.out.later hb); have HP4 := Lib.hid (HP3.out.later hb)
  have HZ4 : Hid (w3.heap.size ≤ w4.heap.size) := Lib.hid hb.size
  have HMA : Hid (∀ ad, A2 = some ad → ad.block < w4.heap.size) := Lib.hid fun ad hA => Nat.lt_of_lt_of_le (HMA3.out ad hA) hb.size
  have HMB : Hid (∀ ad, B2 = some ad → ad.block < w4.heap.size) := Lib.hid fun ad hA => Nat.lt_of_lt_of_le (HMB3.out ad hA) hb.size
  clear hb HX3 HY3 HB3 HL3 HP3
  go_wp2_with fail
  refine pieceEnd_normal ⟨HF.out, ?_⟩
  clear HF
  refine wpGrow_cons ?_
  refine wpQuiet_nil ?_
  go_wp2_with fail
  refine pieceEnd_normal ⟨KeepC.refl _ _ _, ?_⟩
  refine wpGrow_cons ?_
  repeat (go_big_quiet_step (fail))
  refine wpQuiet_nil ?_
  obtain ⟨hc0, hc1, hc2, hc3, hc4, hc5, hc6, hc7, hc8, hc9, hc10, hc11, hc12⟩ := stm_cells (A := A2) (n := n2) (c := c2) (B := B2) (m := m2) (k := k2) (s := ⟨author, number, prev, time, kind, a, b, cc, list, pins, body, key, dig⟩) HX4.out
  have hz1 : w4.frozen? ⟨w.heap.size, 11, none⟩ = false := frozen_of_row _ _ _ _ _ HX4.out
  have hz2 : w4.frozen? ⟨w.heap.size, 12, none⟩ = false := frozen_of_row _ _ _ _ _ HX4.out
  go_wp2_with fail
  have hx5 : ((w4.setCell ⟨w.heap.size, 11, none⟩ (.int .i64 author)).setCell ⟨w.heap.size, 12, none⟩ (.string D)).heap[w.heap.size]? = some (.cells #[.int .i64 author, .int .i64 number, .string prev, .int .i64 time, .int .i64 kind, .int .i64 a, .int .i64 b, .int .i64 cc, .slice A2 n2 c2, .slice B2 m2 k2, .string body, .int .i64 author, .string D] 33 (0, 0)) := heap_setCell_same _ _ _ _ _ _ (heap_setCell_same _ _ _ _ _ _ HX4.out)
  have hy5 : ((w4.setCell ⟨w.heap.size, 11, none⟩ (.int .i64 author)).setCell ⟨w.heap.size, 12, none⟩ (.string D)).heap[w.heap.size + 1]? = _ := (Below.heap_setCell _ _ _ _ (by show w.heap.size + 1 ≠ w.heap.size; omega)).trans ((Below.heap_setCell _ _ _ _ (by show w.heap.size + 1 ≠ w.heap.size; omega)).trans HY4.out)
  have hk5 : ∀ k, G + 1 ≤ k → ((w4.setCell ⟨w.heap.size, 11, none⟩ (.int .i64 author)).setCell ⟨w.heap.size, 12, none⟩ (.string D)).heap[k]? = w4.heap[k]? := fun k hk => (Below.heap_setCell _ _ _ _ (by show k ≠ w.heap.size; omega)).trans (Below.heap_setCell _ _ _ _ (by show k ≠ w.heap.size; omega))
  have hs5 : ((w4.setCell ⟨w.heap.size, 11, none⟩ (.int .i64 author)).setCell ⟨w.heap.size, 12, none⟩ (.string D)).heap.size = w4.heap.size := by rw [World.size_setCell, World.size_setCell]
  have hb5 : Below w.heap.size w4 ((w4.setCell ⟨w.heap.size, 11, none⟩ (.int .i64 author)).setCell ⟨w.heap.size, 12, none⟩ (.string D)) := ((Below.refl _ _).setCell (p := ⟨w.heap.size, 11, none⟩) (Nat.le_refl _) _).setCell (p := ⟨w.heap.size, 12, none⟩) (Nat.le_refl _) _
  refine pieceEnd_normal ⟨⟨hb5, by rw [cell_of_row _ _ _ _ _ _ hx5, cell_of_row _ _ _ _ _ _ HX4.out]; rfl⟩, ?_⟩
  have HY5 := Lib.hid hy5; have HK5 := Lib.hid hk5; have HS5 := Lib.hid hs5; have HB5 := Lib.hid (HB4.out.trans hb5)
  clear hc0 hc1 hc2 hc3 hc4 hc5 hc6 hc7 hc8 hc9 hc10 hc11 hc12 hz1 hz2 hy5 hk5 hs5 hb5 HX4 HY4 HB4
  generalize ((w4.setCell ⟨w.heap.size, 11, none⟩ (.int .i64 author)).setCell ⟨w.heap.size, 12, none⟩ (.string D)) = w5 at hx5 HY5 HK5 HS5 HB5 ⊢
  obtain ⟨hc0, hc1, hc2, hc3, hc4, hc5, hc6, hc7, hc8, hc9, hc10, hc11, hc12⟩ := stm_cells (A := A2) (n := n2) (c := c2) (B := B2) (m := m2) (k := k2) (s := ⟨author, number, prev, time, kind, a, b, cc, list, pins, body, author, D⟩) hx5
  refine wpGrow_nil ?_
  refine wpQuiet_nil ?_
  go_wp2_with (refine wpList_store_row rfl 33 (.tmp 2) (.tmp 11) rfl (w.heap.size + 1) #[.int .i64 author, .int .i64 number, .string prev, .int .i64 time, .int .i64 kind, .int .i64 a, .int .i64 b, .int .i64 cc, .slice A2 n2 c2, .slice B2 m2 k2, .string body, .int .i64 author, .string D] rfl rfl 33 _ HY5.out (by kernel_rfl) rfl (by simp [Value.oneCell']) ?_)
  have hfin : ∀ k, G + 1 ≤ k → (w5.setRow (w.heap.size + 1) #[.int .i64 author, .int .i64 number, .string prev, .int .i64 time, .int .i64 kind, .int .i64 a, .int .i64 b, .int .i64 cc, .slice A2 n2 c2, .slice B2 m2 k2, .string body, .int .i64 author, .string D]).heap[k]? = w4.heap[k]? := fun k hk => (setRow_other _ _ _ _ (by omega)).trans (HK5.out k hk)
  refine bodyPost_ret (v := .agg #[.int .i64 author, .int .i64 number, .string prev, .int .i64 time, .int .i64 kind, .int .i64 a, .int .i64 b, .int .i64 cc, .slice A2 n2 c2, .slice B2 m2 k2, .string body, .int .i64 author, .string D]) (results_cell_row rfl _ _ (w.heap.size + 1) 33 #[.int .i64 author, .int .i64 number, .string prev, .int .i64 time, .int .i64 kind, .int .i64 a, .int .i64 b, .int .i64 cc, .slice A2 n2 c2, .slice B2 m2 k2, .string body, .int .i64 author, .string D] (0, 0) _ rfl (setRow_heap _ _ _ _ _ _ HY5.out) Tryd.underlying33 rfl (by kernel_rfl)) rfl
    ⟨A2, n2, c2, B2, m2, k2, rfl, Row.keep HL4.out fun ad hA _ _ => hfin _ (HNA.out ad hA), Row.keep HP4.out fun ad hA _ _ => hfin _ (HNB.out ad hA), fun ad hA => ⟨by have := HNA.out ad hA; omega, by rw [setRow_size, HS5.out]; exact HMA.out ad hA⟩, fun ad hA => ⟨by have := HNB.out ad hA; omega, by rw [setRow_size, HS5.out]; exact HMB.out ad hA⟩, HNIL.out, below_setRow HB5.out (by omega) _⟩
theorem sealBare_any (s : Stm) (w : World) (hs : Small s) (hsl : s.list = [] ∧ s.pins = []) : Calls Tryd.prog 17 #[stmV s none 0 0 none 0 0] w (SaysL (stmV (sealOf s) none 0 0 none 0 0) w) :=
  (refSealN_any s none 0 0 none 0 0 w (by rw [hsl.1]; exact Row.nilRow _ _) (by rw [hsl.2]; exact Row.nilRow _ _) hs ⟨rfl, rfl, rfl, rfl, rfl, rfl⟩ hsl).mono fun e w' h => by
    obtain ⟨A, n, c, B, m, k, rfl, -, -, -, -, ⟨rfl, rfl, rfl, rfl, rfl, rfl⟩, hb⟩ := h
    exact ⟨rfl, hb⟩
end Go.Proofs.YtdioijnhliejpaaDoor
