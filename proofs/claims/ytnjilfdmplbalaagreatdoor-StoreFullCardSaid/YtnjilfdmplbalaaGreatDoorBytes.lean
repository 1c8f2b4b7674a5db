/- The walks of statement.numbers and Bytes. -/
import Derived.Test.YtnjilfdmplbalaaGreatDoorForm
import Derived.Test.YtnjilfdmplbalaaGreatDoorWrite
namespace Go.Proofs.YtnjilfdmplbalaaGreatDoor
open Go.RowKit
theorem BOwn.later {w w' : World} {B : Nat} {v : Value} {us : List UInt8} (h : BOwn w B v us) (hb : Below w.heap.size w w') : BOwn w' B v us := own_below h hb fun k hk => (World.ownsRow.lt h k hk).2
theorem BOwn.from {w : World} {B B' : Nat} {v : Value} {us : List UInt8} (h : BOwn w B v us) (hb : B' ≤ B) : BOwn w B' v us := own_mono h hb
set_option maxHeartbeats 1000000 in
theorem numbers_any (A : Option Addr) (n c : Nat) (l : List Int) (w : World) (hl : IRow w A n c l) (hn : n ≤ 1000) :
    Calls Tryz.prog 143 #[.slice A n c] w (GivesO w (listB l)) := by
  have HI := Lib.hid hl; have HL := Lib.hid hl.len; clear hl
  go_enter Tryz.func143, Tryz.ntmps143
  go_wp2
  go_loopw [3, 8] (fun v i wr => ∃ k : Nat, k ≤ n ∧ i = .int .i64 k ∧ Hid (BOwn wr w.heap.size v (listB (l.take k)) ∧ Below w.heap.size w wr)) (fun _ i _ => n - (intOf i).toNat)
  case atStart => exact ⟨0, Nat.zero_le _, rfl, Lib.hid ⟨World.ownsRow_nil _ _ _ _, Below.refl _ _⟩⟩
  case round =>
    obtain ⟨k, hk, rfl, HQ⟩ := hrel
    by_cases hlt : k < n
    · obtain ⟨b, off, hA, hc0⟩ := (HI.out.later HQ.out.2).cell k hlt
      obtain ⟨A1, c1, hv, hr1⟩ := HQ.out.1.row
      subst hA; subst hv
      have HR1 := Lib.hid hr1
      have HLN : Hid ((listB (l.take k)).length = 8 * k) := by unfold Hid; rw [listB_len, List.length_take, HL.out]; omega
      rw [HLN.out] at HR1 ⊢
      have HT : Hid (listB (l.take (k + 1)) = listB (l.take k) ++ be8 (l.getD k 0)) := by unfold Hid; rw [take_snoc' l k 0 (by rw [HL.out]; exact hlt), listB_snoc]
      clear hr1
      generalize l.getD k 0 = x at hc0 HT
      go_wp2_with fail
      refine (wireInt_own A1 (8 * k) c1 (listB (l.take k)) x wr HR1.out (by omega)).mono ?_
      rintro e w1 ⟨v1, rfl, ho, hb⟩
      have HO := Lib.hid (ho.from HQ.out.2.size); have HB := Lib.hid (HQ.out.2.trans (hb.mono HQ.out.2.size)); clear ho hb
      go_wp2
      exact ⟨⟨k + 1, hlt, by go_num, Lib.hid ⟨by rw [HT.out]; exact HO.out, HB.out⟩⟩, by simp [intOf]; omega⟩
    · have HE : Hid (k = n) := by unfold Hid; omega
      have HT : Hid (l.take k = l) := by unfold Hid; rw [HE.out, ← HL.out, List.take_length]
      go_wp2
      go_ret
      exact ⟨_, rfl, by have := HQ.out.1; rw [HT.out] at this; exact this, HQ.out.2⟩
/-- The bytes of a pin, of pins; the body bytes of a statement. -/
def pinBs (p : PinD) : List UInt8 := listB [p.author, p.height] ++ textB p.digest.data.toList
def pinsBs (l : List PinD) : List UInt8 := l.flatMap pinBs
theorem pinsBs_app (l m : List PinD) : pinsBs (l ++ m) = pinsBs l ++ pinsBs m := by simp [pinsBs]
theorem pinsBs_snoc (l : List PinD) (p : PinD) : pinsBs (l ++ [p]) = pinsBs l ++ pinBs p := by simp [pinsBs]
def bodyB (s : Stm) : List UInt8 :=
  listB [s.author, s.number] ++ textB s.prev.data.toList ++ listB [s.time, s.kind, s.a, s.b, s.c] ++ intsB s.list ++ listB [(s.pins.length : Int)] ++ pinsBs s.pins ++ textB s.body.data.toList
/-- Not too much to be written. -/
structure Small (s : Stm) : Prop where
  prev : s.prev.size ≤ 1000
  list : s.list.length ≤ 1000
  pins : s.pins.length ≤ 1000
  all : (pinsBs s.pins).length ≤ 1500000
  body : s.body.size ≤ 100000
  dig : s.dig.size ≤ 100000
theorem str_len (b : ByteArray) : b.data.toList.length = b.size := by simp
theorem textS_len (b : ByteArray) : (textB b.data.toList).length = 8 + b.size := by rw [textB_len, str_len]
theorem take_pins {s : Stm} (h : Small s) (k : Nat) : (pinsBs (s.pins.take k)).length ≤ 1500000 := by
  have h1 := h.all
  rw [← List.take_append_drop k s.pins, pinsBs_app, List.length_append] at h1
  omega
theorem pin_small {s : Stm} (h : Small s) (k : Nat) (hk : k < s.pins.length) : (s.pins.getD k noPin).digest.size ≤ 1500000 := by
  have h1 := take_pins h (k + 1)
  rw [take_snoc' s.pins k noPin hk, pinsBs_snoc, List.length_append] at h1
  unfold pinBs at h1
  rw [List.length_append, textS_len] at h1
  omega
/-- What readers of a drawn region find in a block of a statement. -/
theorem stm_futs {F : World → World → Prop} (hr : ∀ w, F w w) {W : World} {g : Nat} {s : Stm} {A : Option Addr} {n c : Nat} {B : Option Addr} {m k : Nat} {t : TypeId} {fr : Nat × Nat}
    (hF : ∀ w', F W w' → w'.heap[g]? = W.heap[g]?) (h : W.heap[g]? = some (.cells #[.int .i64 s.author, .int .i64 s.number, .string s.prev, .int .i64 s.time, .int .i64 s.kind, .int .i64 s.a, .int .i64 s.b, .int .i64 s.c, .slice A n c, .slice B m k, .string s.body, .int .i64 s.key, .string s.dig] t fr)) :
    (∀ x, (fut F W x).cell? ⟨g, 0, none⟩ = some (.int .i64 s.author)) ∧ (∀ x, (fut F W x).cell? ⟨g, 1, none⟩ = some (.int .i64 s.number)) ∧ (∀ x, (fut F W x).cell? ⟨g, 2, none⟩ = some (.string s.prev)) ∧ (∀ x, (fut F W x).cell? ⟨g, 3, none⟩ = some (.int .i64 s.time)) ∧ (∀ x, (fut F W x).cell? ⟨g, 4, none⟩ = some (.int .i64 s.kind)) ∧ (∀ x, (fut F W x).cell? ⟨g, 5, none⟩ = some (.int .i64 s.a)) ∧ (∀ x, (fut F W x).cell? ⟨g, 6, none⟩ = some (.int .i64 s.b)) ∧ (∀ x, (fut F W x).cell? ⟨g, 7, none⟩ = some (.int .i64 s.c)) ∧ (∀ x, (fut F W x).cell? ⟨g, 8, none⟩ = some (.slice A n c)) ∧ (∀ x, (fut F W x).cell? ⟨g, 9, none⟩ = some (.slice B m k)) ∧ (∀ x, (fut F W x).cell? ⟨g, 10, none⟩ = some (.string s.body)) ∧ (∀ x, (fut F W x).cell? ⟨g, 11, none⟩ = some (.int .i64 s.key)) ∧ (∀ x, (fut F W x).cell? ⟨g, 12, none⟩ = some (.string s.dig)) := by
  have h2 := fun x => stm_cells (s := s) ((hF _ (fut_ok hr W x)).trans h)
  exact ⟨fun x => (h2 x).1, fun x => (h2 x).2.1, fun x => (h2 x).2.2.1, fun x => (h2 x).2.2.2.1, fun x => (h2 x).2.2.2.2.1, fun x => (h2 x).2.2.2.2.2.1, fun x => (h2 x).2.2.2.2.2.2.1, fun x => (h2 x).2.2.2.2.2.2.2.1, fun x => (h2 x).2.2.2.2.2.2.2.2.1, fun x => (h2 x).2.2.2.2.2.2.2.2.2.1, fun x => (h2 x).2.2.2.2.2.2.2.2.2.2.1, fun x => (h2 x).2.2.2.2.2.2.2.2.2.2.2.1, fun x => (h2 x).2.2.2.2.2.2.2.2.2.2.2.2⟩
section
variable {P : Program} {ops : Array Oper} {a : Act} {o : Oper} {rest : List Oper} {Q : Exit → Act → World → Prop}
/-- append, and what it leaves alone: all old blocks but the slice's own. -/
theorem wpList_appK (w : World) (hgd : o.guard = none) (s x : Operand) (t tx e : TypeId) (ho : o.op = .call { callee := .builtin .append, args := #[s, x], argTypes := #[t, tx] })
    (base : Nat) (ht : P.underlying t = some (.slice e)) {z : Value} {size bytes : Nat} (hi : (P.info? e).map (fun i => (i.zero, i.size, i.bytes)) = some (some z, size, bytes)) (hzs : z.cells.size = size)
    (v : Value) (n : Nat) (xs : List Value) (hown : w.ownsRow base e size v n xs) (hs : a.eval s = v) (X : Value) (m : Nat) (news : List Value) (hsrc : Src P size tx X m news w) (hx : a.eval x = X)
    (h63 : n + m ≤ maxLen) (hbytes : (n + m) * bytes ≤ 140737488355328) (hbase : base ≤ w.heap.size)
    (h : ∀ v' w', w'.ownsRow base e size v' (n + m) (xs ++ news) → Below base w w' → (∀ k, k < w.heap.size → v.ownBlock ≠ some k → w'.heap[k]? = w.heap[k]?) → wpList P ops Q rest (a.put o.dst v') w') : wpList P ops Q (o :: rest) a w := by
  obtain ⟨i0, hi0, hz0, hz1, hz2⟩ := info_parts hi
  obtain ⟨v', w', hr, h2, h3, _⟩ := run_app w base t tx o.type e i0 z size bytes ht hi0 hz0 hz1 hz2 hzs v n xs hown X m news hsrc h63 hbytes hbase
  refine wpList_plain hgd fun K hK => ?_
  unfold Oper.wp execOp
  simp only [ho, resolve, invoke, builtin, Sem.run_bind, Sem.run_pure, Result.andThen_ok, List.map_toArray, List.map_cons, List.map_nil, hs, hx, hr]
  exact hK _ _ (h v' w' h2 ((Below.refl base w).grown h3 hbase (fun k hk => (World.ownsRow.lt hown k hk).1)) (fun k hk hne => h3.block k hk (fun e => hne e.symm)))
end
/-- Below G nothing turns, nor does block p. -/
def Keeps (G p : Nat) (a b : World) : Prop := Below G a b ∧ b.heap[p]? = a.heap[p]?
theorem Keeps.refl (G p : Nat) (a : World) : Keeps G p a a := ⟨Below.refl _ _, rfl⟩
theorem Keeps.trans {G p : Nat} {a b c : World} (h : Keeps G p a b) (k : Keeps G p b c) : Keeps G p a c := ⟨h.1.trans k.1, k.2.trans h.2⟩
theorem Keeps.of {G p : Nat} {a b : World} (h : Below a.heap.size a b) (hG : G ≤ a.heap.size) (hp : p < a.heap.size) : Keeps G p a b := ⟨h.mono hG, h.block p hp⟩
/-- What readers of a drawn region find in a block of a pin. -/
theorem pin_futs {F : World → World → Prop} (hr : ∀ w, F w w) {W : World} {g : Nat} {x y : Int} {z : ByteArray} {t : TypeId} {fr : Nat × Nat}
    (hF : ∀ w', F W w' → w'.heap[g]? = W.heap[g]?) (h : W.heap[g]? = some (.cells #[.int .i64 x, .int .i64 y, .string z] t fr)) :
    (∀ x', (fut F W x').cell? ⟨g, 0, none⟩ = some (.int .i64 x)) ∧ (∀ x', (fut F W x').cell? ⟨g, 1, none⟩ = some (.int .i64 y)) ∧ (∀ x', (fut F W x').cell? ⟨g, 2, none⟩ = some (.string z)) := by
  have h2 := fun x' => (hF _ (fut_ok hr W x')).trans h
  exact ⟨fun x' => by rw [cell_of_row _ _ _ _ _ _ (h2 x')]; rfl, fun x' => by rw [cell_of_row _ _ _ _ _ _ (h2 x')]; rfl, fun x' => by rw [cell_of_row _ _ _ _ _ _ (h2 x')]; rfl⟩
theorem own_bytes {w : World} {G : Nat} {v : Value} {us xs vs : List UInt8} {k : Nat} (hk : xs.length = k) (hv : vs = us ++ xs) (h : w.ownsRow G 5 1 v (us.length + k) (bytesV us ++ bytesV xs)) : BOwn w G v vs := by
  subst hk; subst hv
  unfold BOwn
  rw [bytesV_app, List.length_append]; exact h
theorem nums_row {w : World} (l : List Int) (cs : Array Value) (t : TypeId) (fr : Nat × Nat) (h : cs = (intsV l).toArray) (n : Nat) (hn : l.length = n) : IRow (w.alloc (.cells cs t fr)) (some ⟨w.heap.size, 0, none⟩) n n l := by
  subst h; subst hn
  exact Row.of_block (cs := (intsV l).toArray) (heap_alloc_new _ _) (by simp [intsV])
set_option maxRecDepth 100000 in
set_option maxHeartbeats 4000000 in
theorem bytes_own (s : Stm) (A : Option Addr) (n c : Nat) (B : Option Addr) (m k : Nat) (w : World) (hl : IRow w A n c s.list) (hp : PRow w B m k s.pins) (hs : Small s) :
    Calls Tryz.prog 130 #[stmV s A n c B m k] w (GivesO w (bodyB s)) := by
  have HL := Lib.hid hl; have HP := Lib.hid hp; have HN := Lib.hid hl.len; have HM := Lib.hid hp.len; have HSM := Lib.hid hs
  have hn : n ≤ 1000 := by rw [← hl.len]; exact hs.list
  have hm : m ≤ 1000 := by rw [← hp.len]; exact hs.pins
  clear hl hp hs
  obtain ⟨author, number, prev, time, kind, a, b, cc, list, pins, body, key, dig⟩ := s
  unfold stmV
  simp only at HL HP HN HM
  have hprev := HSM.out.prev; have hbody := HSM.out.body
  simp only at hprev hbody
  have HG : Hid (bodyB ⟨author, number, prev, time, kind, a, b, cc, list, pins, body, key, dig⟩ = listB [author, number] ++ textB prev.data.toList ++ listB [time, kind, a, b, cc] ++ intsB list ++ listB [(m : Int)] ++ pinsBs pins ++ textB body.data.toList) := by unfold Hid bodyB; rw [HM.out]
  generalize bodyB _ = R at HG ⊢
  obtain ⟨G, hG⟩ : ∃ G, G = w.heap.size + 1 := ⟨_, rfl⟩
  have HC0 : Hid ((w.alloc (.cells #[.int .i64 author, .int .i64 number, .string prev, .int .i64 time, .int .i64 kind, .int .i64 a, .int .i64 b, .int .i64 cc, .slice A n c, .slice B m k, .string body, .int .i64 key, .string dig] 30)).heap[w.heap.size]? = some (.cells #[.int .i64 author, .int .i64 number, .string prev, .int .i64 time, .int .i64 kind, .int .i64 a, .int .i64 b, .int .i64 cc, .slice A n c, .slice B m k, .string body, .int .i64 key, .string dig] 30 (0, 0))) := Lib.hid (heap_alloc_new _ _)
  have HB0 : Hid (Below w.heap.size w (w.alloc (.cells #[.int .i64 author, .int .i64 number, .string prev, .int .i64 time, .int .i64 kind, .int .i64 a, .int .i64 b, .int .i64 cc, .slice A n c, .slice B m k, .string body, .int .i64 key, .string dig] 30))) := Lib.hid (one_new _ _)
  have HS0 : Hid ((w.alloc (.cells #[.int .i64 author, .int .i64 number, .string prev, .int .i64 time, .int .i64 kind, .int .i64 a, .int .i64 b, .int .i64 cc, .slice A n c, .slice B m k, .string body, .int .i64 key, .string dig] 30)).heap.size = G) := by unfold Hid; rw [hG]; simp
  have HGG := Lib.hid hG; clear hG
  go_enter Tryz.func130, Tryz.ntmps130
  go_wp2_with fail
  refine wp_region_grow (by kernel_rfl) (Below G) (Below.refl G) (fun _ _ _ => Below.trans) [10] [([0, 1, 2, 3, 6, 7], 4), ([], 5), ([], 8), ([], 9)] (by kernel_rfl) (by kernel_rfl) (by kernel_rfl) ?_
  simp only [List.map_cons, List.map_nil, pick, List.getD_cons_zero, List.getD_cons_succ]
  have HB1 := Lib.hid (HB0.out.drew); have HC1 : Hid ((w.alloc (.cells #[.int .i64 author, .int .i64 number, .string prev, .int .i64 time, .int .i64 kind, .int .i64 a, .int .i64 b, .int .i64 cc, .slice A n c, .slice B m k, .string body, .int .i64 key, .string dig] 30)).drew.heap[w.heap.size]? = _) := HC0; have HS1 : Hid ((w.alloc (.cells #[.int .i64 author, .int .i64 number, .string prev, .int .i64 time, .int .i64 kind, .int .i64 a, .int .i64 b, .int .i64 cc, .slice A n c, .slice B m k, .string body, .int .i64 key, .string dig] 30)).drew.heap.size = G) := HS0
  clear HB0 HC0 HS0
  generalize (w.alloc (.cells #[.int .i64 author, .int .i64 number, .string prev, .int .i64 time, .int .i64 kind, .int .i64 a, .int .i64 b, .int .i64 cc, .slice A n c, .slice B m k, .string body, .int .i64 key, .string dig] 30)).drew = w1 at HB1 HC1 HS1 ⊢
  obtain ⟨hf0, hf1, hf2, hf3, hf4, hf5, hf6, hf7, hf8, hf9, hf10, hf11, hf12⟩ := stm_futs (F := Below G) (Below.refl G) (s := ⟨author, number, prev, time, kind, a, b, cc, list, pins, body, key, dig⟩) (fun w' h => h.block _ (by rw [HGG.out]; omega)) HC1.out
  refine wpGrow_cons ?_
  repeat (go_big_quiet_step (fail))
  refine wpQuiet_nil ?_
  clear hf0 hf1 hf2 hf3 hf4 hf5 hf6 hf7 hf8 hf9 hf10 hf11 hf12
  go_wp2_with fail
  refine pieceEnd_normal ⟨(one_new _ _).mono (by rw [HS1.out]; exact Nat.le_refl _), ?_⟩
  have HR2 := Lib.hid (nums_row (w := w1) [author, number] #[.int .i64 author, .int .i64 number] 3 (0, 0) rfl 2 rfl)
  have HW2 : Hid (Below G w1 (w1.alloc (.cells #[.int .i64 author, .int .i64 number] 3))) := Lib.hid ((one_new _ _).mono (by rw [HS1.out]; exact Nat.le_refl _))
  have hsz2 : G ≤ (w1.alloc (.cells #[.int .i64 author, .int .i64 number] 3)).heap.size := by have := HW2.out.size; rw [HS1.out] at this; exact this
  have HS2 := Lib.hid hsz2; clear hsz2
  generalize w1.alloc (.cells #[.int .i64 author, .int .i64 number] 3) = w2 at HR2 HW2 HS2 ⊢
  rw [HS1.out] at HR2 ⊢
  refine wpGrow_cons ?_
  refine wpQuiet_nil ?_
  go_wp2_with fail
  refine (numbers_any _ 2 2 [author, number] w2 HR2.out (by omega)).mono ?_
  rintro e w3 ⟨v3, rfl, ho, hb⟩
  have HO3 := Lib.hid (ho.from HS2.out); have HW3 := Lib.hid (HW2.out.trans (hb.mono HS2.out)); have HS3 := Lib.hid (Nat.le_trans HS2.out hb.size); have HF := Lib.hid (hb.mono HS2.out)
  clear ho hb HR2 HW2
  go_wp2_with fail
  refine pieceEnd_normal ⟨HF.out, ?_⟩
  clear HF HS2
  refine wpGrow_cons ?_
  refine wpQuiet_nil ?_
  go_wp2_with fail
  refine (wireText_own none 0 0 [] prev w3 (Row.nilRow _ _) (by omega) (by omega)).mono ?_
  rintro e w4 ⟨v4, rfl, ho, hb⟩
  rw [List.nil_append] at ho
  have HO4 := Lib.hid (HO3.out.later hb); have HX4 := Lib.hid ho; have HW4 := Lib.hid (HW3.out.trans (hb.mono HS3.out)); have HS4 := Lib.hid (Nat.le_trans HS3.out hb.size); have HF := Lib.hid (hb.mono HS3.out)
  clear ho hb HO3 HW3
  obtain ⟨A4, c4, hv4, hr4⟩ := HX4.out.row
  have HR4 := Lib.hid hr4
  subst hv4; clear hr4 HX4
  go_wp2_with fail
  refine pieceEnd_normal ⟨HF.out, ?_⟩
  clear HF HS3
  refine wpGrow_cons ?_
  refine wpQuiet_nil ?_
  have HLN : Hid ((listB [author, number]).length = 16) := by unfold Hid; rw [listB_len]; rfl
  have HLT : Hid ((textB prev.data.toList).length = 8 + prev.size) := Lib.hid (textS_len prev)
  rw [HLT.out] at HR4 ⊢
  go_wp2_with (at_builtin; go_must (refine wpList_app w4 rfl (.tmp 11) (.tmp 14) 85 85 5 rfl G Tryz.underlying85 u8_info rfl v3 _ _ HO4.out rfl _ (8 + prev.size) (bytesV (textB prev.data.toList)) (Row.src HR4.out Tryz.underlying85 (bytesV_one _)) rfl (by rw [HLN.out]; unfold maxLen; omega) (by rw [HLN.out]; omega) HS4.out ?_); intro v5 w5 ho5 hb5; have HO5 := Lib.hid ho5; have HW5 := Lib.hid (HW4.out.trans hb5); have HF := Lib.hid hb5; clear ho5 hb5)
  go_wp2_with fail
  refine pieceEnd_normal ⟨HF.out, ?_⟩
  clear HF HO4 HR4 HW4
  refine wpGrow_nil ?_
  repeat (go_big_quiet_step (fail))
  refine wpQuiet_nil ?_
  have HP1 : Hid (BOwn w5 G v5 (listB [author, number] ++ textB prev.data.toList)) := by
    have h := HO5.out
    unfold Hid BOwn
    rw [bytesV_app, List.length_append, HLT.out]; exact h
  have HS5 := Lib.hid (Nat.le_trans HS4.out (Nat.le_of_eq rfl)); clear HO5 HS4
  have HZ5 : Hid (G ≤ w5.heap.size) := Lib.hid (by have := HW5.out.size; rw [HS1.out] at this; exact this)
  clear HS5
  have HC5 : Hid (w5.heap[w.heap.size]? = w1.heap[w.heap.size]?) := Lib.hid (HW5.out.block _ (by rw [HGG.out]; omega))
  obtain ⟨hc0, hc1, hc2, hc3, hc4, hc5, hc6, hc7, hc8, hc9, hc10, hc11, hc12⟩ := stm_cells (s := ⟨author, number, prev, time, kind, a, b, cc, list, pins, body, key, dig⟩) (HC5.out.trans HC1.out)
  obtain ⟨U1, hU1⟩ : ∃ U, U = listB [author, number] ++ textB prev.data.toList := ⟨_, rfl⟩
  have HU1 : Hid (U1.length = 24 + prev.size) := by unfold Hid; rw [hU1, List.length_append, HLN.out, HLT.out]; omega
  have HG1 : Hid (R = U1 ++ listB [time, kind, a, b, cc] ++ intsB list ++ listB [(m : Int)] ++ pinsBs pins ++ textB body.data.toList) := by unfold Hid; rw [HG.out, hU1]
  rw [← hU1] at HP1
  clear hU1 HG HLN HLT
  go_wp2_with fail
  refine (numbers_any _ 5 5 [time, kind, a, b, cc] _ (nums_row (w := w5) [time, kind, a, b, cc] #[.int .i64 time, .int .i64 kind, .int .i64 a, .int .i64 b, .int .i64 cc] 3 (0, 0) rfl 5 rfl) (by omega)).mono ?_
  rintro e w5b ⟨x5, rfl, ho, hb⟩
  have hbb : Below w5.heap.size w5 w5b := (one_new _ _).trans (hb.mono (by simp))
  have HOb := Lib.hid (HP1.out.later hbb); have HWb := Lib.hid (HW5.out.trans (hbb.mono HZ5.out)); have HZb : Hid (G ≤ w5b.heap.size) := Lib.hid (Nat.le_trans HZ5.out hbb.size)
  obtain ⟨A5, c5, hv, hr⟩ := ho.row
  have HRb := Lib.hid hr; subst hv; clear hr ho hb hbb
  have HLX : Hid ((listB [time, kind, a, b, cc]).length = 40) := by unfold Hid; rw [listB_len]; rfl
  rw [HLX.out] at HRb ⊢
  obtain ⟨U2, hU⟩ : ∃ U, U = U1 ++ listB [time, kind, a, b, cc] := ⟨_, rfl⟩
  have HQ2 := Lib.hid hU; clear hU
  clear HP1 HC5 hc0 hc1 hc2 hc3 hc4 hc5 hc6 hc7 hc8 hc9 hc10 hc11 hc12
  go_wp2_with (at_builtin; go_must (refine wpList_app w5b rfl (.tmp 16) (.tmp 28) 85 85 5 rfl G Tryz.underlying85 u8_info rfl v5 _ _ HOb.out rfl _ (40) (bytesV (listB [time, kind, a, b, cc])) (Row.src HRb.out Tryz.underlying85 (bytesV_one _)) rfl (by rw [HU1.out]; unfold maxLen; omega) (by rw [HU1.out]; omega) HZb.out ?_); intro v6 w6 ho5 hb5; have HW6 := Lib.hid (HWb.out.trans hb5); have HP2 := Lib.hid (own_bytes HLX.out HQ2.out ho5); have HZ6 : Hid (G ≤ w6.heap.size) := Lib.hid (by have := HW6.out.size; rw [HS1.out] at this; exact this); have HC6 : Hid (w6.heap[w.heap.size]? = w1.heap[w.heap.size]?) := Lib.hid (HW6.out.block _ (by rw [HGG.out]; omega)); obtain ⟨hc0, hc1, hc2, hc3, hc4, hc5, hc6, hc7, hc8, hc9, hc10, hc11, hc12⟩ := stm_cells (s := ⟨author, number, prev, time, kind, a, b, cc, list, pins, body, key, dig⟩) (HC6.out.trans HC1.out); clear ho5 hb5 HOb HWb HZb HRb)
  have HU2 : Hid (U2.length = 24 + prev.size + 40) := by unfold Hid; rw [HQ2.out, List.length_append, HLX.out, HU1.out]
  clear HLX HU1
  refine (wireInts_own none 0 0 [] A n c list w6 (Row.nilRow _ _) (HL.out.later (HB1.out.trans (HW6.out.mono (by rw [HGG.out]; omega)))) (by omega) (by omega)).mono ?_
  rintro e w6b ⟨x6, rfl, ho, hb⟩
  have hbb : Below w6.heap.size w6 w6b := hb
  have HOb := Lib.hid (HP2.out.later hbb); have HWb := Lib.hid (HW6.out.trans (hbb.mono HZ6.out)); have HZb : Hid (G ≤ w6b.heap.size) := Lib.hid (Nat.le_trans HZ6.out hbb.size)
  obtain ⟨A6, c6, hv, hr⟩ := ho.row
  have HRb := Lib.hid hr; subst hv; clear hr ho hb hbb
  have HLX : Hid ((intsB list).length = 8 + 8 * n) := by unfold Hid; rw [intsB_len, HN.out]
  rw [List.nil_append] at HRb ⊢
  rw [HLX.out] at HRb ⊢
  obtain ⟨U3, hU⟩ : ∃ U, U = U2 ++ intsB list := ⟨_, rfl⟩
  have HQ3 := Lib.hid hU; clear hU
  clear HP2 HC6 hc0 hc1 hc2 hc3 hc4 hc5 hc6 hc7 hc8 hc9 hc10 hc11 hc12
  go_wp2_with (at_builtin; go_must (refine wpList_app w6b rfl (.tmp 30) (.tmp 33) 85 85 5 rfl G Tryz.underlying85 u8_info rfl v6 _ _ HOb.out rfl _ (8 + 8 * n) (bytesV (intsB list)) (Row.src HRb.out Tryz.underlying85 (bytesV_one _)) rfl (by rw [HU2.out]; unfold maxLen; omega) (by rw [HU2.out]; omega) HZb.out ?_); intro v7 w7 ho5 hb5; have HW7 := Lib.hid (HWb.out.trans hb5); have HP3 := Lib.hid (own_bytes HLX.out HQ3.out ho5); have HZ7 : Hid (G ≤ w7.heap.size) := Lib.hid (by have := HW7.out.size; rw [HS1.out] at this; exact this); have HC7 : Hid (w7.heap[w.heap.size]? = w1.heap[w.heap.size]?) := Lib.hid (HW7.out.block _ (by rw [HGG.out]; omega)); obtain ⟨hc0, hc1, hc2, hc3, hc4, hc5, hc6, hc7, hc8, hc9, hc10, hc11, hc12⟩ := stm_cells (s := ⟨author, number, prev, time, kind, a, b, cc, list, pins, body, key, dig⟩) (HC7.out.trans HC1.out); clear ho5 hb5 HOb HWb HZb HRb)
  have HU3 : Hid (U3.length = 24 + prev.size + 40 + (8 + 8 * n)) := by unfold Hid; rw [HQ3.out, List.length_append, HLX.out, HU2.out]
  clear HLX HU2
  refine (numbers_any _ 1 1 [(m : Int)] _ (nums_row (w := w7) [(m : Int)] #[.int .i64 (m : Int)] 3 (0, 0) rfl 1 rfl) (by omega)).mono ?_
  rintro e w7b ⟨x7, rfl, ho, hb⟩
  have hbb : Below w7.heap.size w7 w7b := (one_new _ _).trans (hb.mono (by simp))
  have HOb := Lib.hid (HP3.out.later hbb); have HWb := Lib.hid (HW7.out.trans (hbb.mono HZ7.out)); have HZb : Hid (G ≤ w7b.heap.size) := Lib.hid (Nat.le_trans HZ7.out hbb.size)
  obtain ⟨A7, c7, hv, hr⟩ := ho.row
  have HRb := Lib.hid hr; subst hv; clear hr ho hb hbb
  have HLX : Hid ((listB [(m : Int)]).length = 8) := by unfold Hid; rw [listB_len]; rfl
  rw [HLX.out] at HRb ⊢
  obtain ⟨U4, hU⟩ : ∃ U, U = U3 ++ listB [(m : Int)] := ⟨_, rfl⟩
  have HQ4 := Lib.hid hU; clear hU
  clear HP3 HC7 hc0 hc1 hc2 hc3 hc4 hc5 hc6 hc7 hc8 hc9 hc10 hc11 hc12
  go_wp2_with (at_builtin; go_must (refine wpList_app w7b rfl (.tmp 35) (.tmp 40) 85 85 5 rfl G Tryz.underlying85 u8_info rfl v7 _ _ HOb.out rfl _ (8) (bytesV (listB [(m : Int)])) (Row.src HRb.out Tryz.underlying85 (bytesV_one _)) rfl (by rw [HU3.out]; unfold maxLen; omega) (by rw [HU3.out]; omega) HZb.out ?_); intro v8 w8 ho5 hb5; have HW8 := Lib.hid (HWb.out.trans hb5); have HP4 := Lib.hid (own_bytes HLX.out HQ4.out ho5); have HZ8 : Hid (G ≤ w8.heap.size) := Lib.hid (by have := HW8.out.size; rw [HS1.out] at this; exact this); have HC8 : Hid (w8.heap[w.heap.size]? = w1.heap[w.heap.size]?) := Lib.hid (HW8.out.block _ (by rw [HGG.out]; omega)); obtain ⟨hc0, hc1, hc2, hc3, hc4, hc5, hc6, hc7, hc8, hc9, hc10, hc11, hc12⟩ := stm_cells (s := ⟨author, number, prev, time, kind, a, b, cc, list, pins, body, key, dig⟩) (HC8.out.trans HC1.out); clear ho5 hb5 HOb HWb HZb HRb)
  have HU4 : Hid (U4.length = 24 + prev.size + 40 + (8 + 8 * n) + 8) := by unfold Hid; rw [HQ4.out, List.length_append, HLX.out, HU3.out]
  clear HLX HU3
  have HG2 : Hid (R = U4 ++ pinsBs pins ++ textB body.data.toList) := by unfold Hid; rw [HG1.out, HQ4.out, HQ3.out, HQ2.out]
  clear HG1 HQ4 HQ3 HQ2
  have HZ := Lib.hid (And.intro HP4.out HW8.out)
  clear HP4 HW8 HZ8 HC8 hc0 hc1 hc2 hc3 hc4 hc5 hc6 hc7 hc8 hc9 hc10 hc11 hc12 HW5 HZ5 HW6 HZ6 HW7 HZ7
  go_loopw [3, 45] (fun v i wr => ∃ j : Nat, j ≤ m ∧ i = .int .i64 j ∧ Hid (BOwn wr G v (U4 ++ pinsBs (pins.take j)) ∧ Below G w1 wr)) (fun _ i _ => m - (intOf i).toNat)
  case atStart => exact ⟨0, Nat.zero_le _, rfl, Lib.hid ⟨by have := HZ.out.1; simpa [pinsBs] using this, HZ.out.2⟩⟩
  case round =>
    clear HZ
    obtain ⟨j, hj, rfl, HQ⟩ := hrel
    have HGw : Hid (G ≤ wr.heap.size) := Lib.hid (by have := HQ.out.2.size; rw [HS1.out] at this; exact this)
    by_cases hlt : j < m
    · obtain ⟨pb, off, hA, hc0, hc1, hc2⟩ := (HP.out.later (HB1.out.trans (HQ.out.2.mono (by rw [HGG.out]; omega)))).cells j hlt
      subst hA
      have HDS : Hid ((pins.getD j noPin).digest.size ≤ 1500000) := Lib.hid (pin_small HSM.out j (by show j < pins.length; rw [HM.out]; exact hlt))
      have HTJ : Hid (pinsBs (pins.take (j + 1)) = pinsBs (pins.take j) ++ (listB [(pins.getD j noPin).author, (pins.getD j noPin).height] ++ textB (pins.getD j noPin).digest.data.toList)) := by
        unfold Hid; rw [take_snoc' pins j noPin (by rw [HM.out]; exact hlt), pinsBs_snoc]; rfl
      have HTL : Hid ((pinsBs (pins.take j)).length ≤ 1500000) := Lib.hid (take_pins HSM.out j)
      generalize pins.getD j noPin = q at hc0 hc1 hc2 HDS HTJ
      obtain ⟨q1, q2, q3⟩ := q
      simp only at hc0 hc1 hc2 HDS HTJ
      have hq3 := HDS.out
      obtain ⟨v0, hv0⟩ : ∃ v, v = u3 := ⟨_, rfl⟩
      go_wp2_with fail
      clear hc0 hc1 hc2
      obtain ⟨p, hp⟩ : ∃ p, p = wr.heap.size := ⟨_, rfl⟩
      have HOW := Lib.hid (HQ.out.1.later (one_new wr (.cells #[.int .i64 q1, .int .i64 q2, .string q3] 57))); have HW2 := Lib.hid (HQ.out.2.trans ((one_new wr (.cells #[.int .i64 q1, .int .i64 q2, .string q3] 57)).mono HGw.out)); have HPC : Hid ((wr.alloc (.cells #[.int .i64 q1, .int .i64 q2, .string q3] 57)).heap[wr.heap.size]? = _) := Lib.hid (heap_alloc_new wr (.cells #[.int .i64 q1, .int .i64 q2, .string q3] 57))
      have HSZ : Hid ((wr.alloc (.cells #[.int .i64 q1, .int .i64 q2, .string q3] 57)).heap.size = p + 1) := by unfold Hid; rw [hp]; simp
      have HPG : Hid (G ≤ p) := by unfold Hid; rw [hp]; exact HGw.out
      have HNE : Hid (∀ k, Value.ownBlock u3 = some k → k < p) := Lib.hid fun k hk => by rw [hp]; exact (World.ownsRow.lt HQ.out.1 k hk).2
      rw [← hp] at HPC ⊢
      clear HQ HGw hp
      refine wp_region_grow (by kernel_rfl) (Keeps G p) (Keeps.refl G p) (fun _ _ _ => Keeps.trans) [11] [([0, 1, 2, 3, 4, 7, 8], 5), ([], 6), ([], 9), ([], 10)] (by kernel_rfl) (by kernel_rfl) (by kernel_rfl) ?_
      simp only [List.map_cons, List.map_nil, pick, List.getD_cons_zero, List.getD_cons_succ]
      have HOW1 : Hid (BOwn (wr.alloc (.cells #[.int .i64 q1, .int .i64 q2, .string q3] 57)).drew G u3 (U4 ++ pinsBs (pins.take j))) := HOW; have HW3 : Hid (Below G w1 (wr.alloc (.cells #[.int .i64 q1, .int .i64 q2, .string q3] 57)).drew) := Lib.hid HW2.out.drew; have HPC1 : Hid ((wr.alloc (.cells #[.int .i64 q1, .int .i64 q2, .string q3] 57)).drew.heap[p]? = _) := HPC; have HSZ1 : Hid ((wr.alloc (.cells #[.int .i64 q1, .int .i64 q2, .string q3] 57)).drew.heap.size = p + 1) := HSZ
      clear HOW HW2 HPC HSZ
      generalize (wr.alloc (.cells #[.int .i64 q1, .int .i64 q2, .string q3] 57)).drew = y1 at HOW1 HW3 HPC1 HSZ1 ⊢
      obtain ⟨hf0, hf1, hf2⟩ := pin_futs (F := Keeps G p) (Keeps.refl G p) (fun w' h => h.2) HPC1.out
      refine wpGrow_cons ?_
      repeat (go_big_quiet_step (fail))
      refine wpQuiet_nil ?_
      clear hf0 hf1 hf2
      go_wp2_with fail
      have hk : Below y1.heap.size y1 (y1.alloc (.cells #[.int .i64 q1, .int .i64 q2] 3)) := one_new _ _
      refine pieceEnd_normal ⟨Keeps.of hk (by rw [HSZ1.out]; have := HPG.out; omega) (by rw [HSZ1.out]; omega), ?_⟩
      have HR2 := Lib.hid (nums_row (w := y1) [q1, q2] #[.int .i64 q1, .int .i64 q2] 3 (0, 0) rfl 2 rfl)
      have HO2 := Lib.hid (HOW1.out.later hk); have HW4 := Lib.hid (HW3.out.trans (hk.mono (by rw [HSZ1.out]; have := HPG.out; omega))); have HSZ2 : Hid (p < (y1.alloc (.cells #[.int .i64 q1, .int .i64 q2] 3)).heap.size) := Lib.hid (by have := hk.size; rw [HSZ1.out] at this; omega)
      clear hk HOW1 HW3 HPC1
      generalize y1.alloc (.cells #[.int .i64 q1, .int .i64 q2] 3) = y2 at HR2 HO2 HW4 HSZ2 ⊢
      rw [HSZ1.out] at HR2 ⊢
      refine wpGrow_cons ?_
      refine wpQuiet_nil ?_
      go_wp2_with fail
      refine (numbers_any _ 2 2 [q1, q2] y2 HR2.out (by omega)).mono ?_
      rintro e y3 ⟨x3, rfl, ho, hb⟩
      have HF : Hid (Keeps G p y2 y3) := Lib.hid (Keeps.of hb (by have := HPG.out; have := HSZ2.out; omega) HSZ2.out)
      have HO3 := Lib.hid (HO2.out.later hb); have HW5 := Lib.hid (HW4.out.trans (hb.mono (by have := HPG.out; have := HSZ2.out; omega))); have HSZ3 : Hid (p < y3.heap.size) := Lib.hid (Nat.lt_of_lt_of_le HSZ2.out hb.size)
      obtain ⟨A3, c3, hv, hr⟩ := ho.row
      have HR3 := Lib.hid hr; subst hv; clear hr ho hb HR2 HO2 HW4
      have HL2 : Hid ((listB [q1, q2]).length = 16) := by unfold Hid; rw [listB_len]; rfl
      rw [HL2.out] at HR3 ⊢
      go_wp2_with fail
      refine pieceEnd_normal ⟨HF.out, ?_⟩
      clear HF HSZ2
      refine wpGrow_cons ?_
      refine wpQuiet_nil ?_
      go_wp2_with fail
      refine (wireText_own A3 16 c3 _ q3 y3 HR3.out (by omega) (by omega)).mono ?_
      rintro e y4 ⟨x4, rfl, ho, hb⟩
      have HF : Hid (Keeps G p y3 y4) := Lib.hid (Keeps.of hb (by have := HPG.out; have := HSZ3.out; omega) HSZ3.out)
      have HO4 := Lib.hid (HO3.out.later hb); have HW6 := Lib.hid (HW5.out.trans (hb.mono (by have := HPG.out; have := HSZ3.out; omega))); have HSZ4 : Hid (p < y4.heap.size) := Lib.hid (Nat.lt_of_lt_of_le HSZ3.out hb.size)
      obtain ⟨A4', c4', hv, hr⟩ := ho.row
      have HR4 := Lib.hid hr; subst hv; clear hr ho hb HR3 HO3 HW5
      have HL4 : Hid ((listB [q1, q2] ++ textB q3.data.toList).length = 16 + (8 + q3.size)) := by unfold Hid; rw [List.length_append, HL2.out, textS_len]
      rw [HL4.out] at HR4 ⊢
      go_wp2_with fail
      refine pieceEnd_normal ⟨HF.out, ?_⟩
      clear HF HSZ3
      refine wpGrow_cons ?_
      refine wpQuiet_nil ?_
      have HLU : Hid ((U4 ++ pinsBs (pins.take j)).length ≤ 1700000) := by unfold Hid; rw [List.length_append, HU4.out]; have := HTL.out; omega
      go_wp2_with (at_builtin; go_must (refine wpList_appK y4 rfl (.tmp 49) (.tmp 58) 85 85 5 rfl G Tryz.underlying85 u8_info rfl u3 _ _ HO4.out rfl _ (16 + (8 + q3.size)) (bytesV (listB [q1, q2] ++ textB q3.data.toList)) (Row.src HR4.out Tryz.underlying85 (bytesV_one _)) rfl (by have := HLU.out; unfold maxLen; omega) (by have := HLU.out; omega) (by have := HPG.out; have := HSZ4.out; omega) ?_); intro x5 y5 ho5 hb5 hk5; have HF : Hid (Keeps G p y4 y5) := Lib.hid ⟨hb5, hk5 p HSZ4.out (fun hh => Nat.lt_irrefl _ (HNE.out p hh))⟩; have HW7 := Lib.hid (HW6.out.trans hb5); have HO5 : Hid (BOwn y5 G x5 (U4 ++ pinsBs (pins.take (j + 1)))) := Lib.hid (own_bytes HL4.out (by rw [HTJ.out, List.append_assoc]) ho5); clear ho5 hb5 hk5)
      go_wp2_with fail
      refine pieceEnd_normal ⟨HF.out, ?_⟩
      refine wpGrow_nil ?_
      repeat (go_big_quiet_step (fail))
      refine wpQuiet_nil ?_
      go_wp2
      exact ⟨⟨j + 1, hlt, by go_num, Lib.hid ⟨HO5.out, HW7.out⟩⟩, by simp [intOf]; omega⟩
    · have HE : Hid (j = m) := by unfold Hid; omega
      have HT : Hid (pins.take j = pins) := by unfold Hid; rw [HE.out, ← HM.out, List.take_length]
      have HO8 : Hid (BOwn wr G u3 (U4 ++ pinsBs pins)) := Lib.hid (by have := HQ.out.1; rw [HT.out] at this; exact this)
      have HW8 := Lib.hid HQ.out.2
      have HLU : Hid ((U4 ++ pinsBs pins).length ≤ 1700000) := by unfold Hid; rw [List.length_append, HU4.out]; have := HSM.out.all; simp only at this; omega
      clear HQ HT
      have HC8 : Hid (wr.heap[w.heap.size]? = w1.heap[w.heap.size]?) := Lib.hid (HW8.out.block _ (by rw [HGG.out]; omega))
      obtain ⟨hc0, hc1, hc2, hc3, hc4, hc5, hc6, hc7, hc8, hc9, hc10, hc11, hc12⟩ := stm_cells (s := ⟨author, number, prev, time, kind, a, b, cc, list, pins, body, key, dig⟩) (HC8.out.trans HC1.out)
      go_wp2_with fail
      refine (wireText_own none 0 0 [] body wr (Row.nilRow _ _) (by omega) (by omega)).mono ?_
      rintro e w9 ⟨x9, rfl, ho, hb⟩
      rw [List.nil_append] at ho
      have HO9 := Lib.hid (HO8.out.later hb); have HW9 := Lib.hid (HW8.out.trans (hb.mono HGw.out)); have HZ9 : Hid (G ≤ w9.heap.size) := Lib.hid (Nat.le_trans HGw.out hb.size)
      obtain ⟨A9, c9, hv, hr⟩ := ho.row
      have HR9 := Lib.hid hr; subst hv; clear hr ho hb HO8 HC8 hc0 hc1 hc2 hc3 hc4 hc5 hc6 hc7 hc8 hc9 hc10 hc11 hc12
      have HL9 : Hid ((textB body.data.toList).length = 8 + body.size) := Lib.hid (textS_len body)
      rw [HL9.out] at HR9 ⊢
      go_wp2_with (at_builtin; go_must (refine wpList_app w9 rfl (.tmp 61) (.tmp 64) 85 85 5 rfl G Tryz.underlying85 u8_info rfl u3 _ _ HO9.out rfl _ (8 + body.size) (bytesV (textB body.data.toList)) (Row.src HR9.out Tryz.underlying85 (bytesV_one _)) rfl (by have := HLU.out; unfold maxLen; omega) (by have := HLU.out; omega) HZ9.out ?_); intro x10 w10 ho5 hb5; have HW10 := Lib.hid (HW9.out.trans hb5); have HO10 : Hid (BOwn w10 G x10 R) := Lib.hid (own_bytes HL9.out HG2.out ho5); clear ho5 hb5)
      go_ret
      exact ⟨_, rfl, HO10.out.from (by rw [HGG.out]; omega), HB1.out.trans (HW10.out.mono (by rw [HGG.out]; omega))⟩
end Go.Proofs.YtnjilfdmplbalaaGreatDoor
