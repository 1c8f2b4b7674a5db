/- Bytes, strings and numbers of 8 bytes as the walk spells them: plain facts, no program. -/
import Derived.WalkKit
import Derived.Laws.BitsAllLaws
import Derived.Lib.SlBytesRow
import Derived.WalkSpells
namespace Go.Proofs.YtnjilfdmplbalaaGreatDoor
open Go.RowKit
/-- A byte, as the integer that the model holds. -/
def w8 (x : UInt8) : Int := (x.toNat : Int)
theorem w8_lt (x : UInt8) : x.toNat < 256 := x.toNat_lt
theorem w8_bd (x : UInt8) : 0 ≤ w8 x ∧ w8 x ≤ 255 := by
  unfold w8; have := w8_lt x; omega
/-- A byte as a cell. -/
def bv (x : UInt8) : Value := .int .u8 (w8 x)
def bytesV (l : List UInt8) : List Value := l.map bv
theorem bytesV_len (l : List UInt8) : (bytesV l).length = l.length := by simp [bytesV]
theorem bytesV_app (l m : List UInt8) : bytesV (l ++ m) = bytesV l ++ bytesV m := by simp [bytesV]
theorem bytesV_one (l : List UInt8) : ∀ u ∈ bytesV l, u.oneCell' = true := by
  intro u hu; simp only [bytesV, List.mem_map] at hu; obtain ⟨x, _, rfl⟩ := hu; rfl
theorem bytesV_get (l : List UInt8) (i : Nat) (h : i < l.length) : (bytesV l)[i]? = some (bv (l.getD i 0)) := by simp [bytesV, h]
theorem bytesV_drop (l : List UInt8) (k : Nat) : (bytesV l).drop k = bytesV (l.drop k) := by simp [bytesV]
theorem bytesV_take (l : List UInt8) (k : Nat) : (bytesV l).take k = bytesV (l.take k) := by simp [bytesV]
/-- A list of bytes as a string. -/
def strOf (l : List UInt8) : ByteArray := ⟨l.toArray⟩
theorem strOf_size (l : List UInt8) : (strOf l).size = l.length := by simp [strOf, ByteArray.size]
theorem strOf_data (s : ByteArray) : strOf s.data.toList = s := rfl
theorem strOf_list (l : List UInt8) : (strOf l).data.toList = l := rfl
theorem strOf_inj {l m : List UInt8} (h : strOf l = strOf m) : l = m := by
  have := congrArg (fun s : ByteArray => s.data.toList) h; exact this
/-- An integer as a cell. -/
def iv (x : Int) : Value := .int .i64 x
def intsV (l : List Int) : List Value := l.map iv
theorem intsV_len (l : List Int) : (intsV l).length = l.length := by simp [intsV]
theorem intsV_app (l m : List Int) : intsV (l ++ m) = intsV l ++ intsV m := by simp [intsV]
theorem intsV_one (l : List Int) : ∀ u ∈ intsV l, u.oneCell' = true := by
  intro u hu; simp only [intsV, List.mem_map] at hu; obtain ⟨x, _, rfl⟩ := hu; rfl
theorem intsV_get (l : List Int) (i : Nat) (h : i < l.length) : (intsV l)[i]? = some (iv (l.getD i 0)) := by simp [intsV, h]
/-- Byte k of a number of 8 bytes in two's complement, the most significant first. -/
def be8At (v : Int) (k : Nat) : UInt8 := UInt8.ofNat (v / 2 ^ (56 - 8 * k) % 256).toNat
def be8To (v : Int) (k : Nat) : List UInt8 := (List.range k).map (be8At v)
def be8 (v : Int) : List UInt8 := be8To v 8
theorem be8To_succ (v : Int) (k : Nat) : be8To v (k + 1) = be8To v k ++ [be8At v k] := by simp [be8To, List.range_succ]
theorem be8To_len (v : Int) (k : Nat) : (be8To v k).length = k := by simp [be8To]
theorem be8_len (v : Int) : (be8 v).length = 8 := be8To_len v 8
theorem be8At_eq (v : Int) (k : Nat) : v / 2 ^ (56 - 8 * k) % 256 = w8 (be8At v k) := by
  unfold be8At w8
  generalize v / 2 ^ (56 - 8 * k) = x
  rw [UInt8.toNat_ofNat']; omega
/-- The number that bytes are, the most significant first. -/
def numB (l : List UInt8) : Nat := l.foldl (fun n x => n * 256 + x.toNat) 0
theorem numB_snoc (l : List UInt8) (x : UInt8) : numB (l ++ [x]) = numB l * 256 + x.toNat := by simp [numB]
theorem numB_nil : numB [] = 0 := rfl
theorem numB_lt : ∀ (k : Nat) (l : List UInt8), l.length = k → numB l < 256 ^ k := by
  intro k
  induction k with
  | zero => intro l h; have : l = [] := List.eq_nil_of_length_eq_zero h; subst this; simp [numB]
  | succ k ih =>
    intro l h
    have hne : l ≠ [] := by intro e; subst e; simp at h
    have hl := List.dropLast_concat_getLast hne
    rw [← hl, numB_snoc, Nat.pow_succ]
    have h1 := ih l.dropLast (by simp [h])
    have h2 := w8_lt (l.getLast hne)
    omega
theorem be8At_nat (v : Int) (k : Nat) : ((be8At v k).toNat : Int) = v / 2 ^ (56 - 8 * k) % 256 := (be8At_eq v k).symm
theorem numB_be8 (v : Int) : (numB (be8 v) : Int) = v % 18446744073709551616 := by
  have h0 := be8At_nat v 0
  have h1 := be8At_nat v 1
  have h2 := be8At_nat v 2
  have h3 := be8At_nat v 3
  have h4 := be8At_nat v 4
  have h5 := be8At_nat v 5
  have h6 := be8At_nat v 6
  have h7 := be8At_nat v 7
  simp only [Nat.reduceMul, Nat.reduceSub, Int.reducePow] at h0 h1 h2 h3 h4 h5 h6 h7
  simp only [be8, be8To, List.range_succ, List.range_zero, List.nil_append, List.map_cons, List.map_nil, List.cons_append, numB, List.foldl_cons, List.foldl_nil]
  omega
/-- The int of 8 bytes. -/
def int8 (l : List UInt8) : Int := wrap64 (numB l)
theorem int8_be8 (v : Int) (h1 : -9223372036854775808 ≤ v) (h2 : v ≤ 9223372036854775807) : int8 (be8 v) = v := by
  unfold int8 wrap64; rw [numB_be8]; omega
theorem int8_bd (l : List UInt8) : -9223372036854775808 ≤ int8 l ∧ int8 l ≤ 9223372036854775807 := by
  unfold int8 wrap64; omega
theorem be8_inj (v w : Int) (h1 : -9223372036854775808 ≤ v) (h2 : v ≤ 9223372036854775807) (h3 : -9223372036854775808 ≤ w) (h4 : w ≤ 9223372036854775807) (h : be8 v = be8 w) : v = w := by
  rw [← int8_be8 v h1 h2, ← int8_be8 w h3 h4, h]
end Go.Proofs.YtnjilfdmplbalaaGreatDoor
