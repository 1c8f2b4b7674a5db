/- Words of 32 bits and bytes as the walk spells them: plain facts, no program. -/
import Derived.Test.YtnjilfdmplbalaaGreatDoorByte
import Derived.WalkKit
import Derived.Laws.BitsAllLaws
namespace Go.Proofs.YtnjilfdmplbalaaGreatDoor

/-- A word of 32 bits, as the integer that the model holds. -/
def w32 (x : UInt32) : Int := (x.toNat : Int)
def ushr (x : UInt32) (n : Nat) : UInt32 := UInt32.ofNat (x.toNat / 2 ^ n)
def ushl (x : UInt32) (n : Nat) : UInt32 := UInt32.ofNat (x.toNat * 2 ^ n)
def rotr (x : UInt32) (n : Nat) : UInt32 := ushl x (32 - n) ||| ushr x n

theorem w32_lt (x : UInt32) : x.toNat < 4294967296 := x.toNat_lt
theorem w32_of (n : Nat) (h : n < 4294967296) : w32 (UInt32.ofNat n) = (n : Int) := by
  unfold w32; rw [UInt32.toNat_ofNat_of_lt' (by simpa using h)]
theorem w32_bd (x : UInt32) : 0 ≤ w32 x ∧ w32 x ≤ 4294967295 := by
  unfold w32; have := w32_lt x; omega

theorem bits_and (x y : UInt32) : bits .and .u32 (w32 x) (w32 y) = w32 (x &&& y) := by
  unfold w32; rw [u32_and_nat _ _ (w32_lt x) (w32_lt y), UInt32.toNat_and]
theorem bits_or (x y : UInt32) : bits .or .u32 (w32 x) (w32 y) = w32 (x ||| y) := by
  unfold w32; rw [u32_or_nat _ _ (w32_lt x) (w32_lt y), UInt32.toNat_or]
theorem bits_xor (x y : UInt32) : bits .xor .u32 (w32 x) (w32 y) = w32 (x ^^^ y) := by
  unfold w32; rw [u32_xor_nat _ _ (w32_lt x) (w32_lt y), UInt32.toNat_xor]
theorem bits_not (x : UInt32) : bits .xor .u32 4294967295 (w32 x) = w32 (~~~x) := by
  rw [show (4294967295 : Int) = w32 4294967295 from rfl, bits_xor]
  have h : (4294967295 : UInt32) ^^^ x = ~~~x := by
    apply UInt32.toBitVec_inj.1
    have : (4294967295 : UInt32).toBitVec = BitVec.allOnes 32 := by decide
    rw [UInt32.toBitVec_xor, this, UInt32.toBitVec_not, BitVec.allOnes_xor]
  rw [h]
theorem wrap_add (x y : UInt32) : IntKind.u32.wrap (w32 x + w32 y) = w32 (x + y) := by
  rw [IntKind.wrap_u32]; unfold w32; rw [UInt32.toNat_add]; omega
theorem run_shr (yk : IntKind) (x : UInt32) (n : Int) (h0 : 0 ≤ n) : Op.shift .shr .u32 (w32 x) yk n = pure (.int .u32 (w32 (ushr x n.toNat))) := by
  rw [shift_shr_any _ _ _ _ h0]
  have hx := w32_lt x
  have e : x.toNat / 2 ^ min n.toNat 32 = x.toNat / 2 ^ n.toNat := by
    rcases Nat.le_total n.toNat 32 with h | h
    · rw [Nat.min_eq_left h]
    · rw [Nat.min_eq_right h, Nat.div_eq_of_lt (by simpa using hx), Nat.div_eq_of_lt]
      exact Nat.lt_of_lt_of_le (by simpa using hx) (Nat.pow_le_pow_right (by omega) h)
  have hlt : x.toNat / 2 ^ n.toNat < 4294967296 := Nat.lt_of_le_of_lt (Nat.div_le_self _ _) hx
  unfold ushr
  rw [w32_of _ hlt, ← e]
  unfold w32
  simp [IntKind.bits]
theorem run_shl (yk : IntKind) (x : UInt32) (n : Int) (h0 : 0 ≤ n) : Op.shift .shl .u32 (w32 x) yk n = pure (.int .u32 (w32 (ushl x n.toNat))) := by
  rw [shift_shl_any _ _ _ _ h0]
  have e : x.toNat * 2 ^ min n.toNat 32 % 4294967296 = x.toNat * 2 ^ n.toNat % 4294967296 := by
    rcases Nat.le_total n.toNat 32 with h | h
    · rw [Nat.min_eq_left h]
    · rw [Nat.min_eq_right h, show n.toNat = 32 + (n.toNat - 32) by omega, Nat.pow_add]
      have : (2 : Nat) ^ 32 = 4294967296 := by decide
      rw [this, ← Nat.mul_assoc, Nat.mul_mod_left, Nat.mul_right_comm, Nat.mul_mod_left]
  unfold ushl w32
  rw [IntKind.wrap_u32, UInt32.toNat_ofNat', show (2 : Nat) ^ 32 = 4294967296 by decide, ← e]
  simp [IntKind.bits]
theorem wrap_byte (b : UInt8) : IntKind.u32.wrap (w8 b) = w32 b.toUInt32 := by
  rw [IntKind.wrap_u32]; unfold w8 w32; have := w8_lt b; rw [UInt8.toNat_toUInt32]; omega
theorem wrap_low (x : UInt32) : IntKind.u8.wrap (w32 x) = w8 x.toUInt8 := by
  rw [IntKind.wrap_u8]; unfold w8 w32; rw [UInt32.toNat_toUInt8]; omega
attribute [go_sem] bits_and bits_or bits_xor bits_not wrap_add wrap_byte wrap_low
theorem bits_not_max (x : UInt32) : bits .xor .u32 IntKind.u32.max (w32 x) = w32 (~~~x) := bits_not x
theorem bits_not_if (x : UInt32) : bits .xor .u32 (if IntKind.u32.signed = true then -1 else IntKind.u32.max) (w32 x) = w32 (~~~x) := bits_not x
attribute [go_sem] bits_not_max bits_not_if
attribute [go_sem ↓] run_shr run_shl
end Go.Proofs.YtnjilfdmplbalaaGreatDoor
