/- The two ways to end a message come to the same: plain lists, no walk. -/
import Derived.Test.YtnjilfdmplbalaaGreatDoorText
import Derived.Test.YtnjilfdmplbalaaGreatDoorPad
namespace Go.Proofs.YtnjilfdmplbalaaGreatDoor
open Go.RowKit
/-- The whole message with its end. -/
def padAll (m : List UInt8) : List UInt8 := m ++ [128] ++ List.replicate (zerosFor (m.length % 64)) 0 ++ wide (8 * m.length)
/-- The digest of a list of n bytes, as digest.Sum makes it. -/
def shaL (m : List UInt8) (n : Nat) : List UInt8 := Sha.textTo (Sha.toL (Sha.eat (if 64 < n % 64 + 9 then 2 else 1) (padTail (Sha.eat (n / 64) m Sha.start).2 n) (Sha.eat (n / 64) m Sha.start).1).1) 8
namespace Sha
theorem mixL_append (s : St) (l t : List UInt8) (h : 64 ≤ l.length) : mixL s (l ++ t) = mixL s l := by
  unfold mixL
  have : blk (l ++ t) = blk l := by
    funext i; unfold blk; rw [List.take_append_of_le_length h]
  rw [this]
theorem eat_append (t : List UInt8) (p : Nat) : ∀ (q : Nat) (l : List UInt8) (s : St), 64 * q ≤ l.length → eat (q + p) (l ++ t) s = eat p ((eat q l s).2 ++ t) (eat q l s).1
  | 0, l, s, _ => by rw [eat_zero, Nat.zero_add]
  | q + 1, l, s, h => by
    rw [show q + 1 + p = (q + p) + 1 by omega, eat_succ, eat_succ, mixL_append _ _ _ (by omega), List.drop_append_of_le_length (by omega)]
    exact eat_append t p q _ _ (by rw [List.length_drop]; omega)
theorem eat_rest : ∀ (q : Nat) (l : List UInt8) (s : St), (eat q l s).2 = l.drop (64 * q)
  | 0, l, s => by rw [eat_zero]; rfl
  | q + 1, l, s => by
    rw [eat_succ, eat_rest q, List.drop_drop]; congr 1; omega
end Sha
theorem padAll_len (m : List UInt8) : (padAll m).length = 64 * (m.length / 64 + if 64 < m.length % 64 + 9 then 2 else 1) := by
  simp only [padAll, List.length_append, List.length_replicate, List.length_cons, List.length_nil, wide, wideTo_len, zerosFor]
  split <;> omega
theorem same_digest (m : List UInt8) (n : Nat) (hn : m.length = n) : Sha.textTo (Sha.toL (Sha.eat ((padAll m).length / 64) (padAll m) Sha.start).1) 8 = shaL m n := by
  subst hn
  have hq : (padAll m).length / 64 = m.length / 64 + if 64 < m.length % 64 + 9 then 2 else 1 := by
    rw [padAll_len, Nat.mul_div_cancel_left _ (by omega)]
  have hr : (Sha.eat (m.length / 64) m Sha.start).2.length = m.length % 64 := by rw [Sha.eat_rest, List.length_drop]; omega
  have hp : padAll m = m ++ ([128] ++ List.replicate (zerosFor (m.length % 64)) 0 ++ wide (8 * m.length)) := by simp [padAll]
  have ht : padTail (Sha.eat (m.length / 64) m Sha.start).2 m.length = (Sha.eat (m.length / 64) m Sha.start).2 ++ ([128] ++ List.replicate (zerosFor (m.length % 64)) 0 ++ wide (8 * m.length)) := by
    unfold padTail; rw [hr]; simp
  unfold shaL
  rw [hq, ht, ← Sha.eat_append _ _ _ _ _ (by omega), ← hp]
end Go.Proofs.YtnjilfdmplbalaaGreatDoor
