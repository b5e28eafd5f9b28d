/-
  Plain mathematics: a number's bits are its digits to the base 2: what the reference sums up bit by bit.
-/
import Derived.Test.YtikkmcgbmiddaaaDoorBitL
namespace Go.Proofs.YtikkmcgbmiddaaaDoor
open Go.RowKit
set_option linter.unusedVariables false

/-- One bit of the result, from one bit of each operand. -/
def bitR (op : Int) (p q : Nat) : Nat := if op = 18 then max p q else if op = 19 then (p + q) % 2 else p * q
def bitZ (op : Int) (x y : Nat) : Nat := if op = 18 then x ||| y else if op = 19 then x ^^^ y else x &&& y
theorem bit_of (n k : Nat) : n / 2 ^ k % 2 = (n.testBit k).toNat := (Nat.toNat_testBit n k).symm
theorem bitZ_bit (op : Int) (x y k : Nat) : bitZ op x y / 2 ^ k % 2 = bitR op (x / 2 ^ k % 2) (y / 2 ^ k % 2) := by
  unfold bitZ bitR
  rw [bit_of, bit_of, bit_of]
  split
  · rw [Nat.testBit_or]; cases x.testBit k <;> cases y.testBit k <;> rfl
  · split
    · rw [Nat.testBit_xor]; cases x.testBit k <;> cases y.testBit k <;> rfl
    · rw [Nat.testBit_and]; cases x.testBit k <;> cases y.testBit k <;> rfl
theorem bitZ_step (op : Int) (x y k : Nat) : bitZ op x y % 2 ^ (k + 1) = bitZ op x y % 2 ^ k + bitR op (x / 2 ^ k % 2) (y / 2 ^ k % 2) * 2 ^ k := by
  rw [← bitZ_bit, Nat.mod_pow_succ, Nat.mul_comm]
theorem bitR_le (op : Int) (p q : Nat) (hp : p < 2) (hq : q < 2) : bitR op p q ≤ 1 := by
  have : p = 0 ∨ p = 1 := by omega
  have : q = 0 ∨ q = 1 := by omega
  unfold bitR
  rcases ‹p = 0 ∨ p = 1› with rfl | rfl <;> rcases ‹q = 0 ∨ q = 1› with rfl | rfl <;> (repeat' split) <;> decide
theorem bitZ_lt (op : Int) (x y : Nat) (hx : x < 2 ^ 32) (hy : y < 2 ^ 32) : bitZ op x y < 2 ^ 32 := by
  unfold bitZ
  split
  · exact Nat.or_lt_two_pow hx hy
  · split
    · exact Nat.xor_lt_two_pow hx hy
    · exact Nat.and_lt_two_pow _ hy
theorem bitZ_end (op a b : Int) (h : op = 17 ∨ op = 18 ∨ op = 19) : wrap32 ((bitZ op (a % 4294967296).toNat (b % 4294967296).toNat : Nat) : Int) = binV op a b := by
  have ea : (a % 4294967296).toNat = (B32 a).toNat := by unfold B32; rw [BitVec.toNat_ofInt]; rfl
  have eb : (b % 4294967296).toNat = (B32 b).toNat := by unfold B32; rw [BitVec.toNat_ofInt]; rfl
  rw [ea, eb]
  rcases h with rfl | rfl | rfl
  · rw [b17, ← wrap_bv, IntWalk.i32_left]; rfl
  · rw [b18, ← wrap_bv, IntWalk.i32_left]; rfl
  · rw [b19, ← wrap_bv, IntWalk.i32_left]; rfl
end Go.Proofs.YtikkmcgbmiddaaaDoor
