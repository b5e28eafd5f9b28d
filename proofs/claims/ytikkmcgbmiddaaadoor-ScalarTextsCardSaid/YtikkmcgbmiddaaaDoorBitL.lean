/-
  The operators on bits, as operations on vectors of 32 bits: the laws of De Morgan, and how and, or, exclusive or and sums go together.
-/
import Derived.Test.YtikkmcgbmiddaaaDoorMem
namespace Go.Proofs.YtikkmcgbmiddaaaDoor
open Go.ChangeShapes Go.WideShapes Go.ChangeAt Go.RowKit

def B32 (a : Int) : BitVec 32 := BitVec.ofInt 32 a
theorem wrap_bv (X : BitVec 32) : IntKind.i32.wrap (X.toNat : Int) = X.toInt := by
  rw [IntWalk.i32_left, BitVec.toInt_eq_toNat_cond]
  have := X.isLt
  unfold wrap32
  split <;> omega
theorem and_bv (a b : Int) : bits BinOp.and IntKind.i32 a b = (B32 a &&& B32 b).toInt := wrap_bv _
theorem or_bv (a b : Int) : bits BinOp.or IntKind.i32 a b = (B32 a ||| B32 b).toInt := wrap_bv _
theorem xor_bv (a b : Int) : bits BinOp.xor IntKind.i32 a b = (B32 a ^^^ B32 b).toInt := wrap_bv _
theorem wrap32_bv (n : Int) : wrap32 n = (B32 n).toInt := by
  unfold B32; rw [BitVec.toInt_ofInt]; unfold wrap32; rw [Int.bmod_def]; omega
theorem b32_to (X : BitVec 32) : B32 X.toInt = X := BitVec.ofInt_toInt
theorem b32_in {a : Int} (h : I32 a) : (B32 a).toInt = a := by rw [← wrap32_bv]; exact IntWalk.wrap32_in _ h
theorem b32_add (a b : Int) : B32 (a + b) = B32 a + B32 b := BitVec.ofInt_add _ _
theorem b17 (a b : Int) : binV 17 a b = (B32 a &&& B32 b).toInt := and_bv a b
theorem b18 (a b : Int) : binV 18 a b = (B32 a ||| B32 b).toInt := or_bv a b
theorem b19 (a b : Int) : binV 19 a b = (B32 a ^^^ B32 b).toInt := xor_bv a b
theorem b10 (a b : Int) : binV 10 a b = (B32 a + B32 b).toInt := by
  show wrap32 (a + b) = _; rw [wrap32_bv, b32_add]
theorem u2 (a : Int) : unV 2 a = (~~~ (B32 a)).toInt := by
  show bits BinOp.xor IntKind.i32 (-1) a = _
  rw [xor_bv]
  congr 1
theorem bv_split (A B : BitVec 32) : (A &&& B) + (A &&& ~~~B) = A := by
  have h : (A &&& B) &&& (A &&& ~~~B) = 0#32 := by ext i; simp <;> (cases A[i] <;> cases B[i] <;> simp)
  rw [BitVec.add_eq_or_of_and_eq_zero _ _ h]
  ext i; simp <;> (cases A[i] <;> cases B[i] <;> simp)
theorem bv_join (A B : BitVec 32) : (A &&& ~~~B) + B = A ||| B := by
  have h : (A &&& ~~~B) &&& B = 0#32 := by ext i; simp <;> (cases A[i] <;> cases B[i] <;> simp)
  rw [BitVec.add_eq_or_of_and_eq_zero _ _ h]
  ext i; simp <;> (cases A[i] <;> cases B[i] <;> simp)
theorem bv_and_or (A B : BitVec 32) : (A &&& B) + (A ||| B) = A + B := by
  rw [← bv_join A B, ← BitVec.add_assoc, bv_split]
theorem bv_and_xor (A B : BitVec 32) : (A &&& B) + (A ^^^ B) = A ||| B := by
  have h : (A &&& B) &&& (A ^^^ B) = 0#32 := by ext i; simp <;> (cases A[i] <;> cases B[i] <;> simp)
  rw [BitVec.add_eq_or_of_and_eq_zero _ _ h]
  ext i; simp <;> (cases A[i] <;> cases B[i] <;> simp)

theorem bit1 (a b : Int) : unV 2 (binV 17 a b) = binV 18 (unV 2 a) (unV 2 b) := by
  rw [b17, u2, b18, u2, u2, b32_to, b32_to, b32_to, BitVec.not_and]
theorem bit2 (a b : Int) (ha : I32 a) : binV 19 (binV 19 a b) b = a := by
  rw [b19, b19, b32_to, BitVec.xor_assoc, BitVec.xor_self, BitVec.xor_zero, b32_in ha]
theorem bit3 (a b : Int) : binV 10 (binV 17 a b) (binV 18 a b) = binV 10 a b := by
  rw [b17, b18, b10, b10, b32_to, b32_to, bv_and_or]
theorem bit4 (a b : Int) : binV 10 (binV 17 a b) (binV 19 a b) = binV 18 a b := by
  rw [b17, b19, b10, b18, b32_to, b32_to, bv_and_xor]
theorem xor_comm (a b : Int) : binV 19 a b = binV 19 b a := by rw [b19, b19, BitVec.xor_comm]
theorem not_eq {a : Int} (ha : I32 a) : unV 2 a = -a - 1 := by
  rw [u2, BitVec.toInt_not]
  have := ha.out
  have e : (B32 a).toNat = (a % 4294967296).toNat := by unfold B32; rw [BitVec.toNat_ofInt]; rfl
  rw [e, Int.bmod_def]; omega
end Go.Proofs.YtikkmcgbmiddaaaDoor
