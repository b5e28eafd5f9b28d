/-
  The program's subgroup operations are those of the reference: plain mathematics.
-/
import Derived.Test.YtjknmancnfeifaaOne
import Derived.Test.YtjknmancnfeifaaColD
namespace Go.Proofs.Ytjknmancnfeifaa
open Go.ChangeShapes Go.WideShapes Go.ChangeAt Go.RowKit

def B32 (a : Int) : BitVec 32 := BitVec.ofInt 32 a
theorem wrap_bv (X : BitVec 32) : IntKind.i32.wrap (X.toNat : Int) = X.toInt := by
  rw [IntWalk.i32_left, BitVec.toInt_eq_toNat_cond]
  have := X.isLt
  unfold wrap32
  split <;> omega
theorem and_bv (a b : Int) : bits BinOp.and IntKind.i32 a b = (B32 a &&& B32 b).toInt := wrap_bv _
theorem or_bv (a b : Int) : bits BinOp.or IntKind.i32 a b = (B32 a ||| B32 b).toInt := wrap_bv _
theorem wrap32_bv (n : Int) : wrap32 n = (B32 n).toInt := by
  unfold B32; rw [BitVec.toInt_ofInt]; unfold wrap32; rw [Int.bmod_def]; omega
theorem b32_to (X : BitVec 32) : B32 X.toInt = X := BitVec.ofInt_toInt
theorem b32_nat (n : Nat) : B32 (wrap32 (n : Int)) = BitVec.ofNat 32 n := by
  rw [wrap32_bv, b32_to]; unfold B32; exact BitVec.ofInt_natCast 32 n
theorem or_nat (n m : Nat) : bits BinOp.or IntKind.i32 (wrap32 n) (wrap32 m) = wrap32 ((n ||| m : Nat) : Int) := by
  rw [or_bv, b32_nat, b32_nat, wrap32_bv]
  congr 1
  unfold B32
  rw [BitVec.ofInt_natCast]
  apply BitVec.eq_of_toNat_eq
  simp

/-- The number whose bit j is 1 if f j is not 0, for the first k. -/
def balN (f : Nat → Int) : Nat → Nat
  | 0 => 0
  | k + 1 => if f k = 0 then balN f k else balN f k + 2 ^ k
theorem balN_succ (f : Nat → Int) (k : Nat) : balN f (k + 1) = if f k = 0 then balN f k else balN f k + 2 ^ k := rfl
theorem balV_succ (f : Nat → Int) (k : Nat) : balV f (k + 1) = if f k = 0 then balV f k else wrap32 (balV f k + powV k) := rfl
theorem cntV_succ (f : Nat → Int) (k : Nat) : cntV f (k + 1) = if f k = 0 then cntV f k else cntV f k + 1 := rfl
theorem wrap32_0 : wrap32 0 = 0 := by decide +kernel
theorem balN_lt (f : Nat → Int) (k : Nat) : balN f k < 2 ^ k := by
  induction k with
  | zero => simp [balN]
  | succ k ih => rw [balN_succ, Nat.pow_succ]; split <;> omega
theorem powV_eq (k : Nat) : powV k = wrap32 ((2 ^ k : Nat) : Int) := by
  induction k with
  | zero => show (1 : Int) = wrap32 ((2 ^ 0 : Nat) : Int); decide +kernel
  | succ k ih =>
    show wrap32 (2 * powV k) = _
    rw [ih, Nat.pow_succ]
    push_cast
    unfold wrap32
    omega
theorem balV_eq (f : Nat → Int) (k : Nat) : balV f k = wrap32 (balN f k) := by
  induction k with
  | zero => show (0 : Int) = wrap32 ((0 : Nat) : Int); decide +kernel
  | succ k ih =>
    rw [balV_succ, balN_succ]
    by_cases h : f k = 0
    · rw [if_pos h, if_pos h, ih]
    · rw [if_neg h, if_neg h, ih, powV_eq]
      push_cast
      unfold wrap32
      omega
theorem st1_eq (f : Nat → Int) (k : Nat) : stV 1 f k = wrap32 (balN f k) := by
  induction k with
  | zero => show (0 : Int) = wrap32 ((0 : Nat) : Int); decide +kernel
  | succ k ih =>
    show stepV 1 k (stV 1 f k) (f k) = _
    unfold stepV
    rw [if_pos rfl, ih]
    unfold trV
    rw [balN_succ]
    by_cases h : f k = 0
    · rw [if_pos h, if_pos h]
      have := or_nat (balN f k) 0
      simp only [Nat.or_zero, Int.natCast_zero] at this
      rw [Int.zero_mul]
      exact this
    · rw [if_neg h, if_neg h, Int.one_mul]
      have h1 := or_nat (balN f k) (2 ^ k)
      have h2 : balN f k ||| 2 ^ k = balN f k + 2 ^ k := by
        rw [Nat.or_comm, Nat.add_comm]
        have := Nat.two_pow_add_eq_or_of_lt (balN_lt f k) 1
        rw [Nat.mul_one] at this
        exact this.symm
      rw [h2] at h1
      push_cast at h1 ⊢
      exact h1
theorem st2_eq (f : Nat → Int) (k : Nat) : stV 2 f k = tbV (decide (0 < cntV f k)) := by
  induction k with
  | zero => rfl
  | succ k ih =>
    show stepV 2 k (stV 2 f k) (f k) = _
    unfold stepV
    rw [if_neg (by omega), if_pos rfl, ih]
    unfold trV
    rw [cntV_succ]
    by_cases h : f k = 0
    · rw [if_pos h, if_pos h]
      cases decide (0 < cntV f k) <;> decide +kernel
    · rw [if_neg h, if_neg h, decide_eq_true (show 0 < cntV f k + 1 by omega)]
      cases decide (0 < cntV f k) <;> decide +kernel
theorem st3_eq (f : Nat → Int) (k : Nat) : stV 3 f k = tbV (cntV f k == k) := by
  induction k with
  | zero => rfl
  | succ k ih =>
    show stepV 3 k (stV 3 f k) (f k) = _
    unfold stepV
    rw [if_neg (by omega), if_neg (by omega), if_pos rfl, ih]
    unfold trV
    rw [cntV_succ]
    have hle := cntV_le f k
    by_cases h : f k = 0
    · rw [if_pos h, if_pos h]
      have : (cntV f k == k + 1) = false := by simp; omega
      rw [this]
      cases (cntV f k == k) <;> decide +kernel
    · rw [if_neg h, if_neg h]
      have : (cntV f k + 1 == k + 1) = (cntV f k == k) := by rw [Bool.eq_iff_iff]; simp
      rw [this]
      cases (cntV f k == k) <;> decide +kernel
theorem st_sum (op : Int) (h1 : op ≠ 1) (h2 : op ≠ 2) (h3 : op ≠ 3) (f : Nat → Int) (k : Nat) : stV op f k = sumV f k := by
  induction k with
  | zero => show initV op = 0; unfold initV; rw [if_neg h3]
  | succ k ih =>
    show stepV op k (stV op f k) (f k) = wrap32 (sumV f k + f k)
    unfold stepV
    rw [if_neg h1, if_neg h2, if_neg h3, ih]
theorem scn_lo (f : Nat → Int) (i k : Nat) (h : k ≤ i + 1) : scnV f i k = sumV f k := by
  induction k with
  | zero => rfl
  | succ k ih =>
    show (if k ≤ i then _ else _) = wrap32 (sumV f k + f k)
    rw [if_pos (by omega), ih (by omega)]
theorem scn_hi (f : Nat → Int) (i k : Nat) (h : i + 1 ≤ k) : scnV f i k = sumV f (i + 1) := by
  induction k with
  | zero => omega
  | succ k ih =>
    by_cases hk : k ≤ i
    · obtain rfl : k = i := by omega
      exact scn_lo f k (k + 1) (Nat.le_refl _)
    · show (if k ≤ i then _ else _) = _
      rw [if_neg hk, ih (by omega)]
/-- The program's operation is the reference's, for each item. -/
theorem col_one (op : Int) (n : Nat) (f x : Nat → Int) (ho1 : 1 ≤ op) (ho6 : op ≤ 6) (i : Nat) (hi : i < n) : colV op n f x i = oneV op i n f x := by
  have hop : op = 1 ∨ op = 2 ∨ op = 3 ∨ op = 4 ∨ op = 5 ∨ op = 6 := by omega
  unfold colV oneV
  rcases hop with rfl | rfl | rfl | rfl | rfl | rfl
  · rw [if_neg (by omega), if_neg (by omega), if_pos rfl, st1_eq, balV_eq]
  · rw [if_neg (by omega), if_neg (by omega), if_neg (by omega), if_pos rfl, st2_eq]
  · rw [if_neg (by omega), if_neg (by omega), if_neg (by omega), if_neg (by omega), if_pos rfl, st3_eq]
  · rw [if_pos rfl, if_neg (by omega), if_neg (by omega), if_neg (by omega), if_neg (by omega), if_neg (by omega)]
  · rw [if_neg (by omega), if_pos rfl, if_neg (by omega), if_neg (by omega), if_neg (by omega), if_pos rfl, st_sum 5 (by omega) (by omega) (by omega), scn_hi f i n (by omega)]
  · rw [if_neg (by omega), if_neg (by omega), if_neg (by omega), if_neg (by omega), if_neg (by omega), if_neg (by omega), if_pos rfl, st_sum 6 (by omega) (by omega) (by omega)]
end Go.Proofs.Ytjknmancnfeifaa
