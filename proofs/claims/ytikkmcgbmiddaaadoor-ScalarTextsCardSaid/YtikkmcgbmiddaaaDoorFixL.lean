/-
  What ScalarFixed leans on: products and quotients of fixed-point numbers lie below the exact ones by less than one unit.
-/
import Derived.Test.YtikkmcgbmiddaaaDoorBits
namespace Go.Proofs.YtikkmcgbmiddaaaDoor
open Go.ChangeShapes Go.WideShapes Go.ChangeAt Go.RowKit
set_option linter.unusedVariables false

theorem b15 (a b : Int) : binV 15 a b = wrap32 (a * b / 65536) := by unfold binV; simp only [Int.reduceEq, reduceIte]
theorem b16 (a b : Int) : binV 16 a b = fixQ a b := by unfold binV; simp only [Int.reduceEq, reduceIte]
theorem mulf_fits (a b : Int) (h1 : -140737488355328 ≤ a * b) (h2 : a * b < 140737488355328) : 65536 * binV 15 a b ≤ a * b ∧ a * b - 65536 < 65536 * binV 15 a b := by
  rw [b15, IntWalk.wrap32_in _ (by omega)]; omega
/-- A quotient that is in the range of 32 bits, with one to spare, times the size of the divisor. -/
theorem divf_pos (a b : Int) (hb : 0 < b) (h1 : 65536 * a < b * 2147483647) (h2 : -b * 2147483647 < 65536 * a) : binV 16 a b * b ≤ 65536 * a ∧ 65536 * a - b < binV 16 a b * b := by
  have hq : fixQ a b = wrap32 ((a * 65536).fdiv b) := by unfold fixQ; rw [if_neg (by omega)]
  have e1 : (a * 65536).fdiv b = (a * 65536) / b := Int.fdiv_eq_ediv_of_nonneg _ (by omega)
  have l1 := Int.ediv_mul_le (a * 65536) (b := b) (by omega)
  have l2 := Int.lt_ediv_add_one_mul_self (a * 65536) hb
  rw [Int.add_mul, Int.one_mul] at l2
  have r1 : a * 65536 / b < 2147483648 := Int.ediv_lt_of_lt_mul hb (by omega)
  have r2 : -2147483648 ≤ a * 65536 / b := (Int.le_ediv_iff_mul_le hb).2 (by omega)
  rw [b16, hq, e1, IntWalk.wrap32_in _ (by omega)]
  omega
theorem fixQ_neg (a b : Int) : fixQ a (-b) = fixQ (-a) b := by
  unfold fixQ
  by_cases h : b = 0
  · subst h; rfl
  · rw [if_neg (by omega), if_neg h]
    congr 1
    have h := Int.neg_fdiv_neg (-(a * 65536)) b
    rw [Int.neg_neg] at h
    rw [Int.neg_mul, h]
theorem divf_neg (a b : Int) (hb : b < 0) (h1 : -(65536 * a) < -b * 2147483647) (h2 : b * 2147483647 < -(65536 * a)) : binV 16 a b * -b ≤ -(65536 * a) ∧ -(65536 * a) - -b < binV 16 a b * -b := by
  have h := divf_pos (-a) (-b) (by omega) (by omega) (by omega)
  have e : binV 16 (-a) (-b) = binV 16 a b := by rw [b16, b16, ← fixQ_neg, Int.neg_neg]
  rw [e] at h
  omega
theorem divf_one {a : Int} (ra : I32 a) : binV 16 a 65536 = a := by
  have hq : fixQ a 65536 = wrap32 ((a * 65536).fdiv 65536) := by unfold fixQ; rw [if_neg (by decide)]
  rw [b16, hq, Int.fdiv_eq_ediv_of_nonneg _ (by decide), Int.mul_ediv_cancel _ (by decide)]; exact win ra
theorem int_floor (a : Int) : 65536 * unV 5 a ≤ a ∧ a - 65536 < 65536 * unV 5 a := by
  show 65536 * (a / 65536) ≤ a ∧ a - 65536 < 65536 * (a / 65536); omega
end Go.Proofs.YtikkmcgbmiddaaaDoor
