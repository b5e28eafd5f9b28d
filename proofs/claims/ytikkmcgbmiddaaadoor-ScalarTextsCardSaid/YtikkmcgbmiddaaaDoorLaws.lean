/-
  The walks of ScalarDivides, ScalarOrder and ScalarBits: for all values each of these laws returns true.
-/
import Derived.Test.YtikkmcgbmiddaaaDoorRing
import Derived.Test.YtikkmcgbmiddaaaDoorBitL
namespace Go.Proofs.YtikkmcgbmiddaaaDoor
open Go.ChangeShapes Go.WideShapes Go.ChangeAt Go.RowKit
set_option linter.unusedVariables false

theorem quot_ne {a b : Int} (h : b ≠ 0) : quotV a b = wrap32 (a.tdiv b) := if_neg h
theorem b14 (a b : Int) : binV 14 a b = wrap32 (a - wrap32 (b * quotV a b)) := rfl
/-- The remainder is Go's own. -/
theorem rem_eq {a b : Int} (ha : I32 a) (hb : I32 b) (h : b ≠ 0) : binV 14 a b = a.tmod b := by
  rw [b14, quot_ne h]
  obtain ⟨k, hk⟩ := wk (a.tdiv b)
  obtain ⟨j, hj⟩ := wk (b * (a.tdiv b + 4294967296 * k))
  rw [hk, hj]
  have e : b * a.tdiv b + a.tmod b = a := Int.mul_tdiv_add_tmod a b
  have hr : I32 (a.tmod b) := by
    have h1 := Int.tmod_lt_of_pos a (b := b)
    have h2 := Int.natAbs_tmod a b
    have h3 : a.natAbs % b.natAbs ≤ a.natAbs := Nat.mod_le _ _
    obtain ⟨a1, a2⟩ := ha
    by_cases a0 : 0 ≤ a
    · have := Int.tmod_nonneg b a0
      exact ⟨by omega, by omega⟩
    · have : a.tmod b ≤ 0 := by
        have := Int.tmod_nonneg b (a := -a) (by omega)
        rw [Int.neg_tmod] at this; omega
      exact ⟨by omega, by omega⟩
  rw [← win hr]
  refine wcong (-(b * k) - j) ?_
  have e1 : a.tmod b = a - b * a.tdiv b := by omega
  rw [e1]
  simp only [Int.mul_add, Int.mul_sub, Int.mul_neg, Int.mul_left_comm b 4294967296 k]
  omega
theorem div_back {a b : Int} (ha : I32 a) (hb : I32 b) (h : b ≠ 0) : binV 10 (binV 12 (binV 13 a b) b) (binV 14 a b) = a := by
  rw [rem_eq ha hb h]
  show wrap32 (wrap32 (quotV a b * b) + a.tmod b) = a
  rw [quot_ne h]
  obtain ⟨k, hk⟩ := wk (a.tdiv b)
  obtain ⟨j, hj⟩ := wk ((a.tdiv b + 4294967296 * k) * b)
  rw [hk, hj]
  have e : b * a.tdiv b + a.tmod b = a := Int.mul_tdiv_add_tmod a b
  rw [show a = wrap32 a from (win ha).symm]
  rw [win ha]
  conv => rhs; rw [← win ha]
  refine wcong (k * b + j) ?_
  simp only [Int.add_mul, Int.mul_add, Int.mul_assoc, Int.mul_comm (a.tdiv b) b]
  omega

/-- The remainder is smaller than the divisor in size, and 0 or of the sign of a. -/
theorem rem_size {a b : Int} (ha : I32 a) (hb : I32 b) (h : b ≠ 0) : (0 ≤ a → 0 ≤ binV 14 a b) ∧ (a < 0 → binV 14 a b ≤ 0) ∧ (0 < b → binV 14 a b < b ∧ -b < binV 14 a b) ∧ (b < 0 → binV 14 a b < -b ∧ b < binV 14 a b) := by
  rw [rem_eq ha hb h]
  have h2 := Int.natAbs_tmod a b
  have h3 : a.natAbs % b.natAbs < b.natAbs := Nat.mod_lt _ (by omega)
  refine ⟨fun h0 => Int.tmod_nonneg b h0, fun h0 => ?_, fun _ => ⟨by omega, by omega⟩, fun _ => ⟨by omega, by omega⟩⟩
  have := Int.tmod_nonneg b (a := -a) (by omega)
  rw [Int.neg_tmod] at this; omega

/-- The walk of ScalarDivides, b = 0. -/
theorem div_one (a : Int) (ra : I32 a) : binV 13 a 1 = a := by
  show quotV a 1 = a; rw [quot_ne (by decide), Int.tdiv_one]; exact win ra
theorem div_neg (a : Int) : binV 13 a (-1) = unV 1 a := by
  show quotV a (-1) = wrap32 (-a); rw [quot_ne (by decide), Int.tdiv_neg, Int.tdiv_one]
set_option maxRecDepth 100000 in
set_option maxHeartbeats 3200000 in
theorem divides_0 (a : Int) (w : World) (ra : I32 a) (he : Env w) :
    Calls Tryd.prog 5 #[.int .i32 a, .int .i32 0] w fun e w' => e = .returned (.bool true) ∧ Run w w' := by
  have hr := Run.start he
  clear he
  have f250 := fld25_0
  have r0 : I32 0 := lit32 _ (by decide)
  have h1 : binV 13 a 0 = 0 := rfl
  have h2 : binV 14 a 0 = a := by
    show wrap32 (a - wrap32 (0 * quotV a 0)) = a
    rw [Int.zero_mul, win r0, Int.sub_zero]; exact win ra
  go_enter Tryd.func5, Tryd.ntmps5
  go_wp2_with (first | (go_at_call 11; (with_reducible refine (examples_c (by assumption)).mono ?_); rintro e w1 ⟨rfl, hr⟩) | (go_at_call 14; (with_reducible refine (bin_c _ _ _ (by assumption) (by assumption) (by assumption)).mono ?_); rintro e w1 ⟨rfl, hr⟩) | (go_at_call 12; (with_reducible refine (un_c _ _ (by assumption) (by assumption)).mono ?_); rintro e w1 ⟨rfl, hr⟩))
  go_ret
  exact ⟨rfl, by assumption⟩

set_option maxRecDepth 100000 in
set_option maxHeartbeats 3200000 in
theorem divides_pp (a b : Int) (w : World) (ra : I32 a) (rb : I32 b) (he : Env w) (ha : 0 ≤ a) (hb : 0 < b) :
    Calls Tryd.prog 5 #[.int .i32 a, .int .i32 b] w fun e w' => e = .returned (.bool true) ∧ Run w w' := by
  have hr := Run.start he
  clear he
  have f250 := fld25_0
  have r1 : I32 1 := lit32 _ (by decide)
  have rm : I32 (-1) := lit32 _ (by decide)
  have rq := binV_rng 13 ra rb
  have rp := binV_rng 12 rq rb
  have hback := div_back ra rb (by omega)
  have hsz := rem_size ra rb (by omega)
  have rr := binV_rng 14 ra rb
  obtain ⟨r, hr14⟩ : ∃ r, binV 14 a b = r := ⟨_, rfl⟩
  rw [hr14] at hback hsz rr
  have k1 : 0 ≤ r := by omega
  have k2 : r < b := by omega
  obtain ⟨k3, k4⟩ := rr.out
  obtain ⟨k5, k6⟩ := rb.out
  have k7 : (b == 0) = false := by simp; omega
  clear hsz
  have d1 := div_one a ra
  have d2 := div_neg a
  go_enter Tryd.func5, Tryd.ntmps5
  go_wp2_with (first | (go_at_call 11; (with_reducible refine (examples_c (by assumption)).mono ?_); rintro e w1 ⟨rfl, hr⟩) | (go_at_call 14; (with_reducible refine (bin_c _ _ _ (by assumption) (by assumption) (by assumption)).mono ?_); rintro e w1 ⟨rfl, hr⟩) | (go_at_call 12; (with_reducible refine (un_c _ _ (by assumption) (by assumption)).mono ?_); rintro e w1 ⟨rfl, hr⟩))
  go_ret
  exact ⟨rfl, by assumption⟩

set_option maxRecDepth 100000 in
set_option maxHeartbeats 3200000 in
theorem divides_pn (a b : Int) (w : World) (ra : I32 a) (rb : I32 b) (he : Env w) (ha : 0 ≤ a) (hb : b < 0) :
    Calls Tryd.prog 5 #[.int .i32 a, .int .i32 b] w fun e w' => e = .returned (.bool true) ∧ Run w w' := by
  have hr := Run.start he
  clear he
  have f250 := fld25_0
  have r1 : I32 1 := lit32 _ (by decide)
  have rm : I32 (-1) := lit32 _ (by decide)
  have rq := binV_rng 13 ra rb
  have rp := binV_rng 12 rq rb
  have hback := div_back ra rb (by omega)
  have hsz := rem_size ra rb (by omega)
  have rr := binV_rng 14 ra rb
  obtain ⟨r, hr14⟩ : ∃ r, binV 14 a b = r := ⟨_, rfl⟩
  rw [hr14] at hback hsz rr
  have k1 : 0 ≤ r := by omega
  have k2 : r < -b := by omega
  obtain ⟨k3, k4⟩ := rr.out
  obtain ⟨k5, k6⟩ := rb.out
  have k7 : (b == 0) = false := by simp; omega
  clear hsz
  have d1 := div_one a ra
  have d2 := div_neg a
  go_enter Tryd.func5, Tryd.ntmps5
  go_wp2_with (first | (go_at_call 11; (with_reducible refine (examples_c (by assumption)).mono ?_); rintro e w1 ⟨rfl, hr⟩) | (go_at_call 14; (with_reducible refine (bin_c _ _ _ (by assumption) (by assumption) (by assumption)).mono ?_); rintro e w1 ⟨rfl, hr⟩) | (go_at_call 12; (with_reducible refine (un_c _ _ (by assumption) (by assumption)).mono ?_); rintro e w1 ⟨rfl, hr⟩))
  go_ret
  exact ⟨rfl, by assumption⟩

set_option maxRecDepth 100000 in
set_option maxHeartbeats 3200000 in
theorem divides_np (a b : Int) (w : World) (ra : I32 a) (rb : I32 b) (he : Env w) (ha : a < 0) (hb : 0 < b) :
    Calls Tryd.prog 5 #[.int .i32 a, .int .i32 b] w fun e w' => e = .returned (.bool true) ∧ Run w w' := by
  have hr := Run.start he
  clear he
  have f250 := fld25_0
  have r1 : I32 1 := lit32 _ (by decide)
  have rm : I32 (-1) := lit32 _ (by decide)
  have rq := binV_rng 13 ra rb
  have rp := binV_rng 12 rq rb
  have hback := div_back ra rb (by omega)
  have hsz := rem_size ra rb (by omega)
  have rr := binV_rng 14 ra rb
  obtain ⟨r, hr14⟩ : ∃ r, binV 14 a b = r := ⟨_, rfl⟩
  rw [hr14] at hback hsz rr
  have k1 : 0 ≤ -r := by omega
  have k2 : -r < b := by omega
  obtain ⟨k3, k4⟩ := rr.out
  obtain ⟨k5, k6⟩ := rb.out
  have k7 : (b == 0) = false := by simp; omega
  clear hsz
  have d1 := div_one a ra
  have d2 := div_neg a
  go_enter Tryd.func5, Tryd.ntmps5
  go_wp2_with (first | (go_at_call 11; (with_reducible refine (examples_c (by assumption)).mono ?_); rintro e w1 ⟨rfl, hr⟩) | (go_at_call 14; (with_reducible refine (bin_c _ _ _ (by assumption) (by assumption) (by assumption)).mono ?_); rintro e w1 ⟨rfl, hr⟩) | (go_at_call 12; (with_reducible refine (un_c _ _ (by assumption) (by assumption)).mono ?_); rintro e w1 ⟨rfl, hr⟩))
  go_ret
  exact ⟨rfl, by assumption⟩

set_option maxRecDepth 100000 in
set_option maxHeartbeats 3200000 in
theorem divides_nn (a b : Int) (w : World) (ra : I32 a) (rb : I32 b) (he : Env w) (ha : a < 0) (hb : b < 0) :
    Calls Tryd.prog 5 #[.int .i32 a, .int .i32 b] w fun e w' => e = .returned (.bool true) ∧ Run w w' := by
  have hr := Run.start he
  clear he
  have f250 := fld25_0
  have r1 : I32 1 := lit32 _ (by decide)
  have rm : I32 (-1) := lit32 _ (by decide)
  have rq := binV_rng 13 ra rb
  have rp := binV_rng 12 rq rb
  have hback := div_back ra rb (by omega)
  have hsz := rem_size ra rb (by omega)
  have rr := binV_rng 14 ra rb
  obtain ⟨r, hr14⟩ : ∃ r, binV 14 a b = r := ⟨_, rfl⟩
  rw [hr14] at hback hsz rr
  have k1 : 0 ≤ -r := by omega
  have k2 : -r < -b := by omega
  obtain ⟨k3, k4⟩ := rr.out
  obtain ⟨k5, k6⟩ := rb.out
  have k7 : (b == 0) = false := by simp; omega
  clear hsz
  have d1 := div_one a ra
  have d2 := div_neg a
  go_enter Tryd.func5, Tryd.ntmps5
  go_wp2_with (first | (go_at_call 11; (with_reducible refine (examples_c (by assumption)).mono ?_); rintro e w1 ⟨rfl, hr⟩) | (go_at_call 14; (with_reducible refine (bin_c _ _ _ (by assumption) (by assumption) (by assumption)).mono ?_); rintro e w1 ⟨rfl, hr⟩) | (go_at_call 12; (with_reducible refine (un_c _ _ (by assumption) (by assumption)).mono ?_); rintro e w1 ⟨rfl, hr⟩))
  go_ret
  exact ⟨rfl, by assumption⟩

theorem divides_walk (a b : Int) (w : World) (ra : I32 a) (rb : I32 b) (he : Env w) :
    Calls Tryd.prog 5 #[.int .i32 a, .int .i32 b] w fun e w' => e = .returned (.bool true) ∧ Run w w' := by
  by_cases hb : b = 0
  · subst hb; exact divides_0 a w ra he
  · by_cases ha : 0 ≤ a <;> by_cases hb' : 0 < b
    · exact divides_pp a b w ra rb he ha hb'
    · exact divides_pn a b w ra rb he ha (by omega)
    · exact divides_np a b w ra rb he (by omega) hb'
    · exact divides_nn a b w ra rb he (by omega) (by omega)

theorem tr1 {p : Prop} [Decidable p] (h : p) : tr p = 1 := if_pos h
theorem tr0 {p : Prop} [Decidable p] (h : ¬ p) : tr p = 0 := if_neg h
theorem min1 {a b : Int} (h : a ≤ b) : binV 22 a b = a := by show (if a ≤ b then a else b) = a; exact if_pos h
theorem min0 {a b : Int} (h : ¬ a ≤ b) : binV 22 a b = b := by show (if a ≤ b then a else b) = b; exact if_neg h
theorem max1 {a b : Int} (h : a ≤ b) : binV 23 a b = b := by show (if a ≤ b then b else a) = b; exact if_pos h
theorem max0 {a b : Int} (h : ¬ a ≤ b) : binV 23 a b = a := by show (if a ≤ b then b else a) = a; exact if_neg h
/-- The absolute value is the greater one of a and -a, unless a is -2^31. -/
theorem abs_max {a : Int} (ra : I32 a) (h : a ≠ -2147483648) : binV 23 a (unV 1 a) = unV 3 a := by
  have h1 : unV 1 a = -a := by show wrap32 (-a) = -a; exact IntWalk.wrap32_in _ (by have := ra.out; omega)
  have h3 : unV 3 a = if 0 ≤ a then a else wrap32 (-a) := rfl
  have h2 : wrap32 (-a) = -a := h1
  rw [h1, h3, h2]
  show (if a ≤ -a then -a else a) = _
  split <;> split <;> omega

set_option maxRecDepth 100000 in
set_option maxHeartbeats 3200000 in
theorem order_lt0 (a b : Int) (w : World) (ra : I32 a) (rb : I32 b) (he : Env w) (hab : a < b) (hm : a = -2147483648) :
    Calls Tryd.prog 8 #[.int .i32 a, .int .i32 b] w fun e w' => e = .returned (.bool true) ∧ Run w w' := by
  have hr := Run.start he
  clear he
  have f250 := fld25_0
  have run := unV_rng 1 ra
  have h1 : binV 26 a b = 1 := tr1 (by omega)
  have h2 : binV 24 a b = 0 := tr0 (by omega)
  have h3 : binV 28 a b = 0 := tr0 (by omega)
  have h4 : binV 27 a b = 1 := tr1 (by omega)
  have h5 : binV 29 a b = 0 := tr0 (by omega)
  have h6 : binV 25 a b = 1 := tr1 (by omega)
  have h7 : binV 22 a b = a := min1 (by omega)
  have h8 : binV 23 a b = b := max1 (by omega)
  have k1 : ¬ a = b := by omega
  have k2 : ¬ b = a := by omega
  have k3 : (a == b) = false := by simp; omega
  have k4 : (b == a) = false := by simp; omega
  have k5 : ¬ b < a := by omega
  subst hm
  go_enter Tryd.func8, Tryd.ntmps8
  go_wp2_with (first | (go_at_call 11; (with_reducible refine (examples_c (by assumption)).mono ?_); rintro e w1 ⟨rfl, hr⟩) | (go_at_call 14; (with_reducible refine (bin_c _ _ _ (by assumption) (by assumption) (by assumption)).mono ?_); rintro e w1 ⟨rfl, hr⟩) | (go_at_call 12; (with_reducible refine (un_c _ _ (by assumption) (by assumption)).mono ?_); rintro e w1 ⟨rfl, hr⟩))
  go_ret
  exact ⟨rfl, by assumption⟩

set_option maxRecDepth 100000 in
set_option maxHeartbeats 3200000 in
theorem order_lt1 (a b : Int) (w : World) (ra : I32 a) (rb : I32 b) (he : Env w) (hab : a < b) (hm : a ≠ -2147483648) :
    Calls Tryd.prog 8 #[.int .i32 a, .int .i32 b] w fun e w' => e = .returned (.bool true) ∧ Run w w' := by
  have hr := Run.start he
  clear he
  have f250 := fld25_0
  have run := unV_rng 1 ra
  have h1 : binV 26 a b = 1 := tr1 (by omega)
  have h2 : binV 24 a b = 0 := tr0 (by omega)
  have h3 : binV 28 a b = 0 := tr0 (by omega)
  have h4 : binV 27 a b = 1 := tr1 (by omega)
  have h5 : binV 29 a b = 0 := tr0 (by omega)
  have h6 : binV 25 a b = 1 := tr1 (by omega)
  have h7 : binV 22 a b = a := min1 (by omega)
  have h8 : binV 23 a b = b := max1 (by omega)
  have k1 : ¬ a = b := by omega
  have k2 : ¬ b = a := by omega
  have k3 : (a == b) = false := by simp; omega
  have k4 : (b == a) = false := by simp; omega
  have k5 : ¬ b < a := by omega
  have hq : (a == -2147483648) = false := by simpa using hm
  have h10 := abs_max ra hm
  clear hm
  go_enter Tryd.func8, Tryd.ntmps8
  go_wp2_with (first | (go_at_call 11; (with_reducible refine (examples_c (by assumption)).mono ?_); rintro e w1 ⟨rfl, hr⟩) | (go_at_call 14; (with_reducible refine (bin_c _ _ _ (by assumption) (by assumption) (by assumption)).mono ?_); rintro e w1 ⟨rfl, hr⟩) | (go_at_call 12; (with_reducible refine (un_c _ _ (by assumption) (by assumption)).mono ?_); rintro e w1 ⟨rfl, hr⟩))
  go_ret
  exact ⟨rfl, by assumption⟩

set_option maxRecDepth 100000 in
set_option maxHeartbeats 3200000 in
theorem order_eq0 (a b : Int) (w : World) (ra : I32 a) (rb : I32 b) (he : Env w) (hab : a = b) (hm : a = -2147483648) :
    Calls Tryd.prog 8 #[.int .i32 a, .int .i32 b] w fun e w' => e = .returned (.bool true) ∧ Run w w' := by
  have hr := Run.start he
  clear he
  have f250 := fld25_0
  have run := unV_rng 1 ra
  have h1 : binV 26 a b = 0 := tr0 (by omega)
  have h2 : binV 24 a b = 1 := tr1 (by omega)
  have h3 : binV 28 a b = 0 := tr0 (by omega)
  have h4 : binV 27 a b = 1 := tr1 (by omega)
  have h5 : binV 29 a b = 1 := tr1 (by omega)
  have h6 : binV 25 a b = 0 := tr0 (by omega)
  have h7 : binV 22 a b = a := min1 (by omega)
  have h8 : binV 23 a b = b := max1 (by omega)
  subst hab
  subst hm
  go_enter Tryd.func8, Tryd.ntmps8
  go_wp2_with (first | (go_at_call 11; (with_reducible refine (examples_c (by assumption)).mono ?_); rintro e w1 ⟨rfl, hr⟩) | (go_at_call 14; (with_reducible refine (bin_c _ _ _ (by assumption) (by assumption) (by assumption)).mono ?_); rintro e w1 ⟨rfl, hr⟩) | (go_at_call 12; (with_reducible refine (un_c _ _ (by assumption) (by assumption)).mono ?_); rintro e w1 ⟨rfl, hr⟩))
  go_ret
  exact ⟨rfl, by assumption⟩

set_option maxRecDepth 100000 in
set_option maxHeartbeats 3200000 in
theorem order_eq1 (a b : Int) (w : World) (ra : I32 a) (rb : I32 b) (he : Env w) (hab : a = b) (hm : a ≠ -2147483648) :
    Calls Tryd.prog 8 #[.int .i32 a, .int .i32 b] w fun e w' => e = .returned (.bool true) ∧ Run w w' := by
  have hr := Run.start he
  clear he
  have f250 := fld25_0
  have run := unV_rng 1 ra
  have h1 : binV 26 a b = 0 := tr0 (by omega)
  have h2 : binV 24 a b = 1 := tr1 (by omega)
  have h3 : binV 28 a b = 0 := tr0 (by omega)
  have h4 : binV 27 a b = 1 := tr1 (by omega)
  have h5 : binV 29 a b = 1 := tr1 (by omega)
  have h6 : binV 25 a b = 0 := tr0 (by omega)
  have h7 : binV 22 a b = a := min1 (by omega)
  have h8 : binV 23 a b = b := max1 (by omega)
  have hq : (a == -2147483648) = false := by simpa using hm
  have h10 := abs_max ra hm
  clear hm
  subst hab
  go_enter Tryd.func8, Tryd.ntmps8
  go_wp2_with (first | (go_at_call 11; (with_reducible refine (examples_c (by assumption)).mono ?_); rintro e w1 ⟨rfl, hr⟩) | (go_at_call 14; (with_reducible refine (bin_c _ _ _ (by assumption) (by assumption) (by assumption)).mono ?_); rintro e w1 ⟨rfl, hr⟩) | (go_at_call 12; (with_reducible refine (un_c _ _ (by assumption) (by assumption)).mono ?_); rintro e w1 ⟨rfl, hr⟩))
  go_ret
  exact ⟨rfl, by assumption⟩

set_option maxRecDepth 100000 in
set_option maxHeartbeats 3200000 in
theorem order_gt0 (a b : Int) (w : World) (ra : I32 a) (rb : I32 b) (he : Env w) (hab : b < a) (hm : a = -2147483648) :
    Calls Tryd.prog 8 #[.int .i32 a, .int .i32 b] w fun e w' => e = .returned (.bool true) ∧ Run w w' := by
  have hr := Run.start he
  clear he
  have f250 := fld25_0
  have run := unV_rng 1 ra
  have h1 : binV 26 a b = 0 := tr0 (by omega)
  have h2 : binV 24 a b = 0 := tr0 (by omega)
  have h3 : binV 28 a b = 1 := tr1 (by omega)
  have h4 : binV 27 a b = 0 := tr0 (by omega)
  have h5 : binV 29 a b = 1 := tr1 (by omega)
  have h6 : binV 25 a b = 1 := tr1 (by omega)
  have h7 : binV 22 a b = b := min0 (by omega)
  have h8 : binV 23 a b = a := max0 (by omega)
  have h9 := xor_comm b a
  have k1 : ¬ a = b := by omega
  have k2 : ¬ b = a := by omega
  have k3 : (a == b) = false := by simp; omega
  have k4 : (b == a) = false := by simp; omega
  have k5 : ¬ a < b := by omega
  subst hm
  go_enter Tryd.func8, Tryd.ntmps8
  go_wp2_with (first | (go_at_call 11; (with_reducible refine (examples_c (by assumption)).mono ?_); rintro e w1 ⟨rfl, hr⟩) | (go_at_call 14; (with_reducible refine (bin_c _ _ _ (by assumption) (by assumption) (by assumption)).mono ?_); rintro e w1 ⟨rfl, hr⟩) | (go_at_call 12; (with_reducible refine (un_c _ _ (by assumption) (by assumption)).mono ?_); rintro e w1 ⟨rfl, hr⟩))
  go_ret
  exact ⟨rfl, by assumption⟩

set_option maxRecDepth 100000 in
set_option maxHeartbeats 3200000 in
theorem order_gt1 (a b : Int) (w : World) (ra : I32 a) (rb : I32 b) (he : Env w) (hab : b < a) (hm : a ≠ -2147483648) :
    Calls Tryd.prog 8 #[.int .i32 a, .int .i32 b] w fun e w' => e = .returned (.bool true) ∧ Run w w' := by
  have hr := Run.start he
  clear he
  have f250 := fld25_0
  have run := unV_rng 1 ra
  have h1 : binV 26 a b = 0 := tr0 (by omega)
  have h2 : binV 24 a b = 0 := tr0 (by omega)
  have h3 : binV 28 a b = 1 := tr1 (by omega)
  have h4 : binV 27 a b = 0 := tr0 (by omega)
  have h5 : binV 29 a b = 1 := tr1 (by omega)
  have h6 : binV 25 a b = 1 := tr1 (by omega)
  have h7 : binV 22 a b = b := min0 (by omega)
  have h8 : binV 23 a b = a := max0 (by omega)
  have h9 := xor_comm b a
  have k1 : ¬ a = b := by omega
  have k2 : ¬ b = a := by omega
  have k3 : (a == b) = false := by simp; omega
  have k4 : (b == a) = false := by simp; omega
  have k5 : ¬ a < b := by omega
  have hq : (a == -2147483648) = false := by simpa using hm
  have h10 := abs_max ra hm
  clear hm
  go_enter Tryd.func8, Tryd.ntmps8
  go_wp2_with (first | (go_at_call 11; (with_reducible refine (examples_c (by assumption)).mono ?_); rintro e w1 ⟨rfl, hr⟩) | (go_at_call 14; (with_reducible refine (bin_c _ _ _ (by assumption) (by assumption) (by assumption)).mono ?_); rintro e w1 ⟨rfl, hr⟩) | (go_at_call 12; (with_reducible refine (un_c _ _ (by assumption) (by assumption)).mono ?_); rintro e w1 ⟨rfl, hr⟩))
  go_ret
  exact ⟨rfl, by assumption⟩

theorem order_walk (a b : Int) (w : World) (ra : I32 a) (rb : I32 b) (he : Env w) :
    Calls Tryd.prog 8 #[.int .i32 a, .int .i32 b] w fun e w' => e = .returned (.bool true) ∧ Run w w' := by
  by_cases hm : a = -2147483648
  · by_cases h1 : a < b
    · exact order_lt0 a b w ra rb he h1 hm
    · by_cases h2 : a = b
      · exact order_eq0 a b w ra rb he h2 hm
      · exact order_gt0 a b w ra rb he (by omega) hm
  · by_cases h1 : a < b
    · exact order_lt1 a b w ra rb he h1 hm
    · by_cases h2 : a = b
      · exact order_eq1 a b w ra rb he h2 hm
      · exact order_gt1 a b w ra rb he (by omega) hm
end Go.Proofs.YtikkmcgbmiddaaaDoor
