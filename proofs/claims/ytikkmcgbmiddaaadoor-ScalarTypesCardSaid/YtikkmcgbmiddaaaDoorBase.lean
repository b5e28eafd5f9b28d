/-
  Contracts of scalar.Un and scalar.Bin, and of the laws' helpers un, bin and is: for every operator and all values, what they return, as plain functions on integers (unV, unE, binV, binE).
-/
import Derived.Test.YtikkmcgbmiddaaaDoorRows
import Derived.WalkKit
import Derived.ProofKit
import Derived.OpenShut
import Derived.Lib.AppendIntMem
namespace Go.Proofs.YtikkmcgbmiddaaaDoor
open Go.ChangeShapes Go.WideShapes Go.ChangeAt Go.RowKit

/-- A number of 32 bits. -/
def I32 (a : Int) : Prop := -2147483648 ≤ a ∧ a ≤ 2147483647
theorem I32.out {a : Int} (h : I32 a) : -2147483648 ≤ a ∧ a ≤ 2147483647 := h
theorem I32.wrap (a : Int) : I32 (wrap32 a) := by unfold I32 wrap32; omega
theorem I32.of_wf {a : Int} (h : (Lit.int .i32 a).wf = true) : I32 a := by
  simp only [Lit.wf, IntKind.min, IntKind.max, IntKind.signed, IntKind.bits, Bool.and_eq_true, decide_eq_true_eq, if_true] at h; unfold I32; omega

/-- The quotient of two fixed-point numbers, rounded down. -/
def fixQ (a b : Int) : Int := if b = 0 then 0 else wrap32 ((a * 65536).fdiv b)
/-- What an operator with one operand returns. -/
def unV (op a : Int) : Int :=
  if op = 1 then wrap32 (-a) else if op = 2 then bits BinOp.xor IntKind.i32 (-1) a else if op = 3 then (if 0 ≤ a then a else wrap32 (-a)) else if op = 4 then wrap32 (a * 65536) else if op = 5 then a / 65536 else 0
def unE (op : Int) : Int := if 1 ≤ op ∧ op ≤ 5 then 0 else 1
def quotV (a b : Int) : Int := if b = 0 then 0 else wrap32 (a.tdiv b)
def tr (p : Prop) [Decidable p] : Int := if p then 1 else 0
/-- What an operator with two operands returns. -/
def binV (op a b : Int) : Int :=
  if op = 10 then wrap32 (a + b) else if op = 11 then wrap32 (a - b) else if op = 12 then wrap32 (a * b) else if op = 13 then quotV a b else if op = 14 then wrap32 (a - wrap32 (b * quotV a b))
  else if op = 15 then wrap32 (a * b / 65536) else if op = 16 then fixQ a b
  else if op = 17 then bits BinOp.and IntKind.i32 a b else if op = 18 then bits BinOp.or IntKind.i32 a b else if op = 19 then bits BinOp.xor IntKind.i32 a b
  else if op = 20 then wrap32 (a * 2 ^ (b % 32).toNat) else if op = 21 then a / 2 ^ (b % 32).toNat
  else if op = 22 then (if a ≤ b then a else b) else if op = 23 then (if a ≤ b then b else a)
  else if op = 24 then tr (a = b) else if op = 25 then tr (a ≠ b) else if op = 26 then tr (a < b) else if op = 27 then tr (a ≤ b) else if op = 28 then tr (b < a) else if op = 29 then tr (b ≤ a) else 0
def binE (op : Int) : Int := if 10 ≤ op ∧ op ≤ 29 then 0 else 1

theorem quot_any (a b : Int) (w : World) : Calls Tryd.prog 42 #[.int .i32 a, .int .i32 b] w fun e w' => e = .returned (.int .i32 (quotV a b)) ∧ w' = w := by
  by_cases h : b = 0
  · subst h
    go_enter Tryd.func42, Tryd.ntmps42
    go_wp2
    go_ret
    exact ⟨rfl, rfl⟩
  · have e : quotV a b = wrap32 (a.tdiv b) := by unfold quotV; rw [if_neg h]
    rw [e]
    clear e
    go_enter Tryd.func42, Tryd.ntmps42
    go_wp2
    go_ret
    exact ⟨rfl, rfl⟩


theorem w3264 (x : Int) : wrap32 (wrap64 x) = wrap32 x := by unfold wrap32 wrap64; omega
theorem w3264s (x : Int) : wrap32 (wrap64 (wrap64 x - 1)) = wrap32 (x - 1) := by unfold wrap32 wrap64; omega
theorem fdiv_of_tdiv (n d : Int) (hd : d ≠ 0) : n.fdiv d = if n.tmod d ≠ 0 ∧ decide (n < 0) ≠ decide (d < 0) then n.tdiv d - 1 else n.tdiv d := by
  have h1 : n.fdiv d = _ := Int.fdiv_eq_tdiv
  rw [h1]
  by_cases hdv : d ∣ n
  · rw [if_pos hdv, if_neg (by simp [Int.tmod_eq_zero_of_dvd hdv])]; omega
  · have hm : n.tmod d ≠ 0 := fun h => hdv (Int.dvd_of_tmod_eq_zero h)
    rw [if_neg hdv]
    by_cases a1 : n < 0 <;> by_cases a2 : d < 0
    · rw [if_neg (by omega), if_neg (by omega), Int.sign_eq_neg_one_of_neg a2, if_neg (by simp [a1, a2])]; omega
    · rw [if_neg (by omega), if_pos (by omega), Int.sign_eq_one_of_pos (by omega), if_pos (by simp [a1, a2, hm])]
    · rw [if_pos (by omega), if_neg (by omega), if_pos (by simp [a1, a2, hm])]
    · rw [if_pos (by omega), if_pos (by omega), if_neg (by simp [a1, a2])]; omega

theorem ret_i32 {a b : Int} (h : a = b) : Ending.returned (.int .i32 a) = .returned (.int .i32 b) := by rw [h]
theorem ret2_i32 {a b : Int} {v : Value} (h : a = b) : Ending.returned (.tuple #[.int .i32 a, v]) = .returned (.tuple #[.int .i32 b, v]) := by rw [h]

theorem fixq_any (a b : Int) (w : World) (ha : I32 a) (hb : I32 b) : Calls Tryd.prog 43 #[.int .i32 a, .int .i32 b] w fun e w' => e = .returned (.int .i32 (fixQ a b)) ∧ w' = w := by
  by_cases h : b = 0
  · subst h
    go_enter Tryd.func43, Tryd.ntmps43
    go_wp2
    go_ret
    exact ⟨rfl, rfl⟩
  · obtain ⟨ha1, ha2⟩ := ha
    obtain ⟨hb1, hb2⟩ := hb
    have e : fixQ a b = wrap32 ((a * 65536).fdiv b) := by unfold fixQ; rw [if_neg h]
    rw [e, fdiv_of_tdiv _ _ h]
    clear e
    by_cases h1 : (a * 65536).tmod b = 0
    · rw [if_neg (by simp [h1])]
      go_enter Tryd.func43, Tryd.ntmps43
      go_wp2
      go_ret
      exact ⟨ret_i32 (w3264 _), rfl⟩
    · have hc1 : ((a * 65536).tmod b != 0) = true := by simpa using h1
      by_cases h2 : decide (a * 65536 < 0) = decide (b < 0)
      · rw [if_neg (by simp [h2])]
        clear h1
        go_enter Tryd.func43, Tryd.ntmps43
        go_wp2
        go_ret
        exact ⟨ret_i32 (w3264 _), rfl⟩
      · rw [if_pos ⟨h1, h2⟩]
        have hc2 : (!decide (a * 65536 < 0) == decide (b < 0)) = true := by simpa using h2
        clear h1 h2
        go_enter Tryd.func43, Tryd.ntmps43
        go_wp2
        go_ret
        exact ⟨ret_i32 (w3264s _), rfl⟩

theorem truth_t (w : World) : Calls Tryd.prog 52 #[.bool true] w fun e w' => e = .returned (.int .i32 1) ∧ w' = w := by
  go_enter Tryd.func52, Tryd.ntmps52
  go_wp2
  go_ret
  exact ⟨rfl, rfl⟩
theorem truth_f (w : World) : Calls Tryd.prog 52 #[.bool false] w fun e w' => e = .returned (.int .i32 0) ∧ w' = w := by
  go_enter Tryd.func52, Tryd.ntmps52
  go_wp2
  go_ret
  exact ⟨rfl, rfl⟩
theorem truth_any (c : Bool) (w : World) : Calls Tryd.prog 52 #[.bool c] w fun e w' => e = .returned (.int .i32 (tr (c = true))) ∧ w' = w := by
  cases c
  · exact truth_f w
  · exact truth_t w
theorem tr_decide (p q : Prop) [Decidable p] [Decidable q] (h : p ↔ q) : tr p = tr q := by unfold tr; simp [h]

theorem cmp_any (op a b : Int) (w : World) (h : 24 ≤ op ∧ op ≤ 29) : Calls Tryd.prog 44 #[.int .i64 op, .int .i32 a, .int .i32 b] w fun e w' => e = .returned (.tuple #[.int .i32 (binV op a b), .int .i64 0]) ∧ w' = w := by
  have hop : op = 24 ∨ op = 25 ∨ op = 26 ∨ op = 27 ∨ op = 28 ∨ op = 29 := by omega
  clear h
  rcases hop with rfl | rfl | rfl | rfl | rfl | rfl
  all_goals
    go_enter Tryd.func44, Tryd.ntmps44
    go_wp2_with (go_at_call 52; refine (truth_any _ _).mono ?_; rintro e w' ⟨rfl, rfl⟩)
    go_ret2
    refine ⟨ret2_i32 ?_, rfl⟩
    unfold binV
    simp only [Int.reduceEq, reduceIte]
theorem cmp_else (op a b : Int) (w : World) (h : op < 24 ∨ 29 < op) : Calls Tryd.prog 44 #[.int .i64 op, .int .i32 a, .int .i32 b] w fun e w' => e = .returned (.tuple #[.int .i32 0, .int .i64 1]) ∧ w' = w := by
  have h1 : (op == 24) = false := by simp; omega
  have h2 : (op == 25) = false := by simp; omega
  have h3 : (op == 26) = false := by simp; omega
  have h4 : (op == 27) = false := by simp; omega
  have h5 : (op == 28) = false := by simp; omega
  have h6 : (op == 29) = false := by simp; omega
  clear h
  go_enter Tryd.func44, Tryd.ntmps44
  go_wp2
  go_ret2
  exact ⟨rfl, rfl⟩

theorem mul_rng {a b : Int} (ha : I32 a) (hb : I32 b) : -4611686018427387904 ≤ a * b ∧ a * b ≤ 4611686018427387904 := by
  obtain ⟨a1, a2⟩ := ha
  obtain ⟨b1, b2⟩ := hb
  have h1 : a.natAbs ≤ 2147483648 := by omega
  have h2 : b.natAbs ≤ 2147483648 := by omega
  have h3 : (a * b).natAbs ≤ 2147483648 * 2147483648 := by rw [Int.natAbs_mul]; exact Nat.mul_le_mul h1 h2
  omega

theorem Bin_any (op a b : Int) (w : World) (ha : I32 a) (hb : I32 b) : Calls Tryd.prog 28 #[.int .i64 op, .int .i32 a, .int .i32 b] w fun e w' => e = .returned (.tuple #[.int .i32 (binV op a b), .int .i64 (binE op)]) ∧ w' = w := by
  by_cases h : op < 10 ∨ 23 < op
  · have h10 : (op == 10) = false := by simp; omega
    have h11 : (op == 11) = false := by simp; omega
    have h12 : (op == 12) = false := by simp; omega
    have h13 : (op == 13) = false := by simp; omega
    have h14 : (op == 14) = false := by simp; omega
    have h15 : (op == 15) = false := by simp; omega
    have h16 : (op == 16) = false := by simp; omega
    have h17 : (op == 17) = false := by simp; omega
    have h18 : (op == 18) = false := by simp; omega
    have h19 : (op == 19) = false := by simp; omega
    have h20 : (op == 20) = false := by simp; omega
    have h21 : (op == 21) = false := by simp; omega
    have h22 : (op == 22) = false := by simp; omega
    have h23 : (op == 23) = false := by simp; omega
    by_cases h2 : 24 ≤ op ∧ op ≤ 29
    · have e : binE op = 0 := by unfold binE; rw [if_pos (by omega)]
      rw [e]
      have H := cmp_any op a b w h2
      clear h h2 e
      go_enter Tryd.func28, Tryd.ntmps28
      go_wp2_with (go_at_call 44; refine H.mono ?_; rintro e w' ⟨rfl, rfl⟩)
      go_ret2
      exact ⟨rfl, rfl⟩
    · have e : binE op = 1 := by unfold binE; rw [if_neg (by omega)]
      have e2 : binV op a b = 0 := by
        unfold binV
        repeat rw [if_neg (by omega)]
      rw [e, e2]
      have H := cmp_else op a b w (by omega)
      clear h h2 e e2
      go_enter Tryd.func28, Tryd.ntmps28
      go_wp2_with (go_at_call 44; refine H.mono ?_; rintro e w' ⟨rfl, rfl⟩)
      go_ret2
      exact ⟨rfl, rfl⟩
  · have e : binE op = 0 := by unfold binE; rw [if_pos (by omega)]
    rw [e]
    clear e
    have hop : op = 10 ∨ op = 11 ∨ op = 12 ∨ op = 13 ∨ op = 14 ∨ op = 15 ∨ op = 16 ∨ op = 17 ∨ op = 18 ∨ op = 19 ∨ op = 20 ∨ op = 21 ∨ op = 22 ∨ op = 23 := by omega
    clear h
    have H15 : wrap64 (a * b) = a * b := IntWalk.wrap64_in _ (by have := mul_rng ha hb; omega)
    have H42 := quot_any a b w
    have H43 := fixq_any a b w ha hb
    obtain ⟨ha1, ha2⟩ := ha
    obtain ⟨hb1, hb2⟩ := hb
    have hm : (b % 4294967296) % 32 = b % 32 := by omega
    rcases hop with rfl | rfl | rfl | rfl | rfl | rfl | rfl | rfl | rfl | rfl | rfl | rfl | rfl | rfl
    · go_enter Tryd.func28, Tryd.ntmps28
      go_wp2
      go_ret2
      exact ⟨rfl, rfl⟩
    · go_enter Tryd.func28, Tryd.ntmps28
      go_wp2
      go_ret2
      exact ⟨rfl, rfl⟩
    · go_enter Tryd.func28, Tryd.ntmps28
      go_wp2
      go_ret2
      exact ⟨rfl, rfl⟩
    · go_enter Tryd.func28, Tryd.ntmps28
      go_wp2_with (go_at_call 42; refine H42.mono ?_; rintro e w' ⟨rfl, rfl⟩)
      go_ret2
      exact ⟨rfl, rfl⟩
    · go_enter Tryd.func28, Tryd.ntmps28
      go_wp2_with (go_at_call 42; refine H42.mono ?_; rintro e w' ⟨rfl, rfl⟩)
      go_ret2
      refine ⟨ret2_i32 ?_, rfl⟩
      simp only [binV, Int.reduceEq, reduceIte]
    · go_enter Tryd.func28, Tryd.ntmps28
      go_wp2
      go_ret2
      refine ⟨ret2_i32 ?_, rfl⟩
      simp only [binV, Int.reduceEq, reduceIte]
    · go_enter Tryd.func28, Tryd.ntmps28
      go_wp2_with (go_at_call 43; refine H43.mono ?_; rintro e w' ⟨rfl, rfl⟩)
      go_ret2
      exact ⟨rfl, rfl⟩
    · go_enter Tryd.func28, Tryd.ntmps28
      go_wp2
      go_ret2
      exact ⟨rfl, rfl⟩
    · go_enter Tryd.func28, Tryd.ntmps28
      go_wp2
      go_ret2
      exact ⟨rfl, rfl⟩
    · go_enter Tryd.func28, Tryd.ntmps28
      go_wp2
      go_ret2
      exact ⟨rfl, rfl⟩
    · go_enter Tryd.func28, Tryd.ntmps28
      go_wp2
      go_ret2
      exact ⟨rfl, rfl⟩
    · go_enter Tryd.func28, Tryd.ntmps28
      go_wp2
      go_ret2
      exact ⟨rfl, rfl⟩
    · by_cases hab : a ≤ b
      · have e : binV 22 a b = a := by simp [binV, hab]
        rw [e]
        clear e
        by_cases hq : a = b
        · subst hq
          go_enter Tryd.func28, Tryd.ntmps28
          go_wp2
          go_ret2
          exact ⟨rfl, rfl⟩
        · have h1 : a < b := by omega
          have h2 : ¬ b ≤ a := by omega
          clear hq
          go_enter Tryd.func28, Tryd.ntmps28
          go_wp2
          go_ret2
          exact ⟨rfl, rfl⟩
      · have e : binV 22 a b = b := by simp [binV, hab]
        rw [e]
        have h1 : b < a := by omega
        have h2 : b ≤ a := by omega
        clear e
        go_enter Tryd.func28, Tryd.ntmps28
        go_wp2
        go_ret2
        exact ⟨rfl, rfl⟩
    · by_cases hab : a ≤ b
      · have e : binV 23 a b = b := by simp [binV, hab]
        rw [e]
        clear e
        by_cases hq : a = b
        · subst hq
          go_enter Tryd.func28, Tryd.ntmps28
          go_wp2
          go_ret2
          exact ⟨rfl, rfl⟩
        · have h1 : a < b := by omega
          have h2 : ¬ b ≤ a := by omega
          clear hq
          go_enter Tryd.func28, Tryd.ntmps28
          go_wp2
          go_ret2
          exact ⟨rfl, rfl⟩
      · have e : binV 23 a b = a := by simp [binV, hab]
        rw [e]
        have h1 : b < a := by omega
        have h2 : b ≤ a := by omega
        clear e
        go_enter Tryd.func28, Tryd.ntmps28
        go_wp2
        go_ret2
        exact ⟨rfl, rfl⟩

theorem Un_any (op a : Int) (w : World) (ha : I32 a) : Calls Tryd.prog 25 #[.int .i64 op, .int .i32 a] w fun e w' => e = .returned (.tuple #[.int .i32 (unV op a), .int .i64 (unE op)]) ∧ w' = w := by
  by_cases h : op < 1 ∨ 5 < op
  · have h10 : (op == 1) = false := by simp; omega
    have h11 : (op == 2) = false := by simp; omega
    have h12 : (op == 3) = false := by simp; omega
    have h13 : (op == 4) = false := by simp; omega
    have h14 : (op == 5) = false := by simp; omega
    have e : unE op = 1 := by unfold unE; rw [if_neg (by omega)]
    have e2 : unV op a = 0 := by
      unfold unV
      repeat rw [if_neg (by omega)]
    rw [e, e2]
    clear h e e2 ha
    go_enter Tryd.func25, Tryd.ntmps25
    go_wp2
    go_ret2
    exact ⟨rfl, rfl⟩
  · have e : unE op = 0 := by unfold unE; rw [if_pos (by omega)]
    rw [e]
    have hop : op = 1 ∨ op = 2 ∨ op = 3 ∨ op = 4 ∨ op = 5 := by omega
    clear e h
    obtain ⟨ha1, ha2⟩ := ha
    rcases hop with rfl | rfl | rfl | rfl | rfl
    · go_enter Tryd.func25, Tryd.ntmps25
      go_wp2
      go_ret2
      exact ⟨rfl, rfl⟩
    · go_enter Tryd.func25, Tryd.ntmps25
      go_wp2
      go_ret2
      exact ⟨rfl, rfl⟩
    · by_cases h0 : 0 ≤ a
      · have e : unV 3 a = a := by simp [unV, h0]
        rw [e]
        clear e
        go_enter Tryd.func25, Tryd.ntmps25
        go_wp2
        go_ret2
        exact ⟨rfl, rfl⟩
      · have e : unV 3 a = wrap32 (-a) := by simp [unV, h0]
        rw [e]
        clear e
        go_enter Tryd.func25, Tryd.ntmps25
        go_wp2
        go_ret2
        exact ⟨rfl, rfl⟩
    · go_enter Tryd.func25, Tryd.ntmps25
      go_wp2
      go_ret2
      exact ⟨rfl, rfl⟩
    · go_enter Tryd.func25, Tryd.ntmps25
      go_wp2
      go_ret2
      exact ⟨rfl, rfl⟩
end Go.Proofs.YtikkmcgbmiddaaaDoor
