/-
  Contract of the reference's whole: its exact results, and that they are, modulo 2^32, what package scalar computes.
-/
import Derived.Test.YtikkmcgbmiddaaaDoorRefA
namespace Go.Proofs.YtikkmcgbmiddaaaDoor
open Go.ChangeShapes Go.WideShapes Go.ChangeAt Go.RowKit
set_option linter.unusedVariables false

/-- The exact results of the operators of arithmetic. -/
def wholeV (op a b : Int) : Int :=
  if op = 10 then a + b else if op = 11 then a - b else if op = 12 then a * b else if op = 13 then a.tdiv b else if op = 14 then a - b * a.tdiv b
  else if op = 15 then a * b / 65536 else if op = 16 then (if b = 0 then 0 else (65536 * a).fdiv b)
  else if op = 20 then a * 2 ^ (b % 32).toNat else if op = 21 then a / 2 ^ (b % 32).toNat else if op = 22 then min a b else max a b

theorem rem_mul (a b : Int) : wrap32 (a - b * a.tdiv b) = binV 14 a b := by
  by_cases h : b = 0
  · subst h
    have z : wrap32 0 = 0 := win ⟨by omega, by omega⟩
    rw [b14, Int.zero_mul, Int.zero_mul, z]
  · rw [b14, quot_ne h]
    obtain ⟨k, hk⟩ := wk (a.tdiv b)
    obtain ⟨j, hj⟩ := wk (b * (a.tdiv b + 4294967296 * k))
    rw [hk, hj]
    refine wcong (b * k + j) ?_
    simp only [Int.mul_add, Int.mul_left_comm b 4294967296 k]
    omega
theorem b10' (a b : Int) : binV 10 a b = wrap32 (a + b) := by unfold binV; simp only [Int.reduceEq, reduceIte]
theorem b11 (a b : Int) : binV 11 a b = wrap32 (a - b) := by unfold binV; simp only [Int.reduceEq, reduceIte]
theorem b13 (a b : Int) : binV 13 a b = quotV a b := by unfold binV; simp only [Int.reduceEq, reduceIte]
theorem b22 (a b : Int) : binV 22 a b = if a ≤ b then a else b := by unfold binV; simp only [Int.reduceEq, reduceIte]
theorem b23 (a b : Int) : binV 23 a b = if a ≤ b then b else a := by unfold binV; simp only [Int.reduceEq, reduceIte]
theorem whole_wrap (op a b : Int) (ha : I32 a) (hb : I32 b) (hop : op = 10 ∨ op = 11 ∨ op = 12 ∨ op = 13 ∨ op = 14 ∨ op = 15 ∨ op = 16 ∨ op = 20 ∨ op = 21 ∨ op = 22 ∨ op = 23) : wrap32 (wholeV op a b) = binV op a b := by
  rcases hop with rfl | rfl | rfl | rfl | rfl | rfl | rfl | rfl | rfl | rfl | rfl
  all_goals unfold wholeV; simp only [Int.reduceEq, reduceIte]
  · rw [b10']
  · rw [b11]
  · rw [b12]
  · rw [b13]; unfold quotV
    split
    · rename_i h; subst h; rw [Int.tdiv_zero]; exact win ⟨by omega, by omega⟩
    · rfl
  · exact rem_mul a b
  · rw [b15]
  · rw [b16]; unfold fixQ
    split
    · exact win ⟨by omega, by omega⟩
    · rw [Int.mul_comm]
  · rw [b20]
  · rw [b21]; exact win (div_pow_rng _ ha)
  · rw [b22]; split
    · rename_i h; rw [Int.min_eq_left h]; exact win ha
    · rename_i h; rw [Int.min_eq_right (by omega)]; exact win hb
  · rw [b23]; split
    · rename_i h; rw [Int.max_eq_right h]; exact win hb
    · rename_i h; rw [Int.max_eq_left (by omega)]; exact win ha

theorem mul_pow_rng {a : Int} (k : Nat) (ha : I32 a) (hk : k ≤ 31) : -4611686018427387904 ≤ a * 2 ^ k ∧ a * 2 ^ k ≤ 4611686018427387904 := by
  obtain ⟨a1, a2⟩ := ha
  have h1 : a.natAbs ≤ 2147483648 := by omega
  have h2 : ((2 : Int) ^ k).natAbs ≤ 2147483648 := by have := pow_le31 k hk; have := pow2_pos k; omega
  have h3 : (a * 2 ^ k).natAbs ≤ 2147483648 * 2147483648 := by rw [Int.natAbs_mul]; exact Nat.mul_le_mul h1 h2
  omega
theorem rem_mul_rng {a b : Int} (ha : I32 a) : -2147483648 ≤ b * a.tdiv b ∧ b * a.tdiv b ≤ 2147483648 := by
  have e : b * a.tdiv b + a.tmod b = a := Int.mul_tdiv_add_tmod a b
  obtain ⟨a1, a2⟩ := ha
  have h2 := Int.natAbs_tmod a b
  have h3 : a.natAbs % b.natAbs ≤ a.natAbs := Nat.mod_le _ _
  by_cases h0 : 0 ≤ a
  · have := Int.tmod_nonneg b h0; omega
  · have := Int.tmod_nonneg b (a := -a) (by omega)
    rw [Int.neg_tmod] at this; omega

set_option maxRecDepth 100000 in
set_option maxHeartbeats 3200000 in
theorem whole_c (op a b : Int) (w : World) (ha : I32 a) (hb : I32 b) (hop : op = 10 ∨ op = 11 ∨ op = 12 ∨ op = 13 ∨ op = 14 ∨ op = 15 ∨ op = 16 ∨ op = 20 ∨ op = 21 ∨ op = 22 ∨ op = 23) :
    Calls Tryd.prog 32 #[.int .i64 op, .int .i64 a, .int .i64 b] w fun e w' => e = .returned (.int .i64 (wholeV op a b)) ∧ w' = w := by
  have hmr := mul_rng ha hb
  have hdr := rem_mul_rng (b := b) ha
  have htr := tdiv_rng a b (by have := ha.out; omega)
  have hpr := mul_pow_rng (b % 32).toNat ha (by omega)
  have HQ := Lib.hid (fun w => refquot_c a b w (by have := ha.out; omega))
  have HF1 := Lib.hid (fun w => floor_c (a * b) 65536 w (by omega) (by omega))
  have HP := Lib.hid (fun w => power_c (b % 32).toNat w (by omega))
  have HF2 := Lib.hid (fun w => floor_c a (2 ^ (b % 32).toNat) w (by have := ha.out; omega) (pow2_pos _))
  have HB := Lib.hid (fun w (h : b ≠ 0) => below_c (65536 * a) b w (by have := ha.out; omega) (by have := hb.out; omega) h)
  obtain ⟨a1, a2⟩ := ha
  obtain ⟨b1, b2⟩ := hb
  have e32 : b.tmod 32 = if 0 ≤ b then b % 32 else -(-b % 32) := by
    split
    · exact Int.tmod_eq_emod_of_nonneg (by omega)
    · have h := Int.neg_tmod (a := -b) (b := 32)
      rw [Int.neg_neg] at h
      rw [h, Int.tmod_eq_emod_of_nonneg (a := -b) (by omega)]
  obtain ⟨t, hT⟩ : ∃ t, b.tmod 32 = t := ⟨_, rfl⟩
  have ht1 : -32 < t := by rw [← hT, e32]; split <;> omega
  have ht2 : t < 32 := by rw [← hT, e32]; split <;> omega
  have hS : (t + 32) % 32 = ((b % 32).toNat : Int) := by rw [← hT, e32]; split <;> omega
  have H13 : wholeV 13 a b = a.tdiv b := by unfold wholeV; simp only [Int.reduceEq, reduceIte]
  have hsh : ∃ s : Nat, s = (b % 32).toNat ∧ s ≤ 31 := ⟨_, rfl, by omega⟩
  obtain ⟨s, hs, hs31⟩ := hsh
  rw [← hs] at hS hpr HP HF2
  have hw1 : wrap64 (a * b) = a * b := IntWalk.wrap64_in _ (by omega)
  have hw2 : wrap64 (b * a.tdiv b) = b * a.tdiv b := IntWalk.wrap64_in _ (by omega)
  have hw3 : wrap64 (a * 2 ^ s) = a * 2 ^ s := IntWalk.wrap64_in _ (by omega)
  have E12 := Lib.hid (show a * b = wholeV 12 a b by unfold wholeV; simp only [Int.reduceEq, reduceIte])
  have E13 := Lib.hid (show a.tdiv b = wholeV 13 a b by unfold wholeV; simp only [Int.reduceEq, reduceIte])
  have E14 := Lib.hid (show wrap64 (a - b * a.tdiv b) = wholeV 14 a b by unfold wholeV; simp only [Int.reduceEq, reduceIte]; exact IntWalk.wrap64_in _ (by omega))
  have E15 := Lib.hid (show a * b / 65536 = wholeV 15 a b by unfold wholeV; simp only [Int.reduceEq, reduceIte])
  have E20 := Lib.hid (show a * 2 ^ s = wholeV 20 a b by unfold wholeV; simp only [Int.reduceEq, reduceIte]; rw [hs])
  have E21 := Lib.hid (show a / 2 ^ s = wholeV 21 a b by unfold wholeV; simp only [Int.reduceEq, reduceIte]; rw [hs])
  have HS := Lib.hid hs
  clear e32 hmr hdr htr hpr hs
  rcases hop with rfl | rfl | rfl | rfl | rfl | rfl | rfl | rfl | rfl | rfl | rfl
  · go_enter Tryd.func32, Tryd.ntmps32
    go_wp2_with (first | (go_at_call 46; (with_reducible refine (HQ.out _).mono ?_); rintro e w' ⟨rfl, hw⟩; subst hw) | (go_at_call 27; (with_reducible refine (HF1.out _).mono ?_); rintro e w' ⟨rfl, hw⟩; subst hw) | (go_at_call 27; (with_reducible refine (HF2.out _).mono ?_); rintro e w' ⟨rfl, hw⟩; subst hw) | (go_at_call 45; (with_reducible refine (HP.out _).mono ?_); rintro e w' ⟨rfl, hw⟩; subst hw))
    go_ret
    exact ⟨rfl, rfl⟩
  · go_enter Tryd.func32, Tryd.ntmps32
    go_wp2_with (first | (go_at_call 46; (with_reducible refine (HQ.out _).mono ?_); rintro e w' ⟨rfl, hw⟩; subst hw) | (go_at_call 27; (with_reducible refine (HF1.out _).mono ?_); rintro e w' ⟨rfl, hw⟩; subst hw) | (go_at_call 27; (with_reducible refine (HF2.out _).mono ?_); rintro e w' ⟨rfl, hw⟩; subst hw) | (go_at_call 45; (with_reducible refine (HP.out _).mono ?_); rintro e w' ⟨rfl, hw⟩; subst hw))
    go_ret
    exact ⟨rfl, rfl⟩
  · go_enter Tryd.func32, Tryd.ntmps32
    go_wp2_with (first | (go_at_call 46; (with_reducible refine (HQ.out _).mono ?_); rintro e w' ⟨rfl, hw⟩; subst hw) | (go_at_call 27; (with_reducible refine (HF1.out _).mono ?_); rintro e w' ⟨rfl, hw⟩; subst hw) | (go_at_call 27; (with_reducible refine (HF2.out _).mono ?_); rintro e w' ⟨rfl, hw⟩; subst hw) | (go_at_call 45; (with_reducible refine (HP.out _).mono ?_); rintro e w' ⟨rfl, hw⟩; subst hw))
    go_ret
    exact ⟨ret_i64 (hw1.trans E12.out), rfl⟩
  · go_enter Tryd.func32, Tryd.ntmps32
    go_wp2_with (first | (go_at_call 46; (with_reducible refine (HQ.out _).mono ?_); rintro e w' ⟨rfl, hw⟩; subst hw) | (go_at_call 27; (with_reducible refine (HF1.out _).mono ?_); rintro e w' ⟨rfl, hw⟩; subst hw) | (go_at_call 27; (with_reducible refine (HF2.out _).mono ?_); rintro e w' ⟨rfl, hw⟩; subst hw) | (go_at_call 45; (with_reducible refine (HP.out _).mono ?_); rintro e w' ⟨rfl, hw⟩; subst hw))
    go_ret
    exact ⟨ret_i64 E13.out, rfl⟩
  · go_enter Tryd.func32, Tryd.ntmps32
    go_wp2_with (first | (go_at_call 46; (with_reducible refine (HQ.out _).mono ?_); rintro e w' ⟨rfl, hw⟩; subst hw) | (go_at_call 27; (with_reducible refine (HF1.out _).mono ?_); rintro e w' ⟨rfl, hw⟩; subst hw) | (go_at_call 27; (with_reducible refine (HF2.out _).mono ?_); rintro e w' ⟨rfl, hw⟩; subst hw) | (go_at_call 45; (with_reducible refine (HP.out _).mono ?_); rintro e w' ⟨rfl, hw⟩; subst hw))
    go_ret
    exact ⟨ret_i64 E14.out, rfl⟩
  · go_enter Tryd.func32, Tryd.ntmps32
    go_wp2_with (first | (go_at_call 46; (with_reducible refine (HQ.out _).mono ?_); rintro e w' ⟨rfl, hw⟩; subst hw) | (go_at_call 27; (with_reducible refine (HF1.out _).mono ?_); rintro e w' ⟨rfl, hw⟩; subst hw) | (go_at_call 27; (with_reducible refine (HF2.out _).mono ?_); rintro e w' ⟨rfl, hw⟩; subst hw) | (go_at_call 45; (with_reducible refine (HP.out _).mono ?_); rintro e w' ⟨rfl, hw⟩; subst hw))
    go_ret
    exact ⟨ret_i64 E15.out, rfl⟩
  · by_cases hb0 : b = 0
    · subst hb0
      have E := Lib.hid (show (0 : Int) = wholeV 16 a 0 by unfold wholeV; simp only [Int.reduceEq, reduceIte])
      go_enter Tryd.func32, Tryd.ntmps32
      go_wp2
      go_ret
      exact ⟨ret_i64 E.out, rfl⟩
    · have E := Lib.hid (show (65536 * a).fdiv b = wholeV 16 a b by unfold wholeV; simp only [Int.reduceEq, reduceIte]; rw [if_neg hb0])
      have hb1 : (b == 0) = false := by simpa using hb0
      have HBB := Lib.hid (fun w => HB.out w hb0)
      clear HB hb0
      go_enter Tryd.func32, Tryd.ntmps32
      go_wp2_with (go_at_call 47; (with_reducible refine (HBB.out _).mono ?_); rintro e w' ⟨rfl, hw⟩; subst hw)
      go_ret
      exact ⟨ret_i64 E.out, rfl⟩
  · go_enter Tryd.func32, Tryd.ntmps32
    go_wp2_with (first | (go_at_call 46; (with_reducible refine (HQ.out _).mono ?_); rintro e w' ⟨rfl, hw⟩; subst hw) | (go_at_call 27; (with_reducible refine (HF1.out _).mono ?_); rintro e w' ⟨rfl, hw⟩; subst hw) | (go_at_call 27; (with_reducible refine (HF2.out _).mono ?_); rintro e w' ⟨rfl, hw⟩; subst hw) | (go_at_call 45; (with_reducible refine (HP.out _).mono ?_); rintro e w' ⟨rfl, hw⟩; subst hw))
    go_ret
    exact ⟨ret_i64 (hw3.trans E20.out), rfl⟩
  · go_enter Tryd.func32, Tryd.ntmps32
    go_wp2_with (first | (go_at_call 46; (with_reducible refine (HQ.out _).mono ?_); rintro e w' ⟨rfl, hw⟩; subst hw) | (go_at_call 27; (with_reducible refine (HF1.out _).mono ?_); rintro e w' ⟨rfl, hw⟩; subst hw) | (go_at_call 27; (with_reducible refine (HF2.out _).mono ?_); rintro e w' ⟨rfl, hw⟩; subst hw) | (go_at_call 45; (with_reducible refine (HP.out _).mono ?_); rintro e w' ⟨rfl, hw⟩; subst hw))
    go_ret
    exact ⟨ret_i64 E21.out, rfl⟩
  · go_enter Tryd.func32, Tryd.ntmps32
    go_wp2_with (first | (go_at_call 46; (with_reducible refine (HQ.out _).mono ?_); rintro e w' ⟨rfl, hw⟩; subst hw) | (go_at_call 27; (with_reducible refine (HF1.out _).mono ?_); rintro e w' ⟨rfl, hw⟩; subst hw) | (go_at_call 27; (with_reducible refine (HF2.out _).mono ?_); rintro e w' ⟨rfl, hw⟩; subst hw) | (go_at_call 45; (with_reducible refine (HP.out _).mono ?_); rintro e w' ⟨rfl, hw⟩; subst hw))
    go_ret
    exact ⟨rfl, rfl⟩
  · go_enter Tryd.func32, Tryd.ntmps32
    go_wp2_with (first | (go_at_call 46; (with_reducible refine (HQ.out _).mono ?_); rintro e w' ⟨rfl, hw⟩; subst hw) | (go_at_call 27; (with_reducible refine (HF1.out _).mono ?_); rintro e w' ⟨rfl, hw⟩; subst hw) | (go_at_call 27; (with_reducible refine (HF2.out _).mono ?_); rintro e w' ⟨rfl, hw⟩; subst hw) | (go_at_call 45; (with_reducible refine (HP.out _).mono ?_); rintro e w' ⟨rfl, hw⟩; subst hw))
    go_ret
    exact ⟨rfl, rfl⟩
end Go.Proofs.YtikkmcgbmiddaaaDoor
