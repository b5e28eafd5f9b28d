/-
  Subgroup operations: how ballots, any, all, scans and sums hang together: plain mathematics.
-/
import Derived.Test.YtjknmancnfeifaaColM
namespace Go.Proofs.Ytjknmancnfeifaa
open Go.ChangeShapes Go.WideShapes Go.ChangeAt Go.RowKit

theorem balN_top (f : Nat → Int) (k : Nat) : balN f k = 2 ^ k - 1 ↔ cntV f k = k := by
  induction k with
  | zero => simp [balN, cntV]
  | succ k ih =>
    rw [balN_succ, cntV_succ]
    have h1 := balN_lt f k
    have h2 := cntV_le f k
    have h3 : 0 < 2 ^ k := Nat.two_pow_pos k
    rw [Nat.pow_succ]
    by_cases h : f k = 0
    · rw [if_pos h, if_pos h]; omega
    · rw [if_neg h, if_neg h]; omega
theorem balN_zero (f : Nat → Int) (k : Nat) : balN f k = 0 ↔ cntV f k = 0 := by
  induction k with
  | zero => simp [balN, cntV]
  | succ k ih =>
    rw [balN_succ, cntV_succ]
    have h3 : 0 < 2 ^ k := Nat.two_pow_pos k
    by_cases h : f k = 0
    · rw [if_pos h, if_pos h]; exact ih
    · rw [if_neg h, if_neg h]; omega
theorem pow32 {n : Nat} (h : n ≤ 32) : 2 ^ n ≤ 4294967296 := by
  have := Nat.pow_le_pow_right (show 0 < 2 by omega) h
  simpa using this
theorem wrap_inj {a b : Nat} (ha : a < 4294967296) (hb : b < 4294967296) : wrap32 a = wrap32 b ↔ a = b := by unfold wrap32; omega
theorem bal_any {f : Nat → Int} {n : Nat} (hn : n ≤ 32) : (stV 1 f n != 0) = decide (0 < cntV f n) := by
  rw [st1_eq, Bool.eq_iff_iff]
  have h1 := balN_lt f n
  have h2 := pow32 hn
  have h3 := balN_zero f n
  have h4 := wrap_inj (a := balN f n) (b := 0) (by omega) (by omega)
  have h5 : wrap32 ((0 : Nat) : Int) = 0 := by decide +kernel
  rw [h5] at h4
  simp only [bne_iff_ne, ne_eq, decide_eq_true_eq, h4, h3]
  omega
theorem bal_all {f : Nat → Int} {n : Nat} (hn : n ≤ 32) : (stV 1 f n == wrap32 ((2 ^ n - 1 : Nat) : Int)) = (cntV f n == n) := by
  rw [st1_eq, Bool.eq_iff_iff]
  have h1 := balN_lt f n
  have h2 := pow32 hn
  have h3 := balN_top f n
  have h4 := wrap_inj (a := balN f n) (b := 2 ^ n - 1) (by omega) (by omega)
  simp only [beq_iff_eq, h4, h3]
/-- Bit i of the number. -/
theorem balN_bit (f : Nat → Int) (i : Nat) : ∀ n, i < n → (balN f n / 2 ^ i % 2 = 1 ↔ f i ≠ 0) := by
  intro n
  induction n with
  | zero => omega
  | succ k ih =>
    intro hi
    rw [balN_succ]
    have hp : 0 < 2 ^ i := Nat.two_pow_pos i
    by_cases hik : i = k
    · subst hik
      have h1 := balN_lt f i
      by_cases h : f i = 0
      · rw [if_pos h, Nat.div_eq_of_lt h1]; simp [h]
      · rw [if_neg h, Nat.add_div_right _ hp, Nat.div_eq_of_lt h1]; simp [h]
    · have hlt : i < k := by omega
      by_cases h : f k = 0
      · rw [if_pos h]; exact ih hlt
      · rw [if_neg h]
        obtain ⟨e, rfl⟩ : ∃ e, k = i + 1 + e := ⟨k - (i + 1), by omega⟩
        have : 2 ^ (i + 1 + e) = 2 ^ i * (2 * 2 ^ e) := by rw [Nat.pow_add, Nat.pow_succ, Nat.mul_assoc]
        rw [this, Nat.add_mul_div_left _ _ hp, Nat.add_mul_mod_self_left]
        exact ih hlt
theorem and_one (y : Int) : bits BinOp.and IntKind.i32 y 1 = y % 2 := by
  rw [and_bv]
  have h1 : B32 1 = 1#32 := rfl
  rw [h1, BitVec.toInt_eq_toNat_cond]
  have h2 : (B32 y &&& 1#32).toNat = (y % 2).toNat := by
    rw [BitVec.toNat_and]
    have : (B32 y).toNat = (y % 4294967296).toNat := by unfold B32; rw [BitVec.toNat_ofInt]; rfl
    rw [this]
    show (y % 4294967296).toNat &&& 1 = _
    rw [Nat.and_one_is_mod]
    omega
  rw [h2]
  split <;> omega
theorem bal_bit {f : Nat → Int} {n i : Nat} (hn : n ≤ 32) (hi : i < n) : (bits BinOp.and IntKind.i32 (stV 1 f n / 2 ^ i) 1 != 0) = (f i != 0) := by
  rw [and_one, st1_eq, Bool.eq_iff_iff]
  have h1 := balN_bit f i n hi
  have hN := balN_lt f n
  have h32 := pow32 hn
  have key : wrap32 (balN f n : Int) / 2 ^ i % 2 = ((balN f n / 2 ^ i % 2 : Nat) : Int) := by
    have hw : wrap32 (balN f n : Int) = (balN f n : Int) ∨ wrap32 (balN f n : Int) = (balN f n : Int) - 4294967296 := by unfold wrap32; omega
    have hcast : ((balN f n : Int) / 2 ^ i % 2) = ((balN f n / 2 ^ i % 2 : Nat) : Int) := by push_cast; rfl
    rcases hw with hw | hw
    · rw [hw, hcast]
    · rw [hw, ← hcast]
      have hpi : (2 : Int) ^ i ≠ 0 := by have := Int.pow_pos (n := 2) (m := i) (by omega); omega
      obtain ⟨e, he⟩ : ∃ e : Nat, 32 = i + 1 + e := ⟨32 - (i + 1), by omega⟩
      have h4 : (4294967296 : Int) = 2 ^ i * (2 * 2 ^ e) := by
        have : (4294967296 : Int) = 2 ^ (i + 1 + e) := by rw [← he]; rfl
        rw [this, Int.pow_add, Int.pow_succ, Int.mul_assoc]
      have h5 : (balN f n : Int) - 4294967296 = (balN f n : Int) + 2 ^ i * (-(2 * 2 ^ e)) := by rw [h4, Int.mul_neg]; omega
      rw [h5, Int.add_mul_ediv_left _ _ hpi]
      omega
  rw [key]
  have h2 : (balN f n / 2 ^ i % 2 = 1) ↔ ¬ f i = 0 := h1
  rw [bne_iff_ne, bne_iff_ne]
  show ¬ _ ↔ ¬ _
  rw [← h2]
  omega
theorem scan_step {f : Nat → Int} (hf : ∀ j, I32 (f j)) (i : Nat) : wrap32 (sumV f (i + 1) - sumV f i) = f i := by
  show wrap32 (wrap32 (sumV f i + f i) - sumV f i) = f i
  have := (hf i).out
  unfold wrap32
  omega
end Go.Proofs.Ytjknmancnfeifaa
