/-
  Plain facts on the types of results: an operator whose types fit is one that there is; a truth value comes from truth values or a comparison.
-/
import Derived.Test.YtikkmcgbmiddaaaDoorTypes
namespace Go.Proofs.YtikkmcgbmiddaaaDoor
open Go.RowKit

theorem resE_true {c : Bool} (h : resE c = 0) : c = true := by cases c <;> simp_all [resE]
theorem unTE_in {k i : Int} (h : unTE k i = 0) : (1 ≤ k ∧ k ≤ 5) ∧ unIn k i = true ∧ unC k i = true := by
  unfold unTE at h
  split at h
  · rename_i hin
    have hin' := hin
    unfold unIn at hin
    simp only [Bool.and_eq_true, decide_eq_true_eq] at hin
    exact ⟨hin.1, hin', resE_true h⟩
  · omega
theorem unE_of {k i : Int} (h : unTE k i = 0) : unE k = 0 := by
  have := (unTE_in h).1
  unfold unE; rw [if_pos (by omega)]
theorem unT3 {k i : Int} (h : unTE k i = 0) (h3 : unTV k i = 3) : i = 3 := by
  obtain ⟨h1, h2, h4⟩ := unTE_in h
  unfold unTV at h3
  rw [if_pos h2, h4] at h3
  have : unR k i = 3 := h3
  unfold unR at this
  split at this
  · omega
  · split at this
    · omega
    · exact this
theorem binTE_in {k i j : Int} (h : binTE k i j = 0) : (10 ≤ k ∧ k ≤ 29) ∧ binIn k i j = true ∧ i = j ∧ binC k i = true := by
  unfold binTE at h
  split at h
  · rename_i hin
    have hin' := hin
    unfold binIn at hin
    simp only [Bool.and_eq_true, decide_eq_true_eq] at hin
    split at h
    · rename_i hq
      exact ⟨hin.1.1, hin', hq, resE_true h⟩
    · omega
  · omega
theorem binE_of {k i j : Int} (h : binTE k i j = 0) : binE k = 0 := by
  have := (binTE_in h).1
  unfold binE; rw [if_pos (by omega)]
theorem tr01 (p : Prop) [Decidable p] : tr p = 0 ∨ tr p = 1 := by unfold tr; split <;> simp
theorem bin01 {k i j a b : Int} (h : binTE k i j = 0) (h3 : binTV k i j = 3) (ha : i = 3 → a = 0 ∨ a = 1) (hb : j = 3 → b = 0 ∨ b = 1) : binV k a b = 0 ∨ binV k a b = 1 := by
  obtain ⟨hk, hin, hq, hc⟩ := binTE_in h
  subst hq
  unfold binTV at h3
  rw [if_pos ⟨hin, rfl⟩, hc] at h3
  have h3' : binR k i = 3 := h3
  unfold binR at h3'
  by_cases h24 : 24 ≤ k
  · have : k = 24 ∨ k = 25 ∨ k = 26 ∨ k = 27 ∨ k = 28 ∨ k = 29 := by omega
    rcases this with rfl | rfl | rfl | rfl | rfl | rfl <;> exact tr01 _
  · rw [if_neg h24] at h3'
    subst h3'
    have hk2 : k = 17 ∨ k = 18 ∨ k = 19 := by
      have : k = 10 ∨ k = 11 ∨ k = 12 ∨ k = 13 ∨ k = 14 ∨ k = 15 ∨ k = 16 ∨ k = 17 ∨ k = 18 ∨ k = 19 ∨ k = 20 ∨ k = 21 ∨ k = 22 ∨ k = 23 := by omega
      rcases this with rfl | rfl | rfl | rfl | rfl | rfl | rfl | rfl | rfl | rfl | rfl | rfl | rfl | rfl <;> first | omega | (exact absurd hc (by decide))
    rcases ha rfl with rfl | rfl <;> rcases hb rfl with rfl | rfl <;> rcases hk2 with rfl | rfl | rfl <;> decide +kernel
theorem and1 (v : Int) : bits BinOp.and IntKind.i32 v 1 = 0 ∨ bits BinOp.and IntKind.i32 v 1 = 1 := by
  have h1 : (BitVec.ofInt 32 1).toNat = 2 ^ 1 - 1 := by decide
  have key : (BitVec.ofInt 32 v &&& BitVec.ofInt 32 1).toNat = (v % ((2 ^ 32 : Nat) : Int)).toNat % 2 ^ 1 := by
    rw [BitVec.toNat_and, BitVec.toNat_ofInt, h1, Nat.and_two_pow_sub_one_eq_mod]
  have e : bits BinOp.and IntKind.i32 v 1 = IntKind.i32.wrap ((BitVec.ofInt 32 v &&& BitVec.ofInt 32 1).toNat : Nat) := rfl
  rw [e, key, IntWalk.i32_in _ (by omega)]
  omega
theorem unTE_vals (k i : Int) : unTE k i = 0 ∨ unTE k i = 1 ∨ unTE k i = 31 := by
  unfold unTE; split
  · cases unC k i
    · right; right; rfl
    · left; rfl
  · right; left; rfl
theorem resV_vals {t : Int} (c : Bool) (h : 1 ≤ t ∧ t ≤ 3) : resV t c = 0 ∨ resV t c = 1 ∨ resV t c = 2 ∨ resV t c = 3 := by
  cases c
  · left; rfl
  · show t = 0 ∨ t = 1 ∨ t = 2 ∨ t = 3; omega
theorem unTV_vals (k i : Int) : unTV k i = 0 ∨ unTV k i = 1 ∨ unTV k i = 2 ∨ unTV k i = 3 := by
  unfold unTV; split
  · rename_i h
    unfold unIn isT at h
    simp only [Bool.and_eq_true, decide_eq_true_eq] at h
    refine resV_vals _ ?_
    unfold unR
    split
    · omega
    · split <;> omega
  · left; rfl
theorem binTE_vals (k i j : Int) : binTE k i j = 0 ∨ binTE k i j = 1 ∨ binTE k i j = 31 := by
  unfold binTE; split
  · split
    · cases binC k i
      · right; right; rfl
      · left; rfl
    · right; right; rfl
  · right; left; rfl
theorem binTV_vals (k i j : Int) : binTV k i j = 0 ∨ binTV k i j = 1 ∨ binTV k i j = 2 ∨ binTV k i j = 3 := by
  unfold binTV; split
  · rename_i h
    obtain ⟨h, -⟩ := h
    unfold binIn isT at h
    simp only [Bool.and_eq_true, decide_eq_true_eq] at h
    refine resV_vals _ ?_
    unfold binR
    split <;> omega
  · left; rfl
theorem un_cases (k i : Int) : unTE k i = 1 ∨ unTE k i = 31 ∨ (unTE k i = 0 ∧ unE k = 0 ∧ unTV k i = 0) ∨ (unTE k i = 0 ∧ unE k = 0 ∧ unTV k i = 1) ∨ (unTE k i = 0 ∧ unE k = 0 ∧ unTV k i = 2) ∨ (unTE k i = 0 ∧ unE k = 0 ∧ unTV k i = 3 ∧ (i != 3) = false) := by
  rcases unTE_vals k i with h | h | h
  · have hU := unE_of h
    rcases unTV_vals k i with g | g | g | g
    · exact .inr (.inr (.inl ⟨h, hU, g⟩))
    · exact .inr (.inr (.inr (.inl ⟨h, hU, g⟩)))
    · exact .inr (.inr (.inr (.inr (.inl ⟨h, hU, g⟩))))
    · exact .inr (.inr (.inr (.inr (.inr ⟨h, hU, g, by simpa using unT3 h g⟩))))
  · exact .inl h
  · exact .inr (.inl h)
theorem bin_cases {k i j a b : Int} (ha : i = 3 → a = 0 ∨ a = 1) (hb : j = 3 → b = 0 ∨ b = 1) : binTE k i j = 1 ∨ binTE k i j = 31 ∨ (binTE k i j = 0 ∧ binE k = 0 ∧ binTV k i j = 0) ∨ (binTE k i j = 0 ∧ binE k = 0 ∧ binTV k i j = 1) ∨ (binTE k i j = 0 ∧ binE k = 0 ∧ binTV k i j = 2) ∨ (binTE k i j = 0 ∧ binE k = 0 ∧ binTV k i j = 3 ∧ binV k a b = 0) ∨ (binTE k i j = 0 ∧ binE k = 0 ∧ binTV k i j = 3 ∧ binV k a b = 1) := by
  rcases binTE_vals k i j with h | h | h
  · have hU := binE_of h
    rcases binTV_vals k i j with g | g | g | g
    · exact .inr (.inr (.inl ⟨h, hU, g⟩))
    · exact .inr (.inr (.inr (.inl ⟨h, hU, g⟩)))
    · exact .inr (.inr (.inr (.inr (.inl ⟨h, hU, g⟩))))
    · rcases bin01 h g ha hb with v | v
      · exact .inr (.inr (.inr (.inr (.inr (.inl ⟨h, hU, g, v⟩)))))
      · exact .inr (.inr (.inr (.inr (.inr (.inr ⟨h, hU, g, v⟩)))))
  · exact .inl h
  · exact .inr (.inl h)
end Go.Proofs.YtikkmcgbmiddaaaDoor
