/-
  The walk of ScalarBits: for all a and b of 32 bits and every count the law returns true.
-/
import Derived.Test.YtikkmcgbmiddaaaDoorLaws
namespace Go.Proofs.YtikkmcgbmiddaaaDoor
open Go.ChangeShapes Go.WideShapes Go.ChangeAt Go.RowKit
set_option linter.unusedVariables false

theorem b20 (a b : Int) : binV 20 a b = wrap32 (a * 2 ^ (b % 32).toNat) := by unfold binV; simp only [Int.reduceEq, reduceIte]
theorem b21 (a b : Int) : binV 21 a b = a / 2 ^ (b % 32).toNat := by unfold binV; simp only [Int.reduceEq, reduceIte]
theorem b12 (a b : Int) : binV 12 a b = wrap32 (a * b) := by unfold binV; simp only [Int.reduceEq, reduceIte]
theorem shl_mul (a s : Int) : binV 20 a s = binV 12 a (binV 20 1 s) := by
  rw [b20, b20, b12]
  obtain ⟨k, hk⟩ := wk (1 * 2 ^ (s % 32).toNat)
  rw [hk]
  refine wcong (-(a * k)) ?_
  simp only [Int.mul_add, Int.one_mul, Int.mul_neg, Int.mul_left_comm a 4294967296 k]
  omega
theorem shl_32 (a s : Int) : binV 20 a (s + 32) = binV 20 a s := by
  rw [b20, b20, show (s + 32) % 32 = s % 32 by omega]
theorem shr_64 (a s : Int) : binV 21 a (s - 64) = binV 21 a s := by
  rw [b21, b21, show (s - 64) % 32 = s % 32 by omega]
theorem pow_le31 (k : Nat) (h : k ≤ 31) : (2 : Int) ^ k ≤ 2147483648 := by
  have : (2 : Nat) ^ k ≤ 2 ^ 31 := Nat.pow_le_pow_right (by omega) h
  have e : ((2 ^ k : Nat) : Int) = (2 : Int) ^ k := by simp
  omega
/-- The quotient by a power of 2, rounded down, lies below the exact one by less than 1. -/
theorem shr_floor (a s : Int) (h0 : 0 ≤ s) (h1 : s ≤ 31) : binV 21 a s * 2 ^ s.toNat ≤ a ∧ a < (binV 21 a s + 1) * 2 ^ s.toNat := by
  have e : binV 21 a s = a / 2 ^ s.toNat := by
    rw [b21, show s % 32 = s by omega]
  rw [e]
  have hp := pow2_pos s.toNat
  exact ⟨Int.ediv_mul_le a (by omega), Int.lt_ediv_add_one_mul_self a hp⟩

set_option maxRecDepth 100000 in
set_option maxHeartbeats 3200000 in
theorem bits_walk (a b n : Int) (w : World) (ra : I32 a) (rb : I32 b) (hn0 : 0 ≤ n) (hn1 : n ≤ 255) (he : Env w) :
    Calls Tryd.prog 7 #[.int .i32 a, .int .i32 b, .int .u8 n] w fun e w' => e = .returned (.bool true) ∧ Run w w' := by
  have hr := Run.start he
  clear he
  have f250 := fld25_0
  obtain ⟨s, hs⟩ : ∃ s, n % 32 = s := ⟨_, rfl⟩
  have hs0 : 0 ≤ s := by omega
  have hs1 : s ≤ 31 := by omega
  have rs : I32 s := ⟨by omega, by omega⟩
  have rs32 : I32 (s + 32) := ⟨by omega, by omega⟩
  have rs64 : I32 (s - 64) := ⟨by omega, by omega⟩
  have r1 : I32 1 := lit32 _ (by decide)
  have rx := binV_rng 19 ra rb
  have rand := binV_rng 17 ra rb
  have ror := binV_rng 18 ra rb
  have rna := unV_rng 2 ra
  have rnb := unV_rng 2 rb
  have rpw := binV_rng 20 r1 rs
  have h1 := bit1 a b
  have h2 := bit2 a b ra
  have h3 := bit3 a b
  have h4 := bit4 a b
  have h5 := shl_32 a s
  have h6 := shr_64 a s
  have h7 := shl_mul a s
  have hfl := shr_floor a s hs0 hs1
  have rd := binV_rng 21 ra rs
  obtain ⟨d, hd⟩ : ∃ d, binV 21 a s = d := ⟨_, rfl⟩
  rw [hd] at hfl rd h6
  have hp1 := pow2_pos s.toNat
  have hp2 := pow_le31 s.toNat (by omega)
  obtain ⟨p, hp⟩ : ∃ p, (2 : Int) ^ s.toNat = p := ⟨_, rfl⟩
  rw [hp] at hfl hp1 hp2
  obtain ⟨k1, k2⟩ := hfl
  obtain ⟨k3, k4⟩ := rd.out
  obtain ⟨k5, k6⟩ := ra.out
  have kx : (d + 1) * p = d * p + p := by rw [Int.add_mul, Int.one_mul]
  have hw1 : wrap64 (d * p) = d * p := IntWalk.wrap64_in _ (by omega)
  have hw2 : wrap64 ((d + 1) * p) = (d + 1) * p := IntWalk.wrap64_in _ (by omega)
  clear kx
  go_enter Tryd.func7, Tryd.ntmps7
  go_wp2_with (first | (go_at_call 11; (with_reducible refine (examples_c (by assumption)).mono ?_); rintro e w1 ⟨rfl, hr⟩) | (go_at_call 14; (with_reducible refine (bin_c _ _ _ (by assumption) (by assumption) (by assumption)).mono ?_); rintro e w1 ⟨rfl, hr⟩) | (go_at_call 12; (with_reducible refine (un_c _ _ (by assumption) (by assumption)).mono ?_); rintro e w1 ⟨rfl, hr⟩))
  go_ret
  exact ⟨rfl, by assumption⟩
end Go.Proofs.YtikkmcgbmiddaaaDoor
