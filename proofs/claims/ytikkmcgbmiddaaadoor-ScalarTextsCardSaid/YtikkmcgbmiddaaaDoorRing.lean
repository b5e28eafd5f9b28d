/-
  ScalarRing: for all a, b and c of 32 bits the law warpwrightlaw01.ScalarRing returns true and leaves its arguments as they were; the library's listed tables read as listed, tied to the program's text.
-/
import Derived.Test.YtikkmcgbmiddaaaDoorExam
namespace Go.Proofs.YtikkmcgbmiddaaaDoor
open Go.ChangeShapes Go.WideShapes Go.ChangeAt Go.RowKit

theorem wk (x : Int) : ∃ k, wrap32 x = x + 4294967296 * k := ⟨-((x + 2147483648) / 4294967296), by unfold wrap32; omega⟩
theorem wcong {x y : Int} (k : Int) (h : x = y + 4294967296 * k) : wrap32 x = wrap32 y := by subst h; unfold wrap32; omega
theorem win {x : Int} (h : I32 x) : wrap32 x = x := IntWalk.wrap32_in _ h
theorem ring_mul_assoc (a b c : Int) : wrap32 (wrap32 (a * b) * c) = wrap32 (a * wrap32 (b * c)) := by
  obtain ⟨k, hk⟩ := wk (a * b)
  obtain ⟨j, hj⟩ := wk (b * c)
  rw [hk, hj]
  refine wcong (k * c - a * j) ?_
  simp only [Int.add_mul, Int.mul_add, Int.mul_sub, Int.mul_assoc, Int.mul_left_comm a 4294967296 j]
  omega
theorem ring_distrib (a b c : Int) : wrap32 (wrap32 (a + b) * c) = wrap32 (wrap32 (a * c) + wrap32 (b * c)) := by
  obtain ⟨k, hk⟩ := wk (a + b)
  obtain ⟨i, hi⟩ := wk (a * c)
  obtain ⟨j, hj⟩ := wk (b * c)
  rw [hk, hi, hj]
  refine wcong (k * c - i - j) ?_
  simp only [Int.add_mul, Int.mul_sub, Int.mul_assoc]
  omega

set_option maxRecDepth 100000 in
set_option maxHeartbeats 3200000 in
theorem ring_walk (a b c : Int) (w : World) (ra : I32 a) (rb : I32 b) (rc : I32 c) (he : Env w) :
    Calls Tryd.prog 4 #[.int .i32 a, .int .i32 b, .int .i32 c] w fun e w' => e = .returned (.bool true) ∧ Run w w' := by
  have hr := Run.start he
  clear he
  have r0 : I32 0 := lit32 _ (by decide)
  have r1 : I32 1 := lit32 _ (by decide)
  have rs := binV_rng 10 ra rb
  have rp := binV_rng 12 ra rb
  have rbc := binV_rng 10 rb rc
  have rac := binV_rng 12 ra rc
  have rbc2 := binV_rng 12 rb rc
  have h1 : binV 10 b a = binV 10 a b := by show wrap32 (b + a) = wrap32 (a + b); rw [Int.add_comm]
  have h2 : binV 12 b a = binV 12 a b := by show wrap32 (b * a) = wrap32 (a * b); rw [Int.mul_comm]
  have h3 : binV 11 (binV 10 a b) b = a := by
    show wrap32 (wrap32 (a + b) - b) = a
    have := ra.out; unfold wrap32; omega
  have h4 : unV 1 a = binV 11 0 a := by show wrap32 (-a) = wrap32 (0 - a); rw [Int.zero_sub]
  have h5 : binV 10 (binV 10 a b) c = binV 10 a (binV 10 b c) := by
    show wrap32 (wrap32 (a + b) + c) = wrap32 (a + wrap32 (b + c)); unfold wrap32; omega
  have h6 : binV 12 (binV 12 a b) c = binV 12 a (binV 12 b c) := ring_mul_assoc a b c
  have h7 : binV 12 (binV 10 a b) c = binV 10 (binV 12 a c) (binV 12 b c) := ring_distrib a b c
  have h8 : binV 12 a 1 = a := by show wrap32 (a * 1) = a; rw [Int.mul_one]; exact win ra
  have h9 : binV 10 a 0 = a := by show wrap32 (a + 0) = a; rw [Int.add_zero]; exact win ra
  have f250 := fld25_0
  go_enter Tryd.func4, Tryd.ntmps4
  go_wp2_with (first | (go_at_call 11; (with_reducible refine (examples_c (by assumption)).mono ?_); rintro e w1 ⟨rfl, hr⟩) | (go_at_call 14; (with_reducible refine (bin_c _ _ _ (by assumption) (by assumption) (by assumption)).mono ?_); rintro e w1 ⟨rfl, hr⟩) | (go_at_call 12; (with_reducible refine (un_c _ _ (by assumption) (by assumption)).mono ?_); rintro e w1 ⟨rfl, hr⟩))
  go_outline
  go_ret
  exact ⟨rfl, by assumption⟩
end Go.Proofs.YtikkmcgbmiddaaaDoor
