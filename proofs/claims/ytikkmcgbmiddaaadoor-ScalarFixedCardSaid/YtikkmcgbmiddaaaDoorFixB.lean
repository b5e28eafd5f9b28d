/-
  The walk of ScalarFixed where the exact product is below the range of results.
-/
import Derived.Test.YtikkmcgbmiddaaaDoorFixL
namespace Go.Proofs.YtikkmcgbmiddaaaDoor
open Go.ChangeShapes Go.WideShapes Go.ChangeAt Go.RowKit
set_option linter.unusedVariables false

set_option maxRecDepth 100000 in
set_option maxHeartbeats 3200000 in
theorem fix_lo_pin (a b n : Int) (w : World) (ra : I32 a) (rb : I32 b) (hn0 : -32768 ≤ n) (hn1 : n ≤ 32767) (he : Env w) (hb : 0 < b) (hs1 : 65536 * a < b * 2147483647) (hs2 : -(b) * 2147483647 < 65536 * a) (hf1 : a * b < -140737488355328) :
    Calls Tryd.prog 6 #[.int .i32 a, .int .i32 b, .int .i16 n] w fun e w' => e = .returned (.bool true) ∧ Run w w' := by
  have hr := Run.start he
  clear he
  have f250 := fld25_0
  have hmr := mul_rng ra rb
  have rp := binV_rng 15 ra rb
  have rq := binV_rng 16 ra rb
  have ru := unV_rng 5 ra
  have rn : I32 n := ⟨by omega, by omega⟩
  have ro : I32 65536 := lit32 _ (by decide)
  have rnf := unV_rng 4 rn
  have h4 : unV 4 n = 65536 * n := by show wrap32 (n * 65536) = _; rw [IntWalk.wrap32_in _ (by omega)]; omega
  rw [h4] at rnf
  have h5 : unV 5 (65536 * n) = n := by show 65536 * n / 65536 = n; omega
  have h6 : binV 15 a 65536 = a := by rw [b15, Int.mul_ediv_cancel _ (by decide)]; exact win ra
  have h7 : binV 16 a 65536 = a := divf_one ra
  have hu := int_floor a
  have hd := divf_pos a b hb hs1 (by omega)
  obtain ⟨e, hE⟩ : ∃ e, a * b = e := ⟨_, rfl⟩
  obtain ⟨p, hp⟩ : ∃ p, binV 15 a b = p := ⟨_, rfl⟩
  obtain ⟨q, hq⟩ : ∃ q, binV 16 a b = q := ⟨_, rfl⟩
  obtain ⟨u, hu5⟩ : ∃ u, unV 5 a = u := ⟨_, rfl⟩
  rw [hE] at hmr hf1
  rw [hp] at rp
  rw [hu5] at hu ru
  obtain ⟨u1, u2⟩ := hu
  obtain ⟨k1, k2⟩ := hmr
  obtain ⟨k3, k4⟩ := ra.out
  obtain ⟨k5, k6⟩ := rb.out
  obtain ⟨k7, k8⟩ := rp.out
  obtain ⟨k9, k10⟩ := ru.out
  rw [hq] at hd rq
  obtain ⟨k11, k12⟩ := rq.out
  obtain ⟨t, ht⟩ : ∃ t, q * b = t := ⟨_, rfl⟩
  rw [ht] at hd
  obtain ⟨d1, d2⟩ := hd
  have z1 : (b != 0) = true := by simp; omega
  have z2 : (b == 0) = false := by simp; omega
  have hs3 : -(b * 2147483647) < 65536 * a := by omega
  go_enter Tryd.func6, Tryd.ntmps6
  go_wp2_with (first | (go_at_call 11; (with_reducible refine (examples_c (by assumption)).mono ?_); rintro e w1 ⟨rfl, hr⟩) | (go_at_call 14; (with_reducible refine (bin_c _ _ _ (by assumption) (by assumption) (by assumption)).mono ?_); rintro e w1 ⟨rfl, hr⟩) | (go_at_call 12; (with_reducible refine (un_c _ _ (by assumption) (by assumption)).mono ?_); rintro e w1 ⟨rfl, hr⟩))
  go_ret
  exact ⟨rfl, by assumption⟩

set_option maxRecDepth 100000 in
set_option maxHeartbeats 3200000 in
theorem fix_lo_pge (a b n : Int) (w : World) (ra : I32 a) (rb : I32 b) (hn0 : -32768 ≤ n) (hn1 : n ≤ 32767) (he : Env w) (hb : 0 < b) (hs1 : b * 2147483647 ≤ 65536 * a) (hf1 : a * b < -140737488355328) :
    Calls Tryd.prog 6 #[.int .i32 a, .int .i32 b, .int .i16 n] w fun e w' => e = .returned (.bool true) ∧ Run w w' := by
  have hr := Run.start he
  clear he
  have f250 := fld25_0
  have hmr := mul_rng ra rb
  have rp := binV_rng 15 ra rb
  have rq := binV_rng 16 ra rb
  have ru := unV_rng 5 ra
  have rn : I32 n := ⟨by omega, by omega⟩
  have ro : I32 65536 := lit32 _ (by decide)
  have rnf := unV_rng 4 rn
  have h4 : unV 4 n = 65536 * n := by show wrap32 (n * 65536) = _; rw [IntWalk.wrap32_in _ (by omega)]; omega
  rw [h4] at rnf
  have h5 : unV 5 (65536 * n) = n := by show 65536 * n / 65536 = n; omega
  have h6 : binV 15 a 65536 = a := by rw [b15, Int.mul_ediv_cancel _ (by decide)]; exact win ra
  have h7 : binV 16 a 65536 = a := divf_one ra
  have hu := int_floor a
  obtain ⟨e, hE⟩ : ∃ e, a * b = e := ⟨_, rfl⟩
  obtain ⟨p, hp⟩ : ∃ p, binV 15 a b = p := ⟨_, rfl⟩
  obtain ⟨q, hq⟩ : ∃ q, binV 16 a b = q := ⟨_, rfl⟩
  obtain ⟨u, hu5⟩ : ∃ u, unV 5 a = u := ⟨_, rfl⟩
  rw [hE] at hmr hf1
  rw [hp] at rp
  rw [hu5] at hu ru
  obtain ⟨u1, u2⟩ := hu
  obtain ⟨k1, k2⟩ := hmr
  obtain ⟨k3, k4⟩ := ra.out
  obtain ⟨k5, k6⟩ := rb.out
  obtain ⟨k7, k8⟩ := rp.out
  obtain ⟨k9, k10⟩ := ru.out
  rw [hq] at rq
  obtain ⟨k11, k12⟩ := rq.out
  have z1 : (b != 0) = true := by simp; omega
  have z2 : (b == 0) = false := by simp; omega
  go_enter Tryd.func6, Tryd.ntmps6
  go_wp2_with (first | (go_at_call 11; (with_reducible refine (examples_c (by assumption)).mono ?_); rintro e w1 ⟨rfl, hr⟩) | (go_at_call 14; (with_reducible refine (bin_c _ _ _ (by assumption) (by assumption) (by assumption)).mono ?_); rintro e w1 ⟨rfl, hr⟩) | (go_at_call 12; (with_reducible refine (un_c _ _ (by assumption) (by assumption)).mono ?_); rintro e w1 ⟨rfl, hr⟩))
  go_ret
  exact ⟨rfl, by assumption⟩

set_option maxRecDepth 100000 in
set_option maxHeartbeats 3200000 in
theorem fix_lo_ple (a b n : Int) (w : World) (ra : I32 a) (rb : I32 b) (hn0 : -32768 ≤ n) (hn1 : n ≤ 32767) (he : Env w) (hb : 0 < b) (hs1 : 65536 * a ≤ -(b) * 2147483647) (hf1 : a * b < -140737488355328) :
    Calls Tryd.prog 6 #[.int .i32 a, .int .i32 b, .int .i16 n] w fun e w' => e = .returned (.bool true) ∧ Run w w' := by
  have hr := Run.start he
  clear he
  have f250 := fld25_0
  have hmr := mul_rng ra rb
  have rp := binV_rng 15 ra rb
  have rq := binV_rng 16 ra rb
  have ru := unV_rng 5 ra
  have rn : I32 n := ⟨by omega, by omega⟩
  have ro : I32 65536 := lit32 _ (by decide)
  have rnf := unV_rng 4 rn
  have h4 : unV 4 n = 65536 * n := by show wrap32 (n * 65536) = _; rw [IntWalk.wrap32_in _ (by omega)]; omega
  rw [h4] at rnf
  have h5 : unV 5 (65536 * n) = n := by show 65536 * n / 65536 = n; omega
  have h6 : binV 15 a 65536 = a := by rw [b15, Int.mul_ediv_cancel _ (by decide)]; exact win ra
  have h7 : binV 16 a 65536 = a := divf_one ra
  have hu := int_floor a
  obtain ⟨e, hE⟩ : ∃ e, a * b = e := ⟨_, rfl⟩
  obtain ⟨p, hp⟩ : ∃ p, binV 15 a b = p := ⟨_, rfl⟩
  obtain ⟨q, hq⟩ : ∃ q, binV 16 a b = q := ⟨_, rfl⟩
  obtain ⟨u, hu5⟩ : ∃ u, unV 5 a = u := ⟨_, rfl⟩
  rw [hE] at hmr hf1
  rw [hp] at rp
  rw [hu5] at hu ru
  obtain ⟨u1, u2⟩ := hu
  obtain ⟨k1, k2⟩ := hmr
  obtain ⟨k3, k4⟩ := ra.out
  obtain ⟨k5, k6⟩ := rb.out
  obtain ⟨k7, k8⟩ := rp.out
  obtain ⟨k9, k10⟩ := ru.out
  rw [hq] at rq
  obtain ⟨k11, k12⟩ := rq.out
  have z1 : (b != 0) = true := by simp; omega
  have z2 : (b == 0) = false := by simp; omega
  have hs3 : 65536 * a ≤ -(b * 2147483647) := by omega
  have hs4 : 65536 * a < b * 2147483647 := by omega
  go_enter Tryd.func6, Tryd.ntmps6
  go_wp2_with (first | (go_at_call 11; (with_reducible refine (examples_c (by assumption)).mono ?_); rintro e w1 ⟨rfl, hr⟩) | (go_at_call 14; (with_reducible refine (bin_c _ _ _ (by assumption) (by assumption) (by assumption)).mono ?_); rintro e w1 ⟨rfl, hr⟩) | (go_at_call 12; (with_reducible refine (un_c _ _ (by assumption) (by assumption)).mono ?_); rintro e w1 ⟨rfl, hr⟩))
  go_ret
  exact ⟨rfl, by assumption⟩

set_option maxRecDepth 100000 in
set_option maxHeartbeats 3200000 in
theorem fix_lo_nin (a b n : Int) (w : World) (ra : I32 a) (rb : I32 b) (hn0 : -32768 ≤ n) (hn1 : n ≤ 32767) (he : Env w) (hb : b < 0) (hs1 : -(65536 * a) < -b * 2147483647) (hs2 : -(-b) * 2147483647 < -(65536 * a)) (hf1 : a * b < -140737488355328) :
    Calls Tryd.prog 6 #[.int .i32 a, .int .i32 b, .int .i16 n] w fun e w' => e = .returned (.bool true) ∧ Run w w' := by
  have hr := Run.start he
  clear he
  have f250 := fld25_0
  have hmr := mul_rng ra rb
  have rp := binV_rng 15 ra rb
  have rq := binV_rng 16 ra rb
  have ru := unV_rng 5 ra
  have rn : I32 n := ⟨by omega, by omega⟩
  have ro : I32 65536 := lit32 _ (by decide)
  have rnf := unV_rng 4 rn
  have h4 : unV 4 n = 65536 * n := by show wrap32 (n * 65536) = _; rw [IntWalk.wrap32_in _ (by omega)]; omega
  rw [h4] at rnf
  have h5 : unV 5 (65536 * n) = n := by show 65536 * n / 65536 = n; omega
  have h6 : binV 15 a 65536 = a := by rw [b15, Int.mul_ediv_cancel _ (by decide)]; exact win ra
  have h7 : binV 16 a 65536 = a := divf_one ra
  have hu := int_floor a
  have hd := divf_neg a b hb hs1 (by omega)
  obtain ⟨e, hE⟩ : ∃ e, a * b = e := ⟨_, rfl⟩
  obtain ⟨p, hp⟩ : ∃ p, binV 15 a b = p := ⟨_, rfl⟩
  obtain ⟨q, hq⟩ : ∃ q, binV 16 a b = q := ⟨_, rfl⟩
  obtain ⟨u, hu5⟩ : ∃ u, unV 5 a = u := ⟨_, rfl⟩
  rw [hE] at hmr hf1
  rw [hp] at rp
  rw [hu5] at hu ru
  obtain ⟨u1, u2⟩ := hu
  obtain ⟨k1, k2⟩ := hmr
  obtain ⟨k3, k4⟩ := ra.out
  obtain ⟨k5, k6⟩ := rb.out
  obtain ⟨k7, k8⟩ := rp.out
  obtain ⟨k9, k10⟩ := ru.out
  rw [hq] at hd rq
  obtain ⟨k11, k12⟩ := rq.out
  obtain ⟨t, ht⟩ : ∃ t, q * -b = t := ⟨_, rfl⟩
  rw [ht] at hd
  obtain ⟨d1, d2⟩ := hd
  have d3 : -(65536 * a) + b < t := by omega
  have z1 : (-b != 0) = true := by simp; omega
  have z2 : (b == 0) = false := by simp; omega
  have hs3 : b * 2147483647 < -(65536 * a) := by omega
  go_enter Tryd.func6, Tryd.ntmps6
  go_wp2_with (first | (go_at_call 11; (with_reducible refine (examples_c (by assumption)).mono ?_); rintro e w1 ⟨rfl, hr⟩) | (go_at_call 14; (with_reducible refine (bin_c _ _ _ (by assumption) (by assumption) (by assumption)).mono ?_); rintro e w1 ⟨rfl, hr⟩) | (go_at_call 12; (with_reducible refine (un_c _ _ (by assumption) (by assumption)).mono ?_); rintro e w1 ⟨rfl, hr⟩))
  go_ret
  exact ⟨rfl, by assumption⟩

set_option maxRecDepth 100000 in
set_option maxHeartbeats 3200000 in
theorem fix_lo_nge (a b n : Int) (w : World) (ra : I32 a) (rb : I32 b) (hn0 : -32768 ≤ n) (hn1 : n ≤ 32767) (he : Env w) (hb : b < 0) (hs1 : -b * 2147483647 ≤ -(65536 * a)) (hf1 : a * b < -140737488355328) :
    Calls Tryd.prog 6 #[.int .i32 a, .int .i32 b, .int .i16 n] w fun e w' => e = .returned (.bool true) ∧ Run w w' := by
  have hr := Run.start he
  clear he
  have f250 := fld25_0
  have hmr := mul_rng ra rb
  have rp := binV_rng 15 ra rb
  have rq := binV_rng 16 ra rb
  have ru := unV_rng 5 ra
  have rn : I32 n := ⟨by omega, by omega⟩
  have ro : I32 65536 := lit32 _ (by decide)
  have rnf := unV_rng 4 rn
  have h4 : unV 4 n = 65536 * n := by show wrap32 (n * 65536) = _; rw [IntWalk.wrap32_in _ (by omega)]; omega
  rw [h4] at rnf
  have h5 : unV 5 (65536 * n) = n := by show 65536 * n / 65536 = n; omega
  have h6 : binV 15 a 65536 = a := by rw [b15, Int.mul_ediv_cancel _ (by decide)]; exact win ra
  have h7 : binV 16 a 65536 = a := divf_one ra
  have hu := int_floor a
  obtain ⟨e, hE⟩ : ∃ e, a * b = e := ⟨_, rfl⟩
  obtain ⟨p, hp⟩ : ∃ p, binV 15 a b = p := ⟨_, rfl⟩
  obtain ⟨q, hq⟩ : ∃ q, binV 16 a b = q := ⟨_, rfl⟩
  obtain ⟨u, hu5⟩ : ∃ u, unV 5 a = u := ⟨_, rfl⟩
  rw [hE] at hmr hf1
  rw [hp] at rp
  rw [hu5] at hu ru
  obtain ⟨u1, u2⟩ := hu
  obtain ⟨k1, k2⟩ := hmr
  obtain ⟨k3, k4⟩ := ra.out
  obtain ⟨k5, k6⟩ := rb.out
  obtain ⟨k7, k8⟩ := rp.out
  obtain ⟨k9, k10⟩ := ru.out
  rw [hq] at rq
  obtain ⟨k11, k12⟩ := rq.out
  have z1 : (-b != 0) = true := by simp; omega
  have z2 : (b == 0) = false := by simp; omega
  go_enter Tryd.func6, Tryd.ntmps6
  go_wp2_with (first | (go_at_call 11; (with_reducible refine (examples_c (by assumption)).mono ?_); rintro e w1 ⟨rfl, hr⟩) | (go_at_call 14; (with_reducible refine (bin_c _ _ _ (by assumption) (by assumption) (by assumption)).mono ?_); rintro e w1 ⟨rfl, hr⟩) | (go_at_call 12; (with_reducible refine (un_c _ _ (by assumption) (by assumption)).mono ?_); rintro e w1 ⟨rfl, hr⟩))
  go_ret
  exact ⟨rfl, by assumption⟩

set_option maxRecDepth 100000 in
set_option maxHeartbeats 3200000 in
theorem fix_lo_nle (a b n : Int) (w : World) (ra : I32 a) (rb : I32 b) (hn0 : -32768 ≤ n) (hn1 : n ≤ 32767) (he : Env w) (hb : b < 0) (hs1 : -(65536 * a) ≤ -(-b) * 2147483647) (hf1 : a * b < -140737488355328) :
    Calls Tryd.prog 6 #[.int .i32 a, .int .i32 b, .int .i16 n] w fun e w' => e = .returned (.bool true) ∧ Run w w' := by
  have hr := Run.start he
  clear he
  have f250 := fld25_0
  have hmr := mul_rng ra rb
  have rp := binV_rng 15 ra rb
  have rq := binV_rng 16 ra rb
  have ru := unV_rng 5 ra
  have rn : I32 n := ⟨by omega, by omega⟩
  have ro : I32 65536 := lit32 _ (by decide)
  have rnf := unV_rng 4 rn
  have h4 : unV 4 n = 65536 * n := by show wrap32 (n * 65536) = _; rw [IntWalk.wrap32_in _ (by omega)]; omega
  rw [h4] at rnf
  have h5 : unV 5 (65536 * n) = n := by show 65536 * n / 65536 = n; omega
  have h6 : binV 15 a 65536 = a := by rw [b15, Int.mul_ediv_cancel _ (by decide)]; exact win ra
  have h7 : binV 16 a 65536 = a := divf_one ra
  have hu := int_floor a
  obtain ⟨e, hE⟩ : ∃ e, a * b = e := ⟨_, rfl⟩
  obtain ⟨p, hp⟩ : ∃ p, binV 15 a b = p := ⟨_, rfl⟩
  obtain ⟨q, hq⟩ : ∃ q, binV 16 a b = q := ⟨_, rfl⟩
  obtain ⟨u, hu5⟩ : ∃ u, unV 5 a = u := ⟨_, rfl⟩
  rw [hE] at hmr hf1
  rw [hp] at rp
  rw [hu5] at hu ru
  obtain ⟨u1, u2⟩ := hu
  obtain ⟨k1, k2⟩ := hmr
  obtain ⟨k3, k4⟩ := ra.out
  obtain ⟨k5, k6⟩ := rb.out
  obtain ⟨k7, k8⟩ := rp.out
  obtain ⟨k9, k10⟩ := ru.out
  rw [hq] at rq
  obtain ⟨k11, k12⟩ := rq.out
  have z1 : (-b != 0) = true := by simp; omega
  have z2 : (b == 0) = false := by simp; omega
  have hs3 : -(65536 * a) ≤ b * 2147483647 := by omega
  have hs4 : -(65536 * a) < -b * 2147483647 := by omega
  go_enter Tryd.func6, Tryd.ntmps6
  go_wp2_with (first | (go_at_call 11; (with_reducible refine (examples_c (by assumption)).mono ?_); rintro e w1 ⟨rfl, hr⟩) | (go_at_call 14; (with_reducible refine (bin_c _ _ _ (by assumption) (by assumption) (by assumption)).mono ?_); rintro e w1 ⟨rfl, hr⟩) | (go_at_call 12; (with_reducible refine (un_c _ _ (by assumption) (by assumption)).mono ?_); rintro e w1 ⟨rfl, hr⟩))
  go_ret
  exact ⟨rfl, by assumption⟩
end Go.Proofs.YtikkmcgbmiddaaaDoor
