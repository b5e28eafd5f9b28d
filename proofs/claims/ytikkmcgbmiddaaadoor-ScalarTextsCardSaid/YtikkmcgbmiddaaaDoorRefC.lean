/-
  Contract of the reference's bits: what it sums up bit by bit is what package scalar computes at once.
-/
import Derived.Test.YtikkmcgbmiddaaaDoorRefA
import Derived.Test.YtikkmcgbmiddaaaDoorRefT
import Derived.Deep.QuietTactic
import Derived.BigQuiet
namespace Go.Proofs.YtikkmcgbmiddaaaDoor
open Go.ChangeShapes Go.WideShapes Go.ChangeAt Go.RowKit
set_option linter.unusedVariables false

theorem neg_of (a : Int) (ha : I32 a) : ∃ s : Int, ∃ x : Nat, 0 ≤ s ∧ s ≤ 1 ∧ tr (decide (a < 0) = true) = s ∧ a + 4294967296 * s = x ∧ x < 4294967296 ∧ x = (a % 4294967296).toNat := by
  obtain ⟨a1, a2⟩ := ha
  by_cases h : a < 0
  · exact ⟨1, (a % 4294967296).toNat, by omega, by omega, by rw [decide_eq_true h]; rfl, by omega, by omega, rfl⟩
  · exact ⟨0, (a % 4294967296).toNat, by omega, by omega, by rw [decide_eq_false h]; rfl, by omega, by omega, rfl⟩
theorem pow_nat (k : Nat) (h : k ≤ 32) : ∃ p : Nat, p = 2 ^ k ∧ 1 ≤ p ∧ p ≤ 4294967296 ∧ ∀ w : World, Calls Tryd.prog 45 #[.int .i64 k] w fun e w' => e = .returned (.int .i64 (p : Int)) ∧ w' = w := by
  refine ⟨2 ^ k, rfl, Nat.pow_pos (by omega), ?_, fun w => ?_⟩
  · have : (2 : Nat) ^ k ≤ 2 ^ 32 := Nat.pow_le_pow_right (by omega) h
    omega
  · have H := power_c k w (by omega)
    rw [show (2 : Int) ^ k = ((2 ^ k : Nat) : Int) by simp] at H
    exact H

theorem pow_32 (w : World) : Calls Tryd.prog 45 #[.int .i64 32] w fun e w' => e = .returned (.int .i64 4294967296) ∧ w' = w := by
  have H := power_c 32 w (by omega)
  rw [show (2 : Int) ^ 32 = 4294967296 by decide] at H
  exact H
theorem quo_rules (x pk : Nat) (hx : x < 4294967296) : ∃ xd : Nat, xd = x / pk ∧ xd ≤ x ∧ wrap64 ((x : Int) / (pk : Int)) = (xd : Int) := by
  have h0 : x / pk ≤ x := Nat.div_le_self _ _
  have h1 : (x : Int) / (pk : Int) = ((x / pk : Nat) : Int) := (Int.natCast_ediv x pk).symm
  obtain ⟨xd, hxd⟩ : ∃ xd, xd = x / pk := ⟨_, rfl⟩
  rw [← hxd] at h0 h1
  exact ⟨xd, hxd, h0, by rw [h1]; exact IntWalk.wrap64_in _ (by omega)⟩
theorem rem_rules (xd : Nat) : ∃ pb : Nat, pb = xd % 2 ∧ pb ≤ 1 ∧ (xd : Int).tmod 2 = (pb : Int) := by
  refine ⟨xd % 2, rfl, by omega, ?_⟩
  rw [Int.tmod_eq_emod_of_nonneg (Int.natCast_nonneg xd)]; omega
theorem mul_rule (p q : Nat) : ∃ m : Nat, m = p * q ∧ (p : Int) * (q : Int) = (m : Int) := ⟨p * q, rfl, (Int.natCast_mul p q).symm⟩
theorem pk_ne (pk : Nat) (h : 1 ≤ pk) : ((pk : Int) == 0) = false := by simp; omega
theorem bits_le (r pk : Nat) (hr : r ≤ 1) (h : pk ≤ 4294967296) : r * pk ≤ 4294967296 := by
  have : r = 0 ∨ r = 1 := by omega
  rcases this with rfl | rfl <;> omega
theorem mul_le1 (p q : Nat) (hp : p ≤ 1) (hq : q ≤ 1) : p * q ≤ 1 := by
  have : p = 0 ∨ p = 1 := by omega
  rcases this with rfl | rfl <;> omega
theorem below_draw {w w1 : World} (h : Below w.heap.size w w1) (n : Nat) : Below w.heap.size w (w1.drewN n) := ⟨h.os, h.tape, h.output, h.size, h.block⟩
set_option maxRecDepth 100000 in
set_option maxHeartbeats 800000 in
theorem bits_17 (a b : Int) (w : World) (ha : I32 a) (hb : I32 b) :
    Calls Tryd.prog 31 #[.int .i64 17, .int .i32 a, .int .i32 b] w fun e w' => e = .returned (.int .i32 (binV 17 a b)) ∧ Below w.heap.size w w' := by
  have HZ := bitZ_end 17 a b (by omega)
  obtain ⟨sa, x, sa0, sa1, hsa, hx, hx32, hxe⟩ := neg_of a ha
  obtain ⟨sb, y, sb0, sb1, hsb, hy, hy32, hye⟩ := neg_of b hb
  rw [← hxe, ← hye] at HZ
  have HTa := fun w => Truth_c (decide (a < 0)) w
  have HTb := fun w => Truth_c (decide (b < 0)) w
  rw [hsa] at HTa
  rw [hsb] at HTb
  have T1 := Lib.hid HTa
  have T2 := Lib.hid HTb
  have T3 := Lib.hid pow_32
  have HZZ := Lib.hid HZ
  obtain ⟨a1, a2⟩ := ha
  obtain ⟨b1, b2⟩ := hb
  clear hxe hye HTa HTb HZ hsa hsb
  go_enter Tryd.func31, Tryd.ntmps31
  go_wp2_with (first | (go_at_call 45; (with_reducible refine (T3.out _).mono ?_); rintro e w' ⟨rfl, hw⟩; replace hw := hw.symm; subst hw) | (go_at_call 29; (with_reducible refine (T1.out _).mono ?_); rintro e w' ⟨rfl, hw⟩; replace hw := hw.symm; subst hw) | (go_at_call 29; (with_reducible refine (T2.out _).mono ?_); rintro e w' ⟨rfl, hw⟩; replace hw := hw.symm; subst hw))
  go_loopw [9, 10] (fun o i wr => ∃ k m : Nat, k ≤ 32 ∧ i = .int .i64 k ∧ o = .int .i64 m ∧ m = bitZ 17 x y % 2 ^ k ∧ Below w.heap.size w wr) (fun _ i _ => 32 - (intOf i).toNat)
  case atStart => exact ⟨0, 0, by omega, rfl, rfl, by simp [Nat.mod_one], Below.refl _ _⟩
  case round =>
    obtain ⟨k, m, hk, rfl, rfl, hm, hwr⟩ := hrel
    have HW := Lib.hid hwr
    have HM := Lib.hid hm
    clear hm hwr
    by_cases hlt : k < 32
    · obtain ⟨pk, hpk, hpk1, hpk2, HP⟩ := pow_nat k (by omega)
      have hm1 : m < pk := by rw [HM.out, hpk]; exact Nat.mod_lt _ (Nat.pow_pos (by omega))
      obtain ⟨xd, hxd, hxd2, hR1⟩ := quo_rules x pk hx32
      have HR1 := Lib.hid hR1
      clear hR1
      obtain ⟨yd, hyd, hyd2, hS1⟩ := quo_rules y pk hy32
      have HS1 := Lib.hid hS1
      clear hS1
      obtain ⟨pb, hpb, hpb1, hR2⟩ := rem_rules xd
      have HR2 := Lib.hid hR2
      clear hR2
      obtain ⟨qb, hqb, hqb1, hS2⟩ := rem_rules yd
      have HS2 := Lib.hid hS2
      clear hS2
      obtain ⟨r, hr⟩ : ∃ r, r = bitR 17 pb qb := ⟨_, rfl⟩
      have hr1 : r ≤ 1 := by rw [hr]; exact bitR_le _ _ _ (by omega) (by omega)
      obtain ⟨mm, hmm, RM⟩ := mul_rule r pk
      have hmm1 : mm ≤ 4294967296 := by rw [hmm]; exact bits_le r pk hr1 hpk2
      have HSTEP := Lib.hid (show bitZ 17 x y % 2 ^ (k + 1) = m + mm by
        rw [bitZ_step, ← HM.out, ← hpk, ← hxd, ← hyd, ← hpb, ← hqb, ← hr, hmm])
      obtain ⟨pq, hpq, PQ⟩ := mul_rule pb qb
      have hpq1 : pq ≤ 1 := by rw [hpq]; exact mul_le1 pb qb hpb1 hqb1
      have hz := pk_ne pk hpk1
      have HR := Lib.hid hr
      have HPQ := Lib.hid hpq
      have P1 := Lib.hid HP
      clear hpk HP hxd hyd hpb hqb hr hmm hpq
      have RX := HR.out
      have e17 : pq = r := by rw [HPQ.out, RX]; rfl
      rw [e17] at PQ hpq1
      clear e17
      clear RX
      go_wp2
      go_quiet ((go_at_call 45; exact Calls.quiet_of_same (P1.out _)))
      rw [HR1.out, HR2.out, HS1.out, HS2.out]
      all_goals
        go_wp2_with (go_at_call 45; (with_reducible refine (P1.out _).mono ?_); rintro e w1 ⟨rfl, hw⟩; replace hw := hw.symm; subst hw)
        go_roundw
        case rel => exact ⟨k + 1, m + mm, by omega, by go_num, by go_num, HSTEP.out.symm, by exact below_draw HW.out _⟩
        case measure => simp [intOf]; omega
    · obtain rfl : k = 32 := by omega
      have HE := Lib.hid (show wrap32 (m : Int) = binV 17 a b by
        rw [← HZZ.out, HM.out, Nat.mod_eq_of_lt (bitZ_lt 17 x y hx32 hy32)])
      go_wp2_with (go_at_call 26; (with_reducible refine (refwrap_c _ _).mono ?_); rintro e w1 ⟨rfl, hw⟩; replace hw := hw.symm; subst hw)
      go_ret
      exact ⟨ret_i32 HE.out, HW.out⟩

set_option maxRecDepth 100000 in
set_option maxHeartbeats 800000 in
theorem bits_18 (a b : Int) (w : World) (ha : I32 a) (hb : I32 b) :
    Calls Tryd.prog 31 #[.int .i64 18, .int .i32 a, .int .i32 b] w fun e w' => e = .returned (.int .i32 (binV 18 a b)) ∧ Below w.heap.size w w' := by
  have HZ := bitZ_end 18 a b (by omega)
  obtain ⟨sa, x, sa0, sa1, hsa, hx, hx32, hxe⟩ := neg_of a ha
  obtain ⟨sb, y, sb0, sb1, hsb, hy, hy32, hye⟩ := neg_of b hb
  rw [← hxe, ← hye] at HZ
  have HTa := fun w => Truth_c (decide (a < 0)) w
  have HTb := fun w => Truth_c (decide (b < 0)) w
  rw [hsa] at HTa
  rw [hsb] at HTb
  have T1 := Lib.hid HTa
  have T2 := Lib.hid HTb
  have T3 := Lib.hid pow_32
  have HZZ := Lib.hid HZ
  obtain ⟨a1, a2⟩ := ha
  obtain ⟨b1, b2⟩ := hb
  clear hxe hye HTa HTb HZ hsa hsb
  go_enter Tryd.func31, Tryd.ntmps31
  go_wp2_with (first | (go_at_call 45; (with_reducible refine (T3.out _).mono ?_); rintro e w' ⟨rfl, hw⟩; replace hw := hw.symm; subst hw) | (go_at_call 29; (with_reducible refine (T1.out _).mono ?_); rintro e w' ⟨rfl, hw⟩; replace hw := hw.symm; subst hw) | (go_at_call 29; (with_reducible refine (T2.out _).mono ?_); rintro e w' ⟨rfl, hw⟩; replace hw := hw.symm; subst hw))
  go_loopw [9, 10] (fun o i wr => ∃ k m : Nat, k ≤ 32 ∧ i = .int .i64 k ∧ o = .int .i64 m ∧ m = bitZ 18 x y % 2 ^ k ∧ Below w.heap.size w wr) (fun _ i _ => 32 - (intOf i).toNat)
  case atStart => exact ⟨0, 0, by omega, rfl, rfl, by simp [Nat.mod_one], Below.refl _ _⟩
  case round =>
    obtain ⟨k, m, hk, rfl, rfl, hm, hwr⟩ := hrel
    have HW := Lib.hid hwr
    have HM := Lib.hid hm
    clear hm hwr
    by_cases hlt : k < 32
    · obtain ⟨pk, hpk, hpk1, hpk2, HP⟩ := pow_nat k (by omega)
      have hm1 : m < pk := by rw [HM.out, hpk]; exact Nat.mod_lt _ (Nat.pow_pos (by omega))
      obtain ⟨xd, hxd, hxd2, hR1⟩ := quo_rules x pk hx32
      have HR1 := Lib.hid hR1
      clear hR1
      obtain ⟨yd, hyd, hyd2, hS1⟩ := quo_rules y pk hy32
      have HS1 := Lib.hid hS1
      clear hS1
      obtain ⟨pb, hpb, hpb1, hR2⟩ := rem_rules xd
      have HR2 := Lib.hid hR2
      clear hR2
      obtain ⟨qb, hqb, hqb1, hS2⟩ := rem_rules yd
      have HS2 := Lib.hid hS2
      clear hS2
      obtain ⟨r, hr⟩ : ∃ r, r = bitR 18 pb qb := ⟨_, rfl⟩
      have hr1 : r ≤ 1 := by rw [hr]; exact bitR_le _ _ _ (by omega) (by omega)
      obtain ⟨mm, hmm, RM⟩ := mul_rule r pk
      have hmm1 : mm ≤ 4294967296 := by rw [hmm]; exact bits_le r pk hr1 hpk2
      have HSTEP := Lib.hid (show bitZ 18 x y % 2 ^ (k + 1) = m + mm by
        rw [bitZ_step, ← HM.out, ← hpk, ← hxd, ← hyd, ← hpb, ← hqb, ← hr, hmm])
      obtain ⟨pq, hpq, PQ⟩ := mul_rule pb qb
      have hpq1 : pq ≤ 1 := by rw [hpq]; exact mul_le1 pb qb hpb1 hqb1
      have hz := pk_ne pk hpk1
      have HR := Lib.hid hr
      have HPQ := Lib.hid hpq
      have P1 := Lib.hid HP
      clear hpk HP hxd hyd hpb hqb hr hmm hpq
      have RX := HR.out
      have MX : max (pb : Int) (qb : Int) = (r : Int) := by
        rw [RX]; show max (pb : Int) (qb : Int) = ((max pb qb : Nat) : Int); omega
      clear RX
      go_wp2
      go_quiet ((go_at_call 45; exact Calls.quiet_of_same (P1.out _)))
      rw [HR1.out, HR2.out, HS1.out, HS2.out]
      all_goals
        go_wp2_with (go_at_call 45; (with_reducible refine (P1.out _).mono ?_); rintro e w1 ⟨rfl, hw⟩; replace hw := hw.symm; subst hw)
        go_roundw
        case rel => exact ⟨k + 1, m + mm, by omega, by go_num, by go_num, HSTEP.out.symm, by exact below_draw HW.out _⟩
        case measure => simp [intOf]; omega
    · obtain rfl : k = 32 := by omega
      have HE := Lib.hid (show wrap32 (m : Int) = binV 18 a b by
        rw [← HZZ.out, HM.out, Nat.mod_eq_of_lt (bitZ_lt 18 x y hx32 hy32)])
      go_wp2_with (go_at_call 26; (with_reducible refine (refwrap_c _ _).mono ?_); rintro e w1 ⟨rfl, hw⟩; replace hw := hw.symm; subst hw)
      go_ret
      exact ⟨ret_i32 HE.out, HW.out⟩

set_option maxRecDepth 100000 in
set_option maxHeartbeats 800000 in
theorem bits_19 (a b : Int) (w : World) (ha : I32 a) (hb : I32 b) :
    Calls Tryd.prog 31 #[.int .i64 19, .int .i32 a, .int .i32 b] w fun e w' => e = .returned (.int .i32 (binV 19 a b)) ∧ Below w.heap.size w w' := by
  have HZ := bitZ_end 19 a b (by omega)
  obtain ⟨sa, x, sa0, sa1, hsa, hx, hx32, hxe⟩ := neg_of a ha
  obtain ⟨sb, y, sb0, sb1, hsb, hy, hy32, hye⟩ := neg_of b hb
  rw [← hxe, ← hye] at HZ
  have HTa := fun w => Truth_c (decide (a < 0)) w
  have HTb := fun w => Truth_c (decide (b < 0)) w
  rw [hsa] at HTa
  rw [hsb] at HTb
  have T1 := Lib.hid HTa
  have T2 := Lib.hid HTb
  have T3 := Lib.hid pow_32
  have HZZ := Lib.hid HZ
  obtain ⟨a1, a2⟩ := ha
  obtain ⟨b1, b2⟩ := hb
  clear hxe hye HTa HTb HZ hsa hsb
  go_enter Tryd.func31, Tryd.ntmps31
  go_wp2_with (first | (go_at_call 45; (with_reducible refine (T3.out _).mono ?_); rintro e w' ⟨rfl, hw⟩; replace hw := hw.symm; subst hw) | (go_at_call 29; (with_reducible refine (T1.out _).mono ?_); rintro e w' ⟨rfl, hw⟩; replace hw := hw.symm; subst hw) | (go_at_call 29; (with_reducible refine (T2.out _).mono ?_); rintro e w' ⟨rfl, hw⟩; replace hw := hw.symm; subst hw))
  go_loopw [9, 10] (fun o i wr => ∃ k m : Nat, k ≤ 32 ∧ i = .int .i64 k ∧ o = .int .i64 m ∧ m = bitZ 19 x y % 2 ^ k ∧ Below w.heap.size w wr) (fun _ i _ => 32 - (intOf i).toNat)
  case atStart => exact ⟨0, 0, by omega, rfl, rfl, by simp [Nat.mod_one], Below.refl _ _⟩
  case round =>
    obtain ⟨k, m, hk, rfl, rfl, hm, hwr⟩ := hrel
    have HW := Lib.hid hwr
    have HM := Lib.hid hm
    clear hm hwr
    by_cases hlt : k < 32
    · obtain ⟨pk, hpk, hpk1, hpk2, HP⟩ := pow_nat k (by omega)
      have hm1 : m < pk := by rw [HM.out, hpk]; exact Nat.mod_lt _ (Nat.pow_pos (by omega))
      obtain ⟨xd, hxd, hxd2, hR1⟩ := quo_rules x pk hx32
      have HR1 := Lib.hid hR1
      clear hR1
      obtain ⟨yd, hyd, hyd2, hS1⟩ := quo_rules y pk hy32
      have HS1 := Lib.hid hS1
      clear hS1
      obtain ⟨pb, hpb, hpb1, hR2⟩ := rem_rules xd
      have HR2 := Lib.hid hR2
      clear hR2
      obtain ⟨qb, hqb, hqb1, hS2⟩ := rem_rules yd
      have HS2 := Lib.hid hS2
      clear hS2
      obtain ⟨r, hr⟩ : ∃ r, r = bitR 19 pb qb := ⟨_, rfl⟩
      have hr1 : r ≤ 1 := by rw [hr]; exact bitR_le _ _ _ (by omega) (by omega)
      obtain ⟨mm, hmm, RM⟩ := mul_rule r pk
      have hmm1 : mm ≤ 4294967296 := by rw [hmm]; exact bits_le r pk hr1 hpk2
      have HSTEP := Lib.hid (show bitZ 19 x y % 2 ^ (k + 1) = m + mm by
        rw [bitZ_step, ← HM.out, ← hpk, ← hxd, ← hyd, ← hpb, ← hqb, ← hr, hmm])
      obtain ⟨pq, hpq, PQ⟩ := mul_rule pb qb
      have hpq1 : pq ≤ 1 := by rw [hpq]; exact mul_le1 pb qb hpb1 hqb1
      have hz := pk_ne pk hpk1
      have HR := Lib.hid hr
      have HPQ := Lib.hid hpq
      have P1 := Lib.hid HP
      clear hpk HP hxd hyd hpb hqb hr hmm hpq
      have RX := HR.out
      have MX : ((pb : Int) + (qb : Int)) % 2 = (r : Int) := by
        rw [RX]; show ((pb : Int) + (qb : Int)) % 2 = (((pb + qb) % 2 : Nat) : Int); omega
      clear RX
      go_wp2
      go_quiet ((go_at_call 45; exact Calls.quiet_of_same (P1.out _)))
      rw [HR1.out, HR2.out, HS1.out, HS2.out]
      all_goals
        go_wp2_with (go_at_call 45; (with_reducible refine (P1.out _).mono ?_); rintro e w1 ⟨rfl, hw⟩; replace hw := hw.symm; subst hw)
        go_roundw
        case rel => exact ⟨k + 1, m + mm, by omega, by go_num, by go_num, HSTEP.out.symm, by exact below_draw HW.out _⟩
        case measure => simp [intOf]; omega
    · obtain rfl : k = 32 := by omega
      have HE := Lib.hid (show wrap32 (m : Int) = binV 19 a b by
        rw [← HZZ.out, HM.out, Nat.mod_eq_of_lt (bitZ_lt 19 x y hx32 hy32)])
      go_wp2_with (go_at_call 26; (with_reducible refine (refwrap_c _ _).mono ?_); rintro e w1 ⟨rfl, hw⟩; replace hw := hw.symm; subst hw)
      go_ret
      exact ⟨ret_i32 HE.out, HW.out⟩

theorem bits_c (op a b : Int) (w : World) (ha : I32 a) (hb : I32 b) (hop : op = 17 ∨ op = 18 ∨ op = 19) :
    Calls Tryd.prog 31 #[.int .i64 op, .int .i32 a, .int .i32 b] w fun e w' => e = .returned (.int .i32 (binV op a b)) ∧ Below w.heap.size w w' := by
  rcases hop with rfl | rfl | rfl
  · exact bits_17 a b w ha hb
  · exact bits_18 a b w ha hb
  · exact bits_19 a b w ha hb
end Go.Proofs.YtikkmcgbmiddaaaDoor
