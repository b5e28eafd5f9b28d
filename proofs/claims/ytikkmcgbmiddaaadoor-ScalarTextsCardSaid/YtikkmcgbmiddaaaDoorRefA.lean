/-
  Contracts of the reference of layer 1: wrap, floor, below, power, quotient, whole, compared and UnIn: they compute what the operators of package scalar compute (unV, binV).
-/
import Derived.Test.YtikkmcgbmiddaaaDoorFixL
namespace Go.Proofs.YtikkmcgbmiddaaaDoor
open Go.ChangeShapes Go.WideShapes Go.ChangeAt Go.RowKit
set_option linter.unusedVariables false

theorem ret_i64 {a b : Int} (h : a = b) : Ending.returned (.int .i64 a) = .returned (.int .i64 b) := by rw [h]
theorem refwrap_c (n : Int) (w : World) : Calls Tryd.prog 26 #[.int .i64 n] w fun e w' => e = .returned (.int .i32 (wrap32 n)) ∧ w' = w := by
  go_enter Tryd.func26, Tryd.ntmps26
  go_wp2
  go_ret
  exact ⟨ret_i32 (by rw [IntKind.wrap_u64]; unfold wrap32; omega), rfl⟩
theorem floor_parts (a b : Int) (hb : 0 < b) : a / b = if a.tmod b < 0 then a.tdiv b - 1 else a.tdiv b := by
  have h := fdiv_of_tdiv a b (by omega)
  rw [Int.fdiv_eq_ediv_of_nonneg _ (by omega)] at h
  rw [h]
  by_cases h0 : 0 ≤ a
  · have := Int.tmod_nonneg b h0
    rw [if_neg (by simp; omega), if_neg (by omega)]
  · have h1 : a.tmod b ≤ 0 := by
      have := Int.tmod_nonneg b (a := -a) (by omega)
      rw [Int.neg_tmod] at this; omega
    by_cases h2 : a.tmod b = 0
    · rw [if_neg (by simp [h2]), if_neg (by omega)]
    · rw [if_pos ⟨h2, by simp; omega⟩, if_pos (by omega)]
theorem tdiv_rng (a b : Int) (h : -4611686018427387905 ≤ a ∧ a ≤ 4611686018427387905) : -4611686018427387905 ≤ a.tdiv b ∧ a.tdiv b ≤ 4611686018427387905 := by
  have h1 := Int.natAbs_tdiv a b
  have h2 : a.natAbs.div b.natAbs ≤ a.natAbs := Nat.div_le_self _ _
  rw [← h1] at h2
  omega
theorem floor_c (a b : Int) (w : World) (h : -4611686018427387905 ≤ a ∧ a ≤ 4611686018427387905) (hb : 0 < b) :
    Calls Tryd.prog 27 #[.int .i64 a, .int .i64 b] w fun e w' => e = .returned (.int .i64 (a / b)) ∧ w' = w := by
  have hp := floor_parts a b hb
  have ht := tdiv_rng a b h
  obtain ⟨h1, h2⟩ := h
  have hb0 : (b == 0) = false := by simp; omega
  obtain ⟨t, hT⟩ : ∃ t, a.tdiv b = t := ⟨_, rfl⟩
  obtain ⟨r, hR⟩ : ∃ r, a / b = r := ⟨_, rfl⟩
  rw [hR]
  rw [hR, hT] at hp
  rw [hT] at ht
  obtain ⟨t1, t2⟩ := ht
  have hw : wrap64 (a.tdiv b) = t := by rw [hT]; exact IntWalk.wrap64_in _ (by omega)
  clear hR
  by_cases hm : a.tmod b < 0
  · rw [if_pos hm] at hp
    have HP := Lib.hid hp
    clear hp
    go_enter Tryd.func27, Tryd.ntmps27
    go_wp2
    go_ret
    exact ⟨ret_i64 HP.out.symm, rfl⟩
  · rw [if_neg hm] at hp
    have HP := Lib.hid hp
    clear hp
    go_enter Tryd.func27, Tryd.ntmps27
    go_wp2
    go_ret
    exact ⟨ret_i64 HP.out.symm, rfl⟩
theorem below_c (a b : Int) (w : World) (h : -4611686018427387905 ≤ a ∧ a ≤ 4611686018427387905) (h2 : -4611686018427387905 ≤ b ∧ b ≤ 4611686018427387905) (hb : b ≠ 0) :
    Calls Tryd.prog 47 #[.int .i64 a, .int .i64 b] w fun e w' => e = .returned (.int .i64 (a.fdiv b)) ∧ w' = w := by
  by_cases h0 : 0 < b
  · have H := Lib.hid (fun w => floor_c a b w h h0)
    rw [Int.fdiv_eq_ediv_of_nonneg _ (by omega)]
    clear h h2 hb
    go_enter Tryd.func47, Tryd.ntmps47
    go_wp2_with (go_at_call 27; refine (H.out _).mono ?_; rintro e w' ⟨rfl, hw⟩; subst hw)
    go_ret
    exact ⟨rfl, rfl⟩
  · have H := Lib.hid (fun w => floor_c (-a) (-b) w (by omega) (by omega))
    have e : a.fdiv b = -a / -b := by
      rw [← Int.neg_fdiv_neg, Int.fdiv_eq_ediv_of_nonneg _ (by omega)]
    rw [e]
    have hb' : b < 0 := by omega
    clear e hb h0
    obtain ⟨k1, k2⟩ := h
    obtain ⟨k3, k4⟩ := h2
    go_enter Tryd.func47, Tryd.ntmps47
    go_wp2_with (go_at_call 27; refine (H.out _).mono ?_; rintro e w' ⟨rfl, hw⟩; subst hw)
    go_ret
    exact ⟨ret_i64 (Int.ediv_neg _ _).symm, rfl⟩
theorem pow_62 (k : Nat) (h : k ≤ 62) : (2 : Int) ^ k ≤ 4611686018427387904 := by
  have : (2 : Nat) ^ k ≤ 2 ^ 62 := Nat.pow_le_pow_right (by omega) h
  have e : ((2 ^ k : Nat) : Int) = (2 : Int) ^ k := by simp
  omega
theorem power_c (n : Nat) (w : World) (h : n ≤ 62) :
    Calls Tryd.prog 45 #[.int .i64 n] w fun e w' => e = .returned (.int .i64 (2 ^ n)) ∧ w' = w := by
  go_enter Tryd.func45, Tryd.ntmps45
  go_wp2
  go_loop [3, 4] (fun o i => ∃ k : Nat, ∃ p : Int, k ≤ n ∧ i = .int .i64 k ∧ o = .int .i64 p ∧ p = 2 ^ k) (fun _ i => n - (intOf i).toNat)
  case atStart => exact ⟨0, 1, Nat.zero_le _, rfl, rfl, rfl⟩
  case round =>
    obtain ⟨k, p, hk, rfl, rfl, hp⟩ := hrel
    have hp1 := pow2_pos k
    have hp2 := pow_62 k (by omega)
    rw [← hp] at hp1 hp2
    have HP := Lib.hid hp
    clear hp
    by_cases hlt : k < n
    · have hp3 : 2 * p ≤ 4611686018427387904 := by
        have := pow_62 (k + 1) (by omega)
        rw [Int.pow_succ, ← HP.out] at this; omega
      go_wp2
      go_round
      case rel => exact ⟨k + 1, 2 * p, by omega, by go_num, rfl, by rw [HP.out, Int.pow_succ, Int.mul_comm]⟩
      case measure => simp [intOf]; omega
    · obtain rfl : k = n := by omega
      go_wp2
      go_ret
      exact ⟨ret_i64 HP.out, rfl⟩
theorem refquot_c (a b : Int) (w : World) (h : -4611686018427387905 ≤ a ∧ a ≤ 4611686018427387905) :
    Calls Tryd.prog 46 #[.int .i64 a, .int .i64 b] w fun e w' => e = .returned (.int .i64 (a.tdiv b)) ∧ w' = w := by
  by_cases hb : b = 0
  · subst hb
    rw [Int.tdiv_zero]
    go_enter Tryd.func46, Tryd.ntmps46
    go_wp2
    go_ret
    exact ⟨rfl, rfl⟩
  · have ht := tdiv_rng a b h
    have hw : wrap64 (a.tdiv b) = a.tdiv b := IntWalk.wrap64_in _ (by omega)
    have HW := Lib.hid hw
    have hb0 : (b == 0) = false := by simpa using hb
    clear ht h hw
    go_enter Tryd.func46, Tryd.ntmps46
    go_wp2
    go_ret
    exact ⟨ret_i64 HW.out, rfl⟩
theorem Truth_c (c : Bool) (w : World) : Calls Tryd.prog 29 #[.bool c] w fun e w' => e = .returned (.int .i32 (tr (c = true))) ∧ w' = w := by
  cases c
  · show Calls Tryd.prog 29 #[.bool false] w fun e w' => e = .returned (.int .i32 0) ∧ w' = w
    go_enter Tryd.func29, Tryd.ntmps29
    go_wp2
    go_ret
    exact ⟨rfl, rfl⟩
  · show Calls Tryd.prog 29 #[.bool true] w fun e w' => e = .returned (.int .i32 1) ∧ w' = w
    go_enter Tryd.func29, Tryd.ntmps29
    go_wp2
    go_ret
    exact ⟨rfl, rfl⟩
/-- What compared answers. -/
def cmpB (op a b : Int) : Bool := if op = 24 then decide (a = b) else if op = 25 then decide (a ≠ b) else if op = 26 then decide (a < b) else if op = 27 then decide (a ≤ b) else if op = 28 then decide (b < a) else decide (b ≤ a)
theorem ret_b {a b : Bool} (h : a = b) : Ending.returned (.bool a) = .returned (.bool b) := by rw [h]
theorem compared_c (op a b : Int) (w : World) (h : 24 ≤ op ∧ op ≤ 29) : Calls Tryd.prog 30 #[.int .i64 op, .int .i64 a, .int .i64 b] w fun e w' => e = .returned (.bool (cmpB op a b)) ∧ w' = w := by
  have hop : op = 24 ∨ op = 25 ∨ op = 26 ∨ op = 27 ∨ op = 28 ∨ op = 29 := by omega
  clear h
  rcases hop with rfl | rfl | rfl | rfl | rfl | rfl
  all_goals
    go_enter Tryd.func30, Tryd.ntmps30
    go_wp2
    go_ret
    refine ⟨ret_b ?_, rfl⟩
    unfold cmpB
    first | (simp [bne]; done) | (simp [bne]; rw [Bool.eq_iff_iff]; simp)
theorem cmp_tr (op a b : Int) (h : 24 ≤ op ∧ op ≤ 29) : tr (cmpB op a b = true) = binV op a b := by
  have hop : op = 24 ∨ op = 25 ∨ op = 26 ∨ op = 27 ∨ op = 28 ∨ op = 29 := by omega
  clear h
  rcases hop with rfl | rfl | rfl | rfl | rfl | rfl
  all_goals
    unfold binV cmpB
    simp only [Int.reduceEq, reduceIte]
    apply tr_decide
    simp

theorem ret_agg {a b c d : Int} (h : a = b) (h2 : c = d) : Ending.returned (.agg #[.int .i32 a, .int .i64 c]) = .returned (.agg #[.int .i32 b, .int .i64 d]) := by rw [h, h2]
theorem u4 (a : Int) : unV 4 a = wrap32 (a * 65536) := rfl
theorem u5 (a : Int) : unV 5 a = a / 65536 := rfl
theorem UnIn_c {w0 w : World} (op a : Int) (h : Run w0 w) (ha : I32 a) :
    Calls Tryd.prog 13 #[.int .i64 op, .int .i32 a] w fun e w' => e = .returned (.agg #[.int .i32 (unV op a), .int .i64 (unE op)]) ∧ Run w0 w' := by
  have H := Lib.hid h
  clear h
  have hb : Below w.heap.size w (w.alloc (.cells #[.int .i32 0, .int .i64 0] 25)) := (Below.refl _ _).alloc (Nat.le_refl _) _
  by_cases h : op < 1 ∨ 5 < op
  · have h10 : (op == 1) = false := by simp; omega
    have h11 : (op == 2) = false := by simp; omega
    have h12 : (op == 3) = false := by simp; omega
    have h13 : (op == 4) = false := by simp; omega
    have h14 : (op == 5) = false := by simp; omega
    have e : unE op = 1 := by unfold unE; rw [if_neg (by omega)]
    have e2 : unV op a = 0 := by
      unfold unV
      repeat rw [if_neg (by omega)]
    rw [e, e2]
    obtain ⟨k1, k2⟩ := ha
    clear h e e2 hb
    go_enter Tryd.func13, Tryd.ntmps13
    go_wp2
    exact bodyPost_ret (v := .agg #[.int .i32 0, .int .i64 1]) (by simp [results, Tryd.results13, go_sem]) rfl ⟨rfl, H.out.on ((Below.refl _ _).alloc (Nat.le_refl _) _)⟩
  · have e : unE op = 0 := by unfold unE; rw [if_pos (by omega)]
    rw [e]
    have hop : op = 1 ∨ op = 2 ∨ op = 3 ∨ op = 4 ∨ op = 5 := by omega
    clear e h hb
    have hu2 := not_eq ha
    have hin := win ha
    obtain ⟨k1, k2⟩ := ha
    rcases hop with rfl | rfl | rfl | rfl | rfl
    · have HE := Lib.hid (show wrap32 (-a) = unV 1 a from rfl)
      clear hu2 hin
      go_enter Tryd.func13, Tryd.ntmps13
      go_wp2_with (go_at_call 26; refine (refwrap_c _ _).mono ?_; rintro e w' ⟨rfl, hw⟩; subst hw; rw [HE.out])
      exact bodyPost_ret (v := .agg #[.int .i32 (unV 1 a), .int .i64 0]) (by simp [results, Tryd.results13, go_sem]) rfl ⟨rfl, H.out.on ((Below.refl _ _).alloc (Nat.le_refl _) _)⟩
    · have HE := Lib.hid (show wrap32 (-a - 1) = unV 2 a by rw [hu2]; exact IntWalk.wrap32_in _ (by omega))
      clear hu2 hin
      go_enter Tryd.func13, Tryd.ntmps13
      go_wp2_with (go_at_call 26; refine (refwrap_c _ _).mono ?_; rintro e w' ⟨rfl, hw⟩; subst hw; rw [HE.out])
      exact bodyPost_ret (v := .agg #[.int .i32 (unV 2 a), .int .i64 0]) (by simp [results, Tryd.results13, go_sem]) rfl ⟨rfl, H.out.on ((Below.refl _ _).alloc (Nat.le_refl _) _)⟩
    · obtain ⟨m, hm⟩ : ∃ m, -a = m := ⟨_, rfl⟩
      have HE := Lib.hid (show wrap32 (max a m) = unV 3 a by
        by_cases h0 : 0 ≤ a
        · rw [Int.max_eq_left (by omega), hin]; simp [unV, h0]
        · rw [Int.max_eq_right (by omega), ← hm]; simp [unV, h0])
      have k3 : m ≤ 2147483648 := by omega
      have k4 : -2147483648 ≤ m := by omega
      clear hu2 hin
      go_enter Tryd.func13, Tryd.ntmps13
      go_wp2_with (go_at_call 26; refine (refwrap_c _ _).mono ?_; rintro e w' ⟨rfl, hw⟩; subst hw; rw [HE.out])
      exact bodyPost_ret (v := .agg #[.int .i32 (unV 3 a), .int .i64 0]) (by simp [results, Tryd.results13, go_sem]) rfl ⟨rfl, H.out.on ((Below.refl _ _).alloc (Nat.le_refl _) _)⟩
    · have HE := Lib.hid (show wrap32 (a * 65536) = unV 4 a from rfl)
      clear hu2 hin
      go_enter Tryd.func13, Tryd.ntmps13
      go_wp2_with (go_at_call 26; refine (refwrap_c _ _).mono ?_; rintro e w' ⟨rfl, hw⟩; subst hw; rw [HE.out])
      exact bodyPost_ret (v := .agg #[.int .i32 (unV 4 a), .int .i64 0]) (by simp [results, Tryd.results13, go_sem]) rfl ⟨rfl, H.out.on ((Below.refl _ _).alloc (Nat.le_refl _) _)⟩
    · have HE := Lib.hid (show wrap32 (a / 65536) = unV 5 a by rw [u5]; exact IntWalk.wrap32_in _ (by omega))
      clear hu2 hin
      go_enter Tryd.func13, Tryd.ntmps13
      go_wp2_with (first | (go_at_call 27; refine (floor_c _ _ _ (by omega) (by omega)).mono ?_; rintro e w' ⟨rfl, hw⟩; subst hw) | (go_at_call 26; refine (refwrap_c _ _).mono ?_; rintro e w' ⟨rfl, hw⟩; subst hw; rw [HE.out]))
      exact bodyPost_ret (v := .agg #[.int .i32 (unV 5 a), .int .i64 0]) (by simp [results, Tryd.results13, go_sem]) rfl ⟨rfl, H.out.on ((Below.refl _ _).alloc (Nat.le_refl _) _)⟩
end Go.Proofs.YtikkmcgbmiddaaaDoor
