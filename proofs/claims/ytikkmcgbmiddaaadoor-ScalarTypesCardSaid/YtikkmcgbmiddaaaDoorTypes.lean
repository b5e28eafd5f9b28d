/-
  Contracts of scalar.UnType and scalar.BinType, and of the laws' helpers unType and binType: for every operator and all types, what they return, as plain functions (unTV, unTE, binTV, binTE).
-/
import Derived.Test.YtikkmcgbmiddaaaDoorMem
namespace Go.Proofs.YtikkmcgbmiddaaaDoor
open Go.ChangeShapes Go.WideShapes Go.ChangeAt Go.RowKit

def isT (t : Int) : Bool := decide (1 ≤ t ∧ t ≤ 3)
def resV (t : Int) (c : Bool) : Int := match c with | true => t | false => 0
def resE (c : Bool) : Int := match c with | true => 0 | false => 31
/-- The type of the result of an operator with one operand where its operand fits. -/
def unR (op t : Int) : Int := if op = 4 then 2 else if op = 5 then 1 else t
def unC (op t : Int) : Bool := if op = 1 ∨ op = 3 then t != 3 else if op = 2 then t != 2 else if op = 4 then t == 1 else t == 2
def unIn (op t : Int) : Bool := decide (1 ≤ op ∧ op ≤ 5) && isT t
def unTV (op t : Int) : Int := if unIn op t = true then resV (unR op t) (unC op t) else 0
def unTE (op t : Int) : Int := if unIn op t = true then resE (unC op t) else 1
/-- The same for two operands of the same type. -/
def binR (op t : Int) : Int := if 24 ≤ op then 3 else t
def binC (op t : Int) : Bool :=
  if op = 10 ∨ op = 11 ∨ op = 22 ∨ op = 23 then t != 3 else if op = 12 ∨ op = 13 ∨ op = 14 ∨ op = 20 ∨ op = 21 then t == 1 else if op = 15 ∨ op = 16 then t == 2
  else if op = 17 ∨ op = 18 ∨ op = 19 then t != 2 else if op = 24 ∨ op = 25 then true else t != 3
def binIn (op t u : Int) : Bool := decide (10 ≤ op ∧ op ≤ 29) && isT t && isT u
def binTV (op t u : Int) : Int := if binIn op t u = true ∧ t = u then resV (binR op t) (binC op t) else 0
def binTE (op t u : Int) : Int := if binIn op t u = true then (if t = u then resE (binC op t) else 31) else 1

theorem isType_any (t : Int) (w : World) : Calls Tryd.prog 55 #[.int .i64 t] w fun e w' => e = .returned (.bool (isT t)) ∧ w' = w := by
  by_cases h1 : 1 ≤ t
  · by_cases h2 : t ≤ 3
    · rw [show isT t = true from decide_eq_true ⟨h1, h2⟩]
      go_enter Tryd.func55, Tryd.ntmps55
      go_wp2
      go_ret
      exact ⟨by simp, rfl⟩
    · rw [show isT t = false from decide_eq_false fun h => h2 h.2]
      go_enter Tryd.func55, Tryd.ntmps55
      go_wp2
      go_ret
      exact ⟨by simp, rfl⟩
  · rw [show isT t = false from decide_eq_false fun h => h1 h.1]
    go_enter Tryd.func55, Tryd.ntmps55
    go_wp2
    go_ret
    exact ⟨rfl, rfl⟩
theorem result_any (t : Int) (c : Bool) (w : World) : Calls Tryd.prog 56 #[.int .i64 t, .bool c] w fun e w' => e = .returned (.tuple #[.int .i64 (resV t c), .int .i64 (resE c)]) ∧ w' = w := by
  cases c
  · show Calls Tryd.prog 56 #[.int .i64 t, .bool false] w fun e w' => e = .returned (.tuple #[.int .i64 0, .int .i64 31]) ∧ w' = w
    go_enter Tryd.func56, Tryd.ntmps56
    go_wp2
    go_ret2
    exact ⟨rfl, rfl⟩
  · show Calls Tryd.prog 56 #[.int .i64 t, .bool true] w fun e w' => e = .returned (.tuple #[.int .i64 t, .int .i64 0]) ∧ w' = w
    go_enter Tryd.func56, Tryd.ntmps56
    go_wp2
    go_ret2
    exact ⟨rfl, rfl⟩
theorem ret2_64 {a b c d : Int} (h : a = b) (h2 : c = d) : Ending.returned (.tuple #[.int .i64 a, .int .i64 c]) = .returned (.tuple #[.int .i64 b, .int .i64 d]) := by rw [h, h2]

theorem UnType_any (op t : Int) (w : World) : Calls Tryd.prog 39 #[.int .i64 op, .int .i64 t] w fun e w' => e = .returned (.tuple #[.int .i64 (unTV op t), .int .i64 (unTE op t)]) ∧ w' = w := by
  by_cases ho : 1 ≤ op ∧ op ≤ 5
  · cases ht : isT t
    · have hn : unIn op t = false := by unfold unIn; rw [ht, Bool.and_false]
      have e1 : unTV op t = 0 := by unfold unTV; rw [hn]; rfl
      have e2 : unTE op t = 1 := by unfold unTE; rw [hn]; rfl
      rw [e1, e2]
      have H := fun w => isType_any t w
      rw [ht] at H
      obtain ⟨ho1, ho2⟩ := ho
      clear hn e1 e2 ht
      have HI := Lib.hid H
      clear H
      go_enter Tryd.func39, Tryd.ntmps39
      go_wp2_with (go_at_call 55; refine (HI.out _).mono ?_; rintro e w' ⟨rfl, hw⟩; subst hw)
      go_ret2
      exact ⟨rfl, rfl⟩
    · have hn : unIn op t = true := by unfold unIn; rw [ht, decide_eq_true ho]; rfl
      have e1 : unTV op t = resV (unR op t) (unC op t) := by unfold unTV; rw [hn]; rfl
      have e2 : unTE op t = resE (unC op t) := by unfold unTE; rw [hn]; rfl
      rw [e1, e2]
      have H := fun w => isType_any t w
      rw [ht] at H
      have hop : op = 1 ∨ op = 2 ∨ op = 3 ∨ op = 4 ∨ op = 5 := by omega
      clear hn e1 e2 ht ho
      have HI := Lib.hid H
      clear H
      rcases hop with rfl | rfl | rfl | rfl | rfl
      all_goals
        go_enter Tryd.func39, Tryd.ntmps39
        go_wp2_with (first | (go_at_call 55; refine (HI.out _).mono ?_; rintro e w' ⟨rfl, hw⟩; subst hw) | (go_at_call 56; refine (result_any _ _ _).mono ?_; rintro e w' ⟨rfl, hw⟩; subst hw))
        go_ret2
        exact ⟨rfl, rfl⟩
  · have hn : unIn op t = false := by unfold unIn; rw [decide_eq_false ho]; rfl
    have e1 : unTV op t = 0 := by unfold unTV; rw [hn]; rfl
    have e2 : unTE op t = 1 := by unfold unTE; rw [hn]; rfl
    rw [e1, e2]
    clear hn e1 e2
    by_cases h1 : op < 1
    · clear ho
      go_enter Tryd.func39, Tryd.ntmps39
      go_wp2_with fail
      go_ret2
      exact ⟨rfl, rfl⟩
    · have h2 : 5 < op := by omega
      have h3 : 1 ≤ op := by omega
      clear ho h1
      go_enter Tryd.func39, Tryd.ntmps39
      go_wp2_with fail
      go_ret2
      exact ⟨rfl, rfl⟩

set_option maxRecDepth 100000 in
set_option maxHeartbeats 1600000 in
theorem BinType_in (op t : Int) (w : World) (ho : 10 ≤ op ∧ op ≤ 29) (ht : isT t = true) : Calls Tryd.prog 41 #[.int .i64 op, .int .i64 t, .int .i64 t] w fun e w' => e = .returned (.tuple #[.int .i64 (resV (binR op t) (binC op t)), .int .i64 (resE (binC op t))]) ∧ w' = w := by
  have H := fun w => isType_any t w
  rw [ht] at H
  have hop : op = 10 ∨ op = 11 ∨ op = 12 ∨ op = 13 ∨ op = 14 ∨ op = 15 ∨ op = 16 ∨ op = 17 ∨ op = 18 ∨ op = 19 ∨ op = 20 ∨ op = 21 ∨ op = 22 ∨ op = 23 ∨ op = 24 ∨ op = 25 ∨ op = 26 ∨ op = 27 ∨ op = 28 ∨ op = 29 := by omega
  clear ht ho
  have HI := Lib.hid H
  clear H
  rcases hop with rfl | rfl | rfl | rfl | rfl | rfl | rfl | rfl | rfl | rfl | rfl | rfl | rfl | rfl | rfl | rfl | rfl | rfl | rfl | rfl
  all_goals
    go_enter Tryd.func41, Tryd.ntmps41
    go_wp2_with (first | (go_at_call 55; refine (HI.out _).mono ?_; rintro e w' ⟨rfl, hw⟩; subst hw) | (go_at_call 56; refine (result_any _ _ _).mono ?_; rintro e w' ⟨rfl, hw⟩; subst hw))
    go_ret2
    exact ⟨rfl, rfl⟩

set_option maxRecDepth 100000 in
set_option maxHeartbeats 1600000 in
theorem BinType_any (op t u : Int) (w : World) : Calls Tryd.prog 41 #[.int .i64 op, .int .i64 t, .int .i64 u] w fun e w' => e = .returned (.tuple #[.int .i64 (binTV op t u), .int .i64 (binTE op t u)]) ∧ w' = w := by
  cases hn : binIn op t u
  · have e1 : binTV op t u = 0 := by unfold binTV; rw [hn]; rfl
    have e2 : binTE op t u = 1 := by unfold binTE; rw [hn]; rfl
    rw [e1, e2]
    clear e1 e2
    by_cases ho : 10 ≤ op ∧ op ≤ 29
    · have hn2 : (isT t && isT u) = false := by unfold binIn at hn; rw [decide_eq_true ho] at hn; simpa using hn
      clear hn
      have H := fun w => isType_any t w
      have H2 := fun w => isType_any u w
      obtain ⟨ho1, ho2⟩ := ho
      cases ht : isT t
      · rw [ht] at H
        clear hn2 ht
        have HI := Lib.hid H
        clear H H2
        go_enter Tryd.func41, Tryd.ntmps41
        go_wp2_with (go_at_call 55; refine (HI.out _).mono ?_; rintro e w' ⟨rfl, hw⟩; subst hw)
        go_ret2
        exact ⟨rfl, rfl⟩
      · rw [ht] at H hn2
        have hu : isT u = false := by simpa using hn2
        rw [hu] at H2
        clear hn2 ht hu
        have HI := Lib.hid H
        have HJ := Lib.hid H2
        clear H H2
        go_enter Tryd.func41, Tryd.ntmps41
        go_wp2_with (first | (go_at_call 55; refine (HI.out _).mono ?_; rintro e w' ⟨rfl, hw⟩; subst hw) | (go_at_call 55; refine (HJ.out _).mono ?_; rintro e w' ⟨rfl, hw⟩; subst hw))
        go_ret2
        exact ⟨rfl, rfl⟩
    · clear hn
      by_cases h1 : op < 10
      · clear ho
        go_enter Tryd.func41, Tryd.ntmps41
        go_wp2_with fail
        go_ret2
        exact ⟨rfl, rfl⟩
      · have h2 : 29 < op := by omega
        have h3 : 10 ≤ op := by omega
        clear ho h1
        go_enter Tryd.func41, Tryd.ntmps41
        go_wp2_with fail
        go_ret2
        exact ⟨rfl, rfl⟩
  · have hin : (10 ≤ op ∧ op ≤ 29) ∧ isT t = true ∧ isT u = true := by
      unfold binIn at hn; simp only [Bool.and_eq_true, decide_eq_true_eq] at hn; exact ⟨hn.1.1, hn.1.2, hn.2⟩
    by_cases hq : t = u
    · subst hq
      have e1 : binTV op t t = resV (binR op t) (binC op t) := by unfold binTV; rw [if_pos ⟨hn, rfl⟩]
      have e2 : binTE op t t = resE (binC op t) := by unfold binTE; rw [if_pos hn, if_pos rfl]
      rw [e1, e2]
      exact BinType_in op t w hin.1 hin.2.1
    · have e1 : binTV op t u = 0 := by unfold binTV; rw [if_neg (fun h => hq h.2)]
      have e2 : binTE op t u = 31 := by unfold binTE; rw [if_pos hn, if_neg hq]
      rw [e1, e2]
      clear e1 e2 hn
      obtain ⟨⟨ho1, ho2⟩, ht, hu⟩ := hin
      have H := fun w => isType_any t w
      have H2 := fun w => isType_any u w
      rw [ht] at H
      rw [hu] at H2
      clear ht hu
      have HI := Lib.hid H
      have HJ := Lib.hid H2
      clear H H2
      have hq2 : (t != u) = true := by simpa using hq
      have hq3 : (t == u) = false := by simpa using hq
      clear hq
      go_enter Tryd.func41, Tryd.ntmps41
      go_wp2_with (first | (go_at_call 55; refine (HI.out _).mono ?_; rintro e w' ⟨rfl, hw⟩; subst hw) | (go_at_call 55; refine (HJ.out _).mono ?_; rintro e w' ⟨rfl, hw⟩; subst hw))
      go_ret2
      exact ⟨rfl, rfl⟩

theorem unType_c {w0 w : World} (op t : Int) (h : Run w0 w) :
    Calls Tryd.prog 21 #[.int .i64 op, .int .i64 t] w fun e w' => e = .returned (.agg #[.int .i64 (unTV op t), .int .i64 (unTE op t)]) ∧ Run w0 w' := by
  have H := Lib.hid h
  clear h
  go_enter Tryd.func21, Tryd.ntmps21
  go_wp2_with (go_at_call 39; refine (UnType_any op t _).mono ?_; rintro e w' ⟨rfl, hw⟩; subst hw)
  exact bodyPost_ret (v := .agg #[.int .i64 (unTV op t), .int .i64 (unTE op t)]) (by simp [results, Tryd.results21, go_sem]) rfl ⟨rfl, H.out.on ((Below.refl _ _).alloc (Nat.le_refl _) _)⟩
theorem binType_c {w0 w : World} (op t u : Int) (h : Run w0 w) :
    Calls Tryd.prog 23 #[.int .i64 op, .int .i64 t, .int .i64 u] w fun e w' => e = .returned (.agg #[.int .i64 (binTV op t u), .int .i64 (binTE op t u)]) ∧ Run w0 w' := by
  have H := Lib.hid h
  clear h
  go_enter Tryd.func23, Tryd.ntmps23
  go_wp2_with (go_at_call 41; refine (BinType_any op t u _).mono ?_; rintro e w' ⟨rfl, hw⟩; subst hw)
  exact bodyPost_ret (v := .agg #[.int .i64 (binTV op t u), .int .i64 (binTE op t u)]) (by simp [results, Tryd.results23, go_sem]) rfl ⟨rfl, H.out.on ((Below.refl _ _).alloc (Nat.le_refl _) _)⟩
end Go.Proofs.YtikkmcgbmiddaaaDoor
