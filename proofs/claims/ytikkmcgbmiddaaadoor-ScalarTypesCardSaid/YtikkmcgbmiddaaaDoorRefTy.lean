/-
  Contracts of the reference's UnTypeIn and BinTypeIn: the types of results are those of package scalar (unTV, unTE, binTV, binTE).
-/
import Derived.Test.YtikkmcgbmiddaaaDoorTypes
import Derived.Test.YtikkmcgbmiddaaaDoorReads
namespace Go.Proofs.YtikkmcgbmiddaaaDoor
open Go.ChangeShapes Go.WideShapes Go.ChangeAt Go.RowKit
set_option linter.unusedVariables false

theorem kind_c (t : Int) (w : World) : Calls Tryd.prog 35 #[.int .i64 t] w fun e w' => e = .returned (.bool (isT t)) ∧ w' = w := by
  by_cases h1 : 1 ≤ t
  · by_cases h2 : t ≤ 3
    · rw [show isT t = true from decide_eq_true ⟨h1, h2⟩]
      go_enter Tryd.func35, Tryd.ntmps35
      go_wp2
      go_ret
      exact ⟨by simp, rfl⟩
    · rw [show isT t = false from decide_eq_false fun h => h2 h.2]
      go_enter Tryd.func35, Tryd.ntmps35
      go_wp2
      go_ret
      exact ⟨by simp, rfl⟩
  · rw [show isT t = false from decide_eq_false fun h => h1 h.1]
    go_enter Tryd.func35, Tryd.ntmps35
    go_wp2
    go_ret
    exact ⟨rfl, rfl⟩
theorem fits_c {w0 w : World} (t : Int) (c : Bool) (h : Run w0 w) : Calls Tryd.prog 40 #[.bool c, .int .i64 t] w fun e w' => e = .returned (.agg #[.int .i64 (resV t c), .int .i64 (resE c)]) ∧ Run w0 w' := by
  have H := Lib.hid h
  clear h
  cases c
  · show Calls Tryd.prog 40 #[.bool false, .int .i64 t] w fun e w' => e = .returned (.agg #[.int .i64 0, .int .i64 31]) ∧ Run w0 w'
    go_enter Tryd.func40, Tryd.ntmps40
    go_wp2
    exact bodyPost_ret (v := .agg #[.int .i64 0, .int .i64 31]) (by simp [results, Tryd.results40, go_sem]) rfl ⟨rfl, H.out.on ((Below.refl _ _).alloc (Nat.le_refl _) _)⟩
  · show Calls Tryd.prog 40 #[.bool true, .int .i64 t] w fun e w' => e = .returned (.agg #[.int .i64 t, .int .i64 0]) ∧ Run w0 w'
    go_enter Tryd.func40, Tryd.ntmps40
    go_wp2
    exact bodyPost_ret (v := .agg #[.int .i64 t, .int .i64 0]) (by simp [results, Tryd.results40, go_sem]) rfl ⟨rfl, H.out.on ((Below.refl _ _).alloc (Nat.le_refl _) _)⟩

set_option maxRecDepth 100000 in
theorem UnTypeIn_c {w0 w : World} (op t : Int) (h : Run w0 w) : Calls Tryd.prog 22 #[.int .i64 op, .int .i64 t] w fun e w' => e = .returned (.agg #[.int .i64 (unTV op t), .int .i64 (unTE op t)]) ∧ Run w0 w' := by
  have H := Lib.hid h
  clear h
  have hba0 : Below w.heap.size w (w.alloc (.cells #[.int .i64 0, .int .i64 0] 44)) := (Below.refl _ _).alloc (Nat.le_refl _) _
  have HBA := Lib.hid hba0
  clear hba0
  by_cases ho : 1 ≤ op ∧ op ≤ 5
  · have HI0 := fun w => kind_c t w
    cases ht : isT t
    · have hn : unIn op t = false := by unfold unIn; rw [ht, Bool.and_false]
      have e1 : unTV op t = 0 := by unfold unTV; rw [hn]; rfl
      have e2 : unTE op t = 1 := by unfold unTE; rw [hn]; rfl
      rw [e1, e2]
      rw [ht] at HI0
      have HI := Lib.hid HI0
      obtain ⟨ho1, ho2⟩ := ho
      clear hn e1 e2 ht HI0
      go_enter Tryd.func22, Tryd.ntmps22
      go_wp2_with (go_at_call 35; (with_reducible refine (HI.out _).mono ?_); rintro e w' ⟨rfl, hw⟩; replace hw := hw.symm; subst hw)
      exact bodyPost_ret (v := .agg #[.int .i64 0, .int .i64 1]) (by simp [results, Tryd.results22, go_sem]) rfl ⟨rfl, H.out.on ((Below.refl _ _).alloc (Nat.le_refl _) _)⟩
    · have hn : unIn op t = true := by unfold unIn; rw [ht, decide_eq_true ho]; rfl
      have e1 : unTV op t = resV (unR op t) (unC op t) := by unfold unTV; rw [hn]; rfl
      have e2 : unTE op t = resE (unC op t) := by unfold unTE; rw [hn]; rfl
      rw [e1, e2]
      rw [ht] at HI0
      have HI := Lib.hid HI0
      have hop : op = 1 ∨ op = 2 ∨ op = 3 ∨ op = 4 ∨ op = 5 := by omega
      clear hn e1 e2 ht ho HI0
      rcases hop with rfl | rfl | rfl | rfl | rfl
      all_goals
        go_enter Tryd.func22, Tryd.ntmps22
        go_wp2_with (first | (go_at_call 35; (with_reducible refine (HI.out _).mono ?_); rintro e w' ⟨rfl, hw⟩; replace hw := hw.symm; subst hw) | (go_at_call 40; refine (fits_c _ _ (Run.start (H.out.2.on HBA.out))).mono ?_; rintro e w' ⟨rfl, hr⟩; obtain ⟨hc, hf⟩ := bcell hr.1; have hz : w.heap.size < w'.heap.size := (by have := hr.1.size; simp at this; omega); have HB := Lib.hid hr.1; clear hr))
        exact bodyPost_ret (v := .agg #[.int .i64 _, .int .i64 _]) (by simp [results, Tryd.results22, go_sem, hc]; exact ⟨rfl, rfl⟩) rfl ⟨rfl, H.out.on ((((Below.refl _ _).alloc (Nat.le_refl _) _).trans (HB.out.mono (by simp))).setCell (by simp) _ |>.setCell (by simp) _)⟩
  · have hn : unIn op t = false := by unfold unIn; rw [decide_eq_false ho]; rfl
    have e1 : unTV op t = 0 := by unfold unTV; rw [hn]; rfl
    have e2 : unTE op t = 1 := by unfold unTE; rw [hn]; rfl
    rw [e1, e2]
    clear hn e1 e2
    by_cases h1 : op < 1
    · clear ho
      go_enter Tryd.func22, Tryd.ntmps22
      go_wp2_with fail
      exact bodyPost_ret (v := .agg #[.int .i64 0, .int .i64 1]) (by simp [results, Tryd.results22, go_sem]) rfl ⟨rfl, H.out.on ((Below.refl _ _).alloc (Nat.le_refl _) _)⟩
    · have h2 : 5 < op := by omega
      have h3 : 1 ≤ op := by omega
      clear ho h1
      go_enter Tryd.func22, Tryd.ntmps22
      go_wp2_with fail
      exact bodyPost_ret (v := .agg #[.int .i64 0, .int .i64 1]) (by simp [results, Tryd.results22, go_sem]) rfl ⟨rfl, H.out.on ((Below.refl _ _).alloc (Nat.le_refl _) _)⟩

set_option maxRecDepth 100000 in
set_option maxHeartbeats 3200000 in
theorem BinTypeIn_in {w0 w : World} (op t : Int) (h : Run w0 w) (ho : 10 ≤ op ∧ op ≤ 29) (ht : isT t = true) : Calls Tryd.prog 24 #[.int .i64 op, .int .i64 t, .int .i64 t] w fun e w' => e = .returned (.agg #[.int .i64 (resV (binR op t) (binC op t)), .int .i64 (resE (binC op t))]) ∧ Run w0 w' := by
  have H := Lib.hid h
  clear h
  have HBA := Lib.hid (show Below w.heap.size w (w.alloc (.cells #[.int .i64 0, .int .i64 0] 44)) from (Below.refl _ _).alloc (Nat.le_refl _) _)
  have HI0 := fun w => kind_c t w
  rw [ht] at HI0
  have HI := Lib.hid HI0
  clear HI0 ht
  by_cases he : op = 24 ∨ op = 25
  · clear ho
    rcases he with rfl | rfl
    all_goals
      go_enter Tryd.func24, Tryd.ntmps24
      go_wp2_with (go_at_call 35; (with_reducible refine (HI.out _).mono ?_); rintro e w' ⟨rfl, hw⟩; replace hw := hw.symm; subst hw)
      exact bodyPost_ret (v := .agg #[.int .i64 3, .int .i64 0]) (by simp [results, Tryd.results24, go_sem]) rfl ⟨rfl, H.out.on ((Below.refl _ _).alloc (Nat.le_refl _) _)⟩
  · have hop : op = 10 ∨ op = 11 ∨ op = 12 ∨ op = 13 ∨ op = 14 ∨ op = 15 ∨ op = 16 ∨ op = 17 ∨ op = 18 ∨ op = 19 ∨ op = 20 ∨ op = 21 ∨ op = 22 ∨ op = 23 ∨ op = 26 ∨ op = 27 ∨ op = 28 ∨ op = 29 := by omega
    clear ho he
    rcases hop with rfl | rfl | rfl | rfl | rfl | rfl | rfl | rfl | rfl | rfl | rfl | rfl | rfl | rfl | rfl | rfl | rfl | rfl
    all_goals
      go_enter Tryd.func24, Tryd.ntmps24
      go_wp2_with (first | (go_at_call 35; (with_reducible refine (HI.out _).mono ?_); rintro e w' ⟨rfl, hw⟩; replace hw := hw.symm; subst hw) | (go_at_call 40; refine (fits_c _ _ (Run.start (H.out.2.on HBA.out))).mono ?_; rintro e w' ⟨rfl, hr⟩; obtain ⟨hc, hf⟩ := bcell hr.1; have hz : w.heap.size < w'.heap.size := (by have := hr.1.size; simp at this; omega); have HB := Lib.hid hr.1; clear hr))
      exact bodyPost_ret (v := .agg #[.int .i64 _, .int .i64 _]) (by simp [results, Tryd.results24, go_sem, hc]; exact ⟨rfl, rfl⟩) rfl ⟨rfl, H.out.on ((((Below.refl _ _).alloc (Nat.le_refl _) _).trans (HB.out.mono (by simp))).setCell (by simp) _ |>.setCell (by simp) _)⟩

set_option maxRecDepth 100000 in
set_option maxHeartbeats 1600000 in
theorem BinTypeIn_c {w0 w : World} (op t u : Int) (h : Run w0 w) : Calls Tryd.prog 24 #[.int .i64 op, .int .i64 t, .int .i64 u] w fun e w' => e = .returned (.agg #[.int .i64 (binTV op t u), .int .i64 (binTE op t u)]) ∧ Run w0 w' := by
  cases hn : binIn op t u
  · have H := Lib.hid h
    clear h
    have e1 : binTV op t u = 0 := by unfold binTV; rw [hn]; rfl
    have e2 : binTE op t u = 1 := by unfold binTE; rw [hn]; rfl
    rw [e1, e2]
    clear e1 e2
    by_cases ho : 10 ≤ op ∧ op ≤ 29
    · have hn2 : (isT t && isT u) = false := by unfold binIn at hn; rw [decide_eq_true ho] at hn; simpa using hn
      clear hn
      have H1 := fun w => kind_c t w
      have H2 := fun w => kind_c u w
      obtain ⟨ho1, ho2⟩ := ho
      cases ht : isT t
      · rw [ht] at H1
        clear hn2 ht
        have HI := Lib.hid H1
        clear H1 H2
        go_enter Tryd.func24, Tryd.ntmps24
        go_wp2_with (go_at_call 35; (with_reducible refine (HI.out _).mono ?_); rintro e w' ⟨rfl, hw⟩; replace hw := hw.symm; subst hw)
        exact bodyPost_ret (v := .agg #[.int .i64 0, .int .i64 1]) (by simp [results, Tryd.results24, go_sem]) rfl ⟨rfl, H.out.on ((Below.refl _ _).alloc (Nat.le_refl _) _)⟩
      · rw [ht] at H1 hn2
        have hu : isT u = false := by simpa using hn2
        rw [hu] at H2
        clear hn2 ht hu
        have HI := Lib.hid H1
        have HJ := Lib.hid H2
        clear H1 H2
        go_enter Tryd.func24, Tryd.ntmps24
        go_wp2_with (first | (go_at_call 35; (with_reducible refine (HI.out _).mono ?_); rintro e w' ⟨rfl, hw⟩; replace hw := hw.symm; subst hw) | (go_at_call 35; (with_reducible refine (HJ.out _).mono ?_); rintro e w' ⟨rfl, hw⟩; replace hw := hw.symm; subst hw))
        exact bodyPost_ret (v := .agg #[.int .i64 0, .int .i64 1]) (by simp [results, Tryd.results24, go_sem]) rfl ⟨rfl, H.out.on ((Below.refl _ _).alloc (Nat.le_refl _) _)⟩
    · clear hn
      by_cases h1 : op < 10
      · clear ho
        go_enter Tryd.func24, Tryd.ntmps24
        go_wp2_with fail
        exact bodyPost_ret (v := .agg #[.int .i64 0, .int .i64 1]) (by simp [results, Tryd.results24, go_sem]) rfl ⟨rfl, H.out.on ((Below.refl _ _).alloc (Nat.le_refl _) _)⟩
      · have h2 : 29 < op := by omega
        have h3 : 10 ≤ op := by omega
        clear ho h1
        go_enter Tryd.func24, Tryd.ntmps24
        go_wp2_with fail
        exact bodyPost_ret (v := .agg #[.int .i64 0, .int .i64 1]) (by simp [results, Tryd.results24, go_sem]) rfl ⟨rfl, H.out.on ((Below.refl _ _).alloc (Nat.le_refl _) _)⟩
  · have hin : (10 ≤ op ∧ op ≤ 29) ∧ isT t = true ∧ isT u = true := by
      unfold binIn at hn; simp only [Bool.and_eq_true, decide_eq_true_eq] at hn; exact ⟨hn.1.1, hn.1.2, hn.2⟩
    by_cases hq : t = u
    · subst hq
      have e1 : binTV op t t = resV (binR op t) (binC op t) := by unfold binTV; rw [if_pos ⟨hn, rfl⟩]
      have e2 : binTE op t t = resE (binC op t) := by unfold binTE; rw [if_pos hn, if_pos rfl]
      rw [e1, e2]
      exact BinTypeIn_in op t h hin.1 hin.2.1
    · have H := Lib.hid h
      clear h
      have e1 : binTV op t u = 0 := by unfold binTV; rw [if_neg (fun h => hq h.2)]
      have e2 : binTE op t u = 31 := by unfold binTE; rw [if_pos hn, if_neg hq]
      rw [e1, e2]
      clear e1 e2 hn
      obtain ⟨⟨ho1, ho2⟩, ht, hu⟩ := hin
      have H1 := fun w => kind_c t w
      have H2 := fun w => kind_c u w
      rw [ht] at H1
      rw [hu] at H2
      clear ht hu
      have HI := Lib.hid H1
      have HJ := Lib.hid H2
      clear H1 H2
      have hq2 : (t != u) = true := by simpa using hq
      have hq3 : (t == u) = false := by simpa using hq
      clear hq
      go_enter Tryd.func24, Tryd.ntmps24
      go_wp2_with (first | (go_at_call 35; (with_reducible refine (HI.out _).mono ?_); rintro e w' ⟨rfl, hw⟩; replace hw := hw.symm; subst hw) | (go_at_call 35; (with_reducible refine (HJ.out _).mono ?_); rintro e w' ⟨rfl, hw⟩; replace hw := hw.symm; subst hw))
      exact bodyPost_ret (v := .agg #[.int .i64 0, .int .i64 31]) (by simp [results, Tryd.results24, go_sem]) rfl ⟨rfl, H.out.on ((Below.refl _ _).alloc (Nat.le_refl _) _)⟩
end Go.Proofs.YtikkmcgbmiddaaaDoor
