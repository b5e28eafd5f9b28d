/-
  Contract of the reference's BinIn, and the walk of ScalarMatchesReference: for every operator and all values the law returns true.
-/
import Derived.Test.YtikkmcgbmiddaaaDoorRefB
import Derived.Test.YtikkmcgbmiddaaaDoorRefC
namespace Go.Proofs.YtikkmcgbmiddaaaDoor
open Go.ChangeShapes Go.WideShapes Go.ChangeAt Go.RowKit
set_option linter.unusedVariables false

theorem BinIn_c {w0 w : World} (op a b : Int) (h : Run w0 w) (ha : I32 a) (hb : I32 b) :
    Calls Tryd.prog 15 #[.int .i64 op, .int .i32 a, .int .i32 b] w fun e w' => e = .returned (.agg #[.int .i32 (binV op a b), .int .i64 (binE op)]) ∧ Run w0 w' := by
  have H := Lib.hid h
  clear h
  by_cases h1 : op < 10 ∨ 29 < op
  · have e : binE op = 1 := by unfold binE; rw [if_neg (by omega)]
    have e2 : binV op a b = 0 := by
      unfold binV
      repeat rw [if_neg (by omega)]
    rw [e, e2]
    clear e e2 ha hb
    by_cases h2 : op < 10
    · clear h1
      go_enter Tryd.func15, Tryd.ntmps15
      go_wp2
      exact bodyPost_ret (v := .agg #[.int .i32 0, .int .i64 1]) (by simp [results, Tryd.results15, go_sem]) rfl ⟨rfl, H.out.on ((Below.refl _ _).alloc (Nat.le_refl _) _)⟩
    · have h3 : 29 < op := by omega
      have h4 : 10 ≤ op := by omega
      clear h1 h2
      go_enter Tryd.func15, Tryd.ntmps15
      go_wp2
      exact bodyPost_ret (v := .agg #[.int .i32 0, .int .i64 1]) (by simp [results, Tryd.results15, go_sem]) rfl ⟨rfl, H.out.on ((Below.refl _ _).alloc (Nat.le_refl _) _)⟩
  · have e : binE op = 0 := by unfold binE; rw [if_pos (by omega)]
    rw [e]
    clear e
    have ho1 : 10 ≤ op := by omega
    have ho2 : op ≤ 29 := by omega
    by_cases h2 : 24 ≤ op
    · have HC := Lib.hid (fun w => compared_c op a b w ⟨h2, ho2⟩)
      have HT := Lib.hid (fun w => Truth_c (cmpB op a b) w)
      have HE := Lib.hid (cmp_tr op a b ⟨h2, ho2⟩)
      have ha' := ha.out
      have hb' := hb.out
      obtain ⟨a1, a2⟩ := ha'
      obtain ⟨b1, b2⟩ := hb'
      clear h1 ha hb
      go_enter Tryd.func15, Tryd.ntmps15
      go_wp2_with (first | (go_at_call 30; (with_reducible refine (HC.out _).mono ?_); rintro e w' ⟨rfl, hw⟩; replace hw := hw.symm; subst hw) | (go_at_call 29; (with_reducible refine (HT.out _).mono ?_); rintro e w' ⟨rfl, hw⟩; replace hw := hw.symm; subst hw; rw [HE.out]))
      exact bodyPost_ret (v := .agg #[.int .i32 (binV op a b), .int .i64 0]) (by simp [results, Tryd.results15, go_sem]) rfl ⟨rfl, H.out.on ((Below.refl _ _).alloc (Nat.le_refl _) _)⟩
    · by_cases h3 : op = 17 ∨ op = 18 ∨ op = 19
      · have HB := Lib.hid (fun w => bits_c op a b w ha hb h3)
        clear h1 h2 ha hb ho1 ho2
        rcases h3 with rfl | rfl | rfl
        all_goals
          go_enter Tryd.func15, Tryd.ntmps15
          go_wp2_with (go_at_call 31; (with_reducible refine (HB.out _).mono ?_); rintro e w' ⟨rfl, hb⟩; obtain ⟨hc, hf⟩ := bcell hb; have hz : w.heap.size < w'.heap.size := (by have := hb.size; simp at this; omega); have HBB := Lib.hid hb; clear hb)
          exact bodyPost_ret (v := .agg #[.int .i32 (binV _ a b), .int .i64 0]) (by simp [results, Tryd.results15, go_sem, hc]) rfl ⟨rfl, H.out.on ((((Below.refl _ _).alloc (Nat.le_refl _) _).trans (HBB.out.mono (by simp))).setCell (by simp) _ |>.setCell (by simp) _)⟩
      · have hop : op = 10 ∨ op = 11 ∨ op = 12 ∨ op = 13 ∨ op = 14 ∨ op = 15 ∨ op = 16 ∨ op = 20 ∨ op = 21 ∨ op = 22 ∨ op = 23 := by omega
        have HW := Lib.hid (fun w => whole_c op a b w ha hb hop)
        have HE := Lib.hid (whole_wrap op a b ha hb hop)
        have h4 : (op == 17) = false := by simp; omega
        have h5 : (op == 18) = false := by simp; omega
        have h6 : (op == 19) = false := by simp; omega
        have h7 : op < 24 := by omega
        have ha' := ha.out
        have hb' := hb.out
        obtain ⟨a1, a2⟩ := ha'
        obtain ⟨b1, b2⟩ := hb'
        clear h1 h2 h3 ha hb hop
        go_enter Tryd.func15, Tryd.ntmps15
        go_wp2_with (first | (go_at_call 32; (with_reducible refine (HW.out _).mono ?_); rintro e w' ⟨rfl, hw⟩; replace hw := hw.symm; subst hw) | (go_at_call 26; (with_reducible refine (refwrap_c _ _).mono ?_); rintro e w' ⟨rfl, hw⟩; replace hw := hw.symm; subst hw; rw [HE.out]))
        exact bodyPost_ret (v := .agg #[.int .i32 (binV op a b), .int .i64 0]) (by simp [results, Tryd.results15, go_sem]) rfl ⟨rfl, H.out.on ((Below.refl _ _).alloc (Nat.le_refl _) _)⟩

set_option maxRecDepth 100000 in
set_option maxHeartbeats 3200000 in
theorem match_walk (op a b : Int) (w : World) (ra : I32 a) (rb : I32 b) (he : Env w) :
    Calls Tryd.prog 3 #[.int .i64 op, .int .i32 a, .int .i32 b] w fun e w' => e = .returned (.bool true) ∧ Run w w' := by
  have hr := Run.start he
  clear he
  go_enter Tryd.func3, Tryd.ntmps3
  go_wp2_with (go_at_call 11; (with_reducible refine (examples_c (by assumption)).mono ?_); rintro e w1 ⟨rfl, hr⟩)
  go_loopw [8] (fun i wr => ∃ k : Int, -1 ≤ k ∧ k ≤ 31 ∧ i = .int .i64 k ∧ Run w wr) (fun i _ => (31 - intOf i).toNat)
  case atStart => exact ⟨-1, by omega, by omega, rfl, by assumption⟩
  case round =>
    obtain ⟨k, hk1, hk2, rfl, hr⟩ := hrel
    by_cases hlt : k ≤ 30
    · go_wp2_with (first | (go_at_call 12; (with_reducible refine (un_c _ _ (by assumption) (by assumption)).mono ?_); rintro e w1 ⟨rfl, hr⟩) | (go_at_call 13; (with_reducible refine (UnIn_c _ _ (by assumption) (by assumption)).mono ?_); rintro e w1 ⟨rfl, hr⟩) | (go_at_call 14; (with_reducible refine (bin_c _ _ _ (by assumption) (by assumption) (by assumption)).mono ?_); rintro e w1 ⟨rfl, hr⟩) | (go_at_call 15; (with_reducible refine (BinIn_c _ _ _ (by assumption) (by assumption) (by assumption)).mono ?_); rintro e w1 ⟨rfl, hr⟩))
      go_roundw
      case rel => exact ⟨k + 1, by omega, by omega, rfl, by assumption⟩
      case measure => simp [intOf]; omega
    · have hge : 30 < k := by omega
      go_wp2_with (first | (go_at_call 12; (with_reducible refine (un_c _ _ (by assumption) (by assumption)).mono ?_); rintro e w1 ⟨rfl, hr⟩) | (go_at_call 13; (with_reducible refine (UnIn_c _ _ (by assumption) (by assumption)).mono ?_); rintro e w1 ⟨rfl, hr⟩) | (go_at_call 14; (with_reducible refine (bin_c _ _ _ (by assumption) (by assumption) (by assumption)).mono ?_); rintro e w1 ⟨rfl, hr⟩) | (go_at_call 15; (with_reducible refine (BinIn_c _ _ _ (by assumption) (by assumption) (by assumption)).mono ?_); rintro e w1 ⟨rfl, hr⟩))
      go_ret
      exact ⟨rfl, by assumption⟩
end Go.Proofs.YtikkmcgbmiddaaaDoor
