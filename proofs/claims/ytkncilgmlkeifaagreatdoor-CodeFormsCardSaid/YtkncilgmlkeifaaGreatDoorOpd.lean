/-
  Package code: contracts of isTarget, isLoop, isRegister, isValue.
-/
import Derived.Test.YtkncilgmlkeifaaGreatDoorForm
set_option linter.unusedVariables false
set_option linter.unusedSimpArgs false
namespace Go.Proofs.YtkncilgmlkeifaaGreatDoor
open Go.ChangeShapes Go.WideShapes Go.ChangeAt Go.RowKit Go.Shelf

section
variable (g s r sl p : Int) (n1 c1 n2 c2 n3 c3 : Nat) (A1 A2 A3 : Option Addr)
theorem isTarget_any (n : Int) (w : World) (h3 : n3 ≤ 65536) :
    Calls Tryz.prog 129 #[.agg #[.int .i64 g, .int .i64 s, .int .i64 r, .int .i64 sl, .int .i64 p, .slice A1 n1 c1, .slice A2 n2 c2, .slice A3 n3 c3], .int .i64 n] w fun e w' => e = .returned (.bool (wthB n 0 ((n3 : Int) - 1))) ∧ Below w.heap.size w w' := by
  have H := Lib.hid (fun W => within_any n 0 ((n3 : Int) - 1) W)
  go_enter Tryz.func129, Tryz.ntmps129
  go_wp2_with (go_at_call 56; (with_reducible refine (H.out _).mono ?_); rintro e w' ⟨rfl, rfl⟩)
  go_ret
  exact ⟨rfl, (Below.refl _ _).alloc (Nat.le_refl _) _⟩
def loopB (r : Int) (n3 : Nat) (hd rg bd : Int) : Bool := wthB hd 0 ((n3 : Int) - 1) && (wthB rg 0 (r - 1) && wthB bd 1 1024)
set_option maxRecDepth 100000 in
theorem isLoop_any (hd rg bd : Int) (w : World) (h3 : n3 ≤ 65536) (r0 : 0 ≤ r) (r1 : r ≤ 9223372036854775807) :
    Calls Tryz.prog 98 #[.agg #[.int .i64 g, .int .i64 s, .int .i64 r, .int .i64 sl, .int .i64 p, .slice A1 n1 c1, .slice A2 n2 c2, .slice A3 n3 c3], .agg #[.int .i64 hd, .int .i64 rg, .int .i64 bd]] w fun e w' => e = .returned (.bool (loopB r n3 hd rg bd)) ∧ Below w.heap.size w w' := by
  have H1 := fun W => isTarget_any g s r sl p n1 c1 n2 c2 n3 c3 A1 A2 A3 hd W h3
  have H2 := fun W => within_any rg 0 (r - 1) W
  have H3 := fun W => within_any bd 1 1024 W
  have hb : ∀ o o', Below w.heap.size w ((w.alloc o).alloc o') := fun o o' => ((Below.refl _ _).alloc (Nat.le_refl _) o).alloc (by simp) o'
  have HB := Lib.hid hb
  unfold loopB
  clear hb
  cases h1 : wthB hd 0 ((n3 : Int) - 1)
  · rw [h1] at H1; rw [Bool.false_and]
    have G1 := Lib.hid H1; clear H1 H2 H3 h1
    go_enter Tryz.func98, Tryz.ntmps98
    go_wp2_with (go_at_call 129; (with_reducible refine (G1.out _).mono ?_); rintro e w1 ⟨rfl, hb1⟩; have HB1 := Lib.hid ((HB.out _ _).trans (hb1.mono (by simp; omega))); clear hb1)
    go_ret
    exact ⟨rfl, HB1.out⟩
  · rw [h1] at H1; rw [Bool.true_and]
    cases h2 : wthB rg 0 (r - 1)
    · rw [h2] at H2; rw [Bool.false_and]
      have G1 := Lib.hid H1; have G2 := Lib.hid H2; clear H1 H2 H3 h1 h2
      go_enter Tryz.func98, Tryz.ntmps98
      go_wp2_with (first | (go_at_call 129; (with_reducible refine (G1.out _).mono ?_); rintro e w1 ⟨rfl, hb1⟩; obtain ⟨hc, _⟩ := bcell hb1; have HB1 := Lib.hid ((HB.out _ _).trans (hb1.mono (by simp; omega))); clear hb1) | (go_at_call 56; (with_reducible refine (G2.out _).mono ?_); rintro e w' ⟨rfl, rfl⟩))
      go_ret
      exact ⟨rfl, HB1.out⟩
    · rw [h2] at H2; rw [Bool.true_and]
      obtain ⟨b3, hb3⟩ : ∃ b3, wthB bd 1 1024 = b3 := ⟨_, rfl⟩
      rw [hb3] at H3 ⊢
      have G1 := Lib.hid H1; have G2 := Lib.hid H2; have G3 := Lib.hid H3; clear H1 H2 H3 h1 h2 hb3
      go_enter Tryz.func98, Tryz.ntmps98
      go_wp2_with (first | (go_at_call 129; (with_reducible refine (G1.out _).mono ?_); rintro e w1 ⟨rfl, hb1⟩; obtain ⟨hc, _⟩ := bcell hb1; have HB1 := Lib.hid ((HB.out _ _).trans (hb1.mono (by simp; omega))); clear hb1) | (go_at_call 56; (with_reducible refine (G2.out _).mono ?_); rintro e w' ⟨rfl, rfl⟩) | (go_at_call 56; (with_reducible refine (G3.out _).mono ?_); rintro e w' ⟨rfl, rfl⟩))
      go_ret
      exact ⟨rfl, HB1.out⟩
/-- The operand is a register. -/
def regB (r : Int) (o : OpdV) : Bool := decide (o.k = 2) && (decide (o.v = 0) && wthB o.n 0 (r - 1))
set_option maxRecDepth 100000 in
theorem isRegister_any (k n v : Int) (w : World) (r0 : 0 ≤ r) (r1 : r ≤ 9223372036854775807) :
    Calls Tryz.prog 169 #[.agg #[.int .i64 g, .int .i64 s, .int .i64 r, .int .i64 sl, .int .i64 p, .slice A1 n1 c1, .slice A2 n2 c2, .slice A3 n3 c3], .agg #[.int .i64 k, .int .i64 n, .int .i32 v]] w fun e w' => e = .returned (.bool (regB r ⟨k, n, v⟩)) ∧ Below w.heap.size w w' := by
  have H2 := Lib.hid (fun W => within_any n 0 (r - 1) W)
  have hb : ∀ o o', Below w.heap.size w ((w.alloc o).alloc o') := fun o o' => ((Below.refl _ _).alloc (Nat.le_refl _) o).alloc (by simp) o'
  have HB := Lib.hid hb
  unfold regB
  clear hb
  by_cases hk : k = 2
  · subst hk
    by_cases hv : v = 0
    · subst hv
      simp only [decide_true, Bool.true_and]
      go_enter Tryz.func169, Tryz.ntmps169
      go_wp2_with (go_at_call 56; (with_reducible refine (H2.out _).mono ?_); rintro e w' ⟨rfl, rfl⟩)
      go_ret
      exact ⟨rfl, HB.out _ _⟩
    · simp only [decide_eq_false hv, Bool.false_and, Bool.and_false]
      have hv2 : (v == 0) = false := by simpa using hv
      go_enter Tryz.func169, Tryz.ntmps169
      go_wp2_with (go_at_call 56; (with_reducible refine (H2.out _).mono ?_); rintro e w' ⟨rfl, rfl⟩)
      go_ret
      exact ⟨rfl, HB.out _ _⟩
  · simp only [decide_eq_false hk, Bool.false_and]
    have hk2 : (k == 2) = false := by simpa using hk
    go_enter Tryz.func169, Tryz.ntmps169
    go_wp2_with (go_at_call 56; (with_reducible refine (H2.out _).mono ?_); rintro e w' ⟨rfl, rfl⟩)
    go_ret
    exact ⟨rfl, HB.out _ _⟩
end
end Go.Proofs.YtkncilgmlkeifaaGreatDoor
