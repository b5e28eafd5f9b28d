/-
  Contracts of Of, sized, counted, Check, Id, id.
-/
import Derived.Test.YtjknmancnfeifaaMem
import Derived.Deep.RegionHeld3
import Derived.Deep.DrawnRows
import Derived.Deep.QuietTactic
import Derived.BigQuiet
import Derived.Outline
set_option linter.unusedVariables false
set_option linter.unusedSimpArgs false
namespace Go.Proofs.Ytjknmancnfeifaa
open Go.ChangeShapes Go.WideShapes Go.ChangeAt Go.RowKit

section
variable (g s r sl p : Int) (n1 c1 n2 c2 n3 c3 : Nat) (A1 A2 A3 : Option Addr)

theorem Of_any (item : Int) (w : World) (hg : 1 ≤ g) (hi : 0 ≤ item) (hi2 : item ≤ 9223372036854775807) :
    Calls Try.prog 16 #[.agg #[.int .i64 g, .int .i64 s, .int .i64 r, .int .i64 sl, .int .i64 p, .slice A1 n1 c1, .slice A2 n2 c2, .slice A3 n3 c3], .int .i64 item] w fun e w' => e = .returned (.tuple #[.int .i64 (item / g), .int .i64 (item % g)]) ∧ Below w.heap.size w w' := by
  have h0 : ¬ g = 0 := by omega
  have q1 : 0 ≤ item / g := Int.ediv_nonneg hi (by omega)
  have q2 : item / g ≤ item := Int.ediv_le_self _ hi
  have m1 : 0 ≤ item % g := Int.emod_nonneg _ h0
  have m2 : item % g < g := Int.emod_lt_of_pos _ (by omega)
  go_enter Try.func16, Try.ntmps16
  go_wp2
  go_quiet (fail)
  go_wp2
  go_ret2
  exact ⟨rfl, below_drewN ((Below.refl _ _).alloc (Nat.le_refl _) _) _⟩

def sizedB (g s : Int) : Bool := decide (1 ≤ g) && (decide (g ≤ 256) && (decide (1 ≤ s) && (decide (s ≤ 32) && ((bits BinOp.and IntKind.i64 s (s - 1) == 0) && (g % s == 0)))))
theorem sized_any (w : World) :
    Calls Try.prog 31 #[.agg #[.int .i64 g, .int .i64 s, .int .i64 r, .int .i64 sl, .int .i64 p, .slice A1 n1 c1, .slice A2 n2 c2, .slice A3 n3 c3]] w fun e w' => e = .returned (.bool (sizedB g s)) ∧ Below w.heap.size w w' := by
  unfold sizedB
  by_cases h1 : 1 ≤ g
  · simp only [decide_eq_true h1, Bool.true_and]
    by_cases h2 : g ≤ 256
    · simp only [decide_eq_true h2, Bool.true_and]
      by_cases h3 : 1 ≤ s
      · simp only [decide_eq_true h3, Bool.true_and]
        by_cases h4 : s ≤ 32
        · simp only [decide_eq_true h4, Bool.true_and]
          have h0 : ¬ s = 0 := by omega
          cases hb : (bits BinOp.and IntKind.i64 s (s - 1) == 0)
          · rw [Bool.false_and]
            go_enter Try.func31, Try.ntmps31
            go_wp2
            go_ret
            exact ⟨rfl, (Below.refl _ _).alloc (Nat.le_refl _) _⟩
          · rw [Bool.true_and]
            go_enter Try.func31, Try.ntmps31
            go_wp2
            go_ret
            exact ⟨rfl, (Below.refl _ _).alloc (Nat.le_refl _) _⟩
        · simp only [decide_eq_false h4, Bool.false_and]
          go_enter Try.func31, Try.ntmps31
          go_wp2
          go_ret
          exact ⟨rfl, (Below.refl _ _).alloc (Nat.le_refl _) _⟩
      · simp only [decide_eq_false h3, Bool.false_and]
        go_enter Try.func31, Try.ntmps31
        go_wp2
        go_ret
        exact ⟨rfl, (Below.refl _ _).alloc (Nat.le_refl _) _⟩
    · simp only [decide_eq_false h2, Bool.false_and]
      go_enter Try.func31, Try.ntmps31
      go_wp2
      go_ret
      exact ⟨rfl, (Below.refl _ _).alloc (Nat.le_refl _) _⟩
  · simp only [decide_eq_false h1, Bool.false_and]
    go_enter Try.func31, Try.ntmps31
    go_wp2
    go_ret
    exact ⟨rfl, (Below.refl _ _).alloc (Nat.le_refl _) _⟩
end
end Go.Proofs.Ytjknmancnfeifaa
