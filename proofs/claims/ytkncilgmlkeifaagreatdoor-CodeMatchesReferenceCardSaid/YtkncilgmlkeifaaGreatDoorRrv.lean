import Derived.Test.YtkncilgmlkeifaaGreatDoorChb
import Derived.Test.YtkncilgmlkeifaaGreatDoorRrq
/-
  The search of the reference reaches what the search of the program reaches (plain facts).
-/
set_option linter.unusedVariables false
set_option linter.unusedSimpArgs false
namespace Go.Proofs.YtkncilgmlkeifaaGreatDoor
open Go.ChangeShapes Go.WideShapes Go.ChangeAt Go.RowKit
def markR (R : Nat -> Bool) (l : List Int) : Nat -> Bool := l.foldl (fun R x => setR R x.toNat) R
def stepR (T : Nat -> TermV) (R : Nat -> Bool) (b : Nat) : Nat -> Bool := if R b = true then markR R (succL (T b)) else R
def passR (T : Nat -> TermV) (R : Nat -> Bool) : Nat -> Nat -> Bool
 | 0 => R
 | b + 1 => stepR T (passR T R b) b
def roundsR (n : Nat) (T : Nat -> TermV) : Nat -> Nat -> Bool
 | 0 => setR (fun _ => false) 0
 | k + 1 => passR T (roundsR n T k) n
theorem mark_true : ∀ (l : List Int) (R : Nat -> Bool) (x : Nat), markR R l x = true ↔ R x = true \/ ∃ y, y ∈ l /\ y.toNat = x
 | [], R, x => by simp [markR]
 | y :: l, R, x => by
  show markR (setR R y.toNat) l x = true ↔ _
  rw [mark_true l]
  unfold setR
  by_cases h : x = y.toNat
  . simp [h]
  . rw [if_neg h]
    constructor
    . rintro (h1 | ⟨z, hz, e⟩)
      . exact .inl h1
      . exact .inr ⟨z, by simp [hz], e⟩
    . rintro (h1 | ⟨z, hz, e⟩)
      . exact .inl h1
      . rcases List.mem_cons.1 hz with rfl | hz
        . exact absurd e.symm h
        . exact .inr ⟨z, hz, e⟩
theorem step_up {T : Nat -> TermV} {R : Nat -> Bool} {b x : Nat} (h : R x = true) : stepR T R b x = true := by
 unfold stepR
 split
 . exact (mark_true _ _ _).2 (.inl h)
 . exact h
theorem pass_up {T : Nat -> TermV} {R : Nat -> Bool} {x : Nat} (h : R x = true) : ∀ b, passR T R b x = true
 | 0 => h
 | b + 1 => step_up (pass_up h b)
theorem pass_to {T : Nat -> TermV} {R : Nat -> Bool} {a : Nat} (h : R a = true) {y : Int} (hy : y ∈ succL (T a)) : ∀ b, a < b -> passR T R b y.toNat = true
 | 0, hb => absurd hb (by omega)
 | b + 1, hb => by
  show stepR T (passR T R b) b y.toNat = true
  by_cases e : a = b
  . subst e
    unfold stepR
    rw [if_pos (pass_up h a)]
    exact (mark_true _ _ _).2 (.inr ⟨y, hy, rfl⟩)
  . exact step_up (pass_to h hy b (by omega))
section
variable {n : Nat} {T : Nat -> TermV} (ht : ∀ j, j < n -> ∀ x, x ∈ succL (T j) -> 0 <= x /\ x < n)
include ht
theorem pass_sound {R : Nat -> Bool} (h : ∀ x, R x = true -> ∃ k, Within n T k x) : ∀ b, b <= n -> ∀ x, passR T R b x = true -> ∃ k, Within n T k x
 | 0, _, x, hx => h x hx
 | b + 1, hb, x, hx => by
  have ih := pass_sound h b (by omega)
  have hx' : stepR T (passR T R b) b x = true := hx
  unfold stepR at hx'
  split at hx'
  . next hB =>
    rcases (mark_true _ _ _).1 hx' with h1 | ⟨y, hy, rfl⟩
    . exact ih x h1
    . obtain ⟨k, hk⟩ := ih b hB
      have := ht b (by omega) y hy
      exact ⟨k + 1, .inr ⟨b, hk, by omega, by omega, by rw [Int.toNat_of_nonneg this.1]; exact hy⟩⟩
  . exact ih x hx'
theorem rounds_sound : ∀ k x, roundsR n T k x = true -> ∃ k, Within n T k x
 | 0, x, h => by
  have h' : setR (fun _ => false) 0 x = true := h
  unfold setR at h'
  split at h'
  . next e => exact ⟨0, e⟩
  . cases h'
 | k + 1, x, h => pass_sound ht (rounds_sound k) n (Nat.le_refl _) x h
theorem rounds_all : ∀ k x, Within n T k x -> roundsR n T k x = true
 | 0, x, h => by
  have _ := ht
  have e : x = 0 := h
  show setR _ 0 x = true
  unfold setR
  rw [if_pos e]
 | k + 1, x, h => by
  rcases h with h | ⟨b, hb, he⟩
  . exact pass_up (rounds_all k x h) n
  . have := pass_to (rounds_all k b hb) he.2.2 n he.1
    rw [Int.toNat_natCast] at this
    exact this
theorem reach_ref (h0 : 0 < n) (x : Nat) : roundsR n T n x = reachV n T x := by
 rw [Bool.eq_iff_iff]
 constructor
 . intro h
   obtain ⟨k, hk⟩ := rounds_sound ht n x h
   exact within_reach h0 ht k x hk
 . intro h
   obtain ⟨k, hk⟩ := ((reachV_spec h0 ht).2.2 x h).2
   exact rounds_all ht n x (within_all h0 hk)
end
end Go.Proofs.YtkncilgmlkeifaaGreatDoor
