/-
  Contracts of package launch's operations of subgroups: truth, the closures, running, scan, same, shuffle.
-/
import Derived.Test.YtjknmancnfeifaaMem
import Derived.Deep.RegionHeld3
import Derived.Deep.DrawnRows
import Derived.Deep.DeepCutAuto
import Derived.Deep.CutRange
import Derived.Deep.QuietTactic
import Derived.BigQuiet
import Derived.Deep.RegionWith
import Derived.StillTailTactics
import Derived.Outline
set_option linter.unusedVariables false
set_option linter.unusedSimpArgs false
namespace Go.Proofs.Ytjknmancnfeifaa
open Go.ChangeShapes Go.WideShapes Go.ChangeAt Go.RowKit

/-- 1 for what is not 0. -/
def trV (a : Int) : Int := if a = 0 then 0 else 1
theorem trV01 (a : Int) : 0 ≤ trV a ∧ trV a ≤ 1 := by unfold trV; split <;> omega
theorem truth_any (a : Int) (w : World) : Calls Try.prog 51 #[.int .i32 a] w fun e w' => e = .returned (.int .i32 (trV a)) ∧ w = w' := by
  by_cases h : a = 0
  · subst h
    go_enter Try.func51, Try.ntmps51
    go_wp2
    go_ret
    exact ⟨rfl, rfl⟩
  · have e : trV a = 1 := by unfold trV; rw [if_neg h]
    rw [e]
    have h1 : (a != 0) = true := by simpa using h
    clear e h
    go_enter Try.func51, Try.ntmps51
    go_wp2
    go_ret
    exact ⟨rfl, rfl⟩
theorem rtruth_any (c : Bool) (w : World) : Calls Try.prog 46 #[.bool c] w fun e w' => e = .returned (.int .i32 (if c = true then 1 else 0)) ∧ w = w' := by
  cases c
  · show Calls Try.prog 46 #[.bool false] w fun e w' => e = .returned (.int .i32 0) ∧ w = w'
    go_enter Try.func46, Try.ntmps46
    go_wp2
    go_ret
    exact ⟨rfl, rfl⟩
  · show Calls Try.prog 46 #[.bool true] w fun e w' => e = .returned (.int .i32 1) ∧ w = w'
    go_enter Try.func46, Try.ntmps46
    go_wp2
    go_ret
    exact ⟨rfl, rfl⟩

/-- The running value behind the item i whose value is a. -/
def stepV (op : Int) (i : Nat) (s a : Int) : Int :=
  if op = 1 then bits BinOp.or IntKind.i32 s (wrap32 (trV a * 2 ^ i)) else if op = 2 then bits BinOp.or IntKind.i32 s (trV a) else if op = 3 then bits BinOp.and IntKind.i32 s (trV a) else wrap32 (s + a)
def initV (op : Int) : Int := if op = 3 then 1 else 0
def fnOf (op : Int) : Nat := if op = 1 then 50 else if op = 2 then 52 else if op = 3 then 53 else 54

theorem clo4 (i a s : Int) (b : Nat) (w : World) (hc : w.cell? ⟨b, 0, none⟩ = some (.int .i32 s)) (hf : w.frozen? ⟨b, 0, none⟩ = false) :
    Calls Try.prog 54 #[.int .i64 i, .int .i32 a, .pointer (some ⟨b, 0, none⟩)] w fun e w' => e = .returned (.int .i32 (wrap32 (s + a))) ∧ ∃ n, (w.setCell ⟨b, 0, none⟩ (.int .i32 (wrap32 (s + a)))).drewN n = w' := by
  go_enter Try.func54, Try.ntmps54
  go_wp2
  go_ret
  exact ⟨rfl, 0, rfl⟩
theorem clo1 (i : Nat) (a s : Int) (b : Nat) (w : World) (hi : i < 32) (hc : w.cell? ⟨b, 0, none⟩ = some (.int .i32 s)) (hf : w.frozen? ⟨b, 0, none⟩ = false) :
    Calls Try.prog 50 #[.int .i64 i, .int .i32 a, .pointer (some ⟨b, 0, none⟩)] w fun e w' => e = .returned (.int .i32 (bits BinOp.or IntKind.i32 s (wrap32 (trV a * 2 ^ i)))) ∧ ∃ n, (w.setCell ⟨b, 0, none⟩ (.int .i32 (bits BinOp.or IntKind.i32 s (wrap32 (trV a * 2 ^ i))))).drewN n = w' := by
  go_enter Try.func50, Try.ntmps50
  go_wp2
  go_region_with ((go_at_call 51; refine (truth_any _ _).mono ?_; rintro e w' ⟨rfl, rfl⟩))
  all_goals go_wp2
  all_goals go_ret
  all_goals exact ⟨rfl, 1, rfl⟩
theorem clo2 (i a s : Int) (b : Nat) (w : World) (hc : w.cell? ⟨b, 0, none⟩ = some (.int .i32 s)) (hf : w.frozen? ⟨b, 0, none⟩ = false) :
    Calls Try.prog 52 #[.int .i64 i, .int .i32 a, .pointer (some ⟨b, 0, none⟩)] w fun e w' => e = .returned (.int .i32 (bits BinOp.or IntKind.i32 s (trV a))) ∧ ∃ n, (w.setCell ⟨b, 0, none⟩ (.int .i32 (bits BinOp.or IntKind.i32 s (trV a)))).drewN n = w' := by
  go_enter Try.func52, Try.ntmps52
  go_wp2
  go_region_with ((go_at_call 51; refine (truth_any _ _).mono ?_; rintro e w' ⟨rfl, rfl⟩))
  all_goals go_wp2
  all_goals go_ret
  all_goals exact ⟨rfl, 1, rfl⟩
theorem clo3 (i a s : Int) (b : Nat) (w : World) (hc : w.cell? ⟨b, 0, none⟩ = some (.int .i32 s)) (hf : w.frozen? ⟨b, 0, none⟩ = false) :
    Calls Try.prog 53 #[.int .i64 i, .int .i32 a, .pointer (some ⟨b, 0, none⟩)] w fun e w' => e = .returned (.int .i32 (bits BinOp.and IntKind.i32 s (trV a))) ∧ ∃ n, (w.setCell ⟨b, 0, none⟩ (.int .i32 (bits BinOp.and IntKind.i32 s (trV a)))).drewN n = w' := by
  go_enter Try.func53, Try.ntmps53
  go_wp2
  go_region_with ((go_at_call 51; refine (truth_any _ _).mono ?_; rintro e w' ⟨rfl, rfl⟩))
  all_goals go_wp2
  all_goals go_ret
  all_goals exact ⟨rfl, 1, rfl⟩

/-- What the running value is, by its operation's number. -/
theorem clo_any (op : Int) (i : Nat) (a s : Int) (b : Nat) (w : World) (hi : i < 32) (hc : w.cell? ⟨b, 0, none⟩ = some (.int .i32 s)) (hf : w.frozen? ⟨b, 0, none⟩ = false) :
    Calls Try.prog (fnOf op) #[.int .i64 i, .int .i32 a, .pointer (some ⟨b, 0, none⟩)] w fun e w' => e = .returned (.int .i32 (stepV op i s a)) ∧ ∃ n, (w.setCell ⟨b, 0, none⟩ (.int .i32 (stepV op i s a))).drewN n = w' := by
  unfold fnOf stepV
  by_cases h1 : op = 1
  · simp only [if_pos h1]; exact clo1 i a s b w hi hc hf
  · simp only [if_neg h1]
    by_cases h2 : op = 2
    · simp only [if_pos h2]; exact clo2 i a s b w hc hf
    · simp only [if_neg h2]
      by_cases h3 : op = 3
      · simp only [if_pos h3]; exact clo3 i a s b w hc hf
      · simp only [if_neg h3]; exact clo4 i a s b w hc hf

theorem clo_on {op : Int} {i : Nat} {a s : Int} {b : Nat} {w : World} (hi : i < 32) (h : One w b s) :
    Calls Try.prog (fnOf op) #[.int .i64 i, .int .i32 a, .pointer (some ⟨b, 0, none⟩)] w fun e w' => e = .returned (.int .i32 (stepV op i s a)) ∧ One w' b (stepV op i s a) ∧ w.grownBy w' (some b) :=
  (clo_any op i a s b w hi h.cell h.free).mono fun _ _ ⟨he, n, hw⟩ => by
    subst hw
    exact ⟨he, one_setCell h, only_drewN (only_setCell (World.grownBy.refl w _) (.inl rfl) _) n⟩

/-- running: the closure's own variable lies in a new block. -/
theorem running_any (op : Int) (w : World) :
    Calls Try.prog 44 #[.int .i64 op] w fun e w' => e = .returned (.func (.func (fnOf op)) #[] #[.pointer (some ⟨w.heap.size, 0, none⟩)]) ∧ w' = w.alloc (.cells #[.int .i32 (initV op)] 21) := by
  have hmf : ∀ (fn : Fn) (first cap : Array Value) (w : World), (Instr.makeFunc fn first cap).run Try.prog w = .ok (.func fn first cap) w := fun _ _ _ _ => rfl
  unfold fnOf initV
  by_cases h1 : op = 1
  · subst h1
    go_enter Try.func44, Try.ntmps44
    go_wp2
    go_ret
    exact ⟨rfl, rfl⟩
  · simp only [if_neg h1]
    have h1' : (op == 1) = false := by simpa using h1
    by_cases h2 : op = 2
    · subst h2
      go_enter Try.func44, Try.ntmps44
      go_wp2
      go_ret
      exact ⟨rfl, rfl⟩
    · simp only [if_neg h2]
      have h2' : (op == 2) = false := by simpa using h2
      by_cases h3 : op = 3
      · subst h3
        go_enter Try.func44, Try.ntmps44
        go_wp2
        go_ret
        exact ⟨rfl, rfl⟩
      · simp only [if_neg h3]
        have h3' : (op == 3) = false := by simpa using h3
        clear h1 h2 h3
        go_enter Try.func44, Try.ntmps44
        go_wp2
        go_ret
        exact ⟨rfl, rfl⟩
end Go.Proofs.Ytjknmancnfeifaa
