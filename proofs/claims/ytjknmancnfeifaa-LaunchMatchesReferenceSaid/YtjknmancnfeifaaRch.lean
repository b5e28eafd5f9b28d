/-
  The contract of the reference's Check: for all codes and launches as the program's own.
-/
import Derived.Test.YtjknmancnfeifaaNumB
import Derived.Test.YtjknmancnfeifaaLau
set_option linter.unusedVariables false
set_option linter.unusedSimpArgs false
namespace Go.Proofs.Ytjknmancnfeifaa
open Go.ChangeShapes Go.WideShapes Go.ChangeAt Go.RowKit

/-- The six sizes, one after the other. -/
def subB (g s : Int) : Bool := (s == 1 || s == 2 || s == 4 || s == 8 || s == 16 || s == 32) && g % s == 0
theorem pow_bits (s : Int) (h0 : 1 ≤ s) (h1 : s ≤ 32) : (bits BinOp.and IntKind.i64 s (s - 1) == 0) = (s == 1 || s == 2 || s == 4 || s == 8 || s == 16 || s == 32) := by
  have : s = 1 ∨ s = 2 ∨ s = 3 ∨ s = 4 ∨ s = 5 ∨ s = 6 ∨ s = 7 ∨ s = 8 ∨ s = 9 ∨ s = 10 ∨ s = 11 ∨ s = 12 ∨ s = 13 ∨ s = 14 ∨ s = 15 ∨ s = 16 ∨ s = 17 ∨ s = 18 ∨ s = 19 ∨ s = 20 ∨ s = 21 ∨ s = 22 ∨ s = 23 ∨ s = 24 ∨ s = 25 ∨ s = 26 ∨ s = 27 ∨ s = 28 ∨ s = 29 ∨ s = 30 ∨ s = 31 ∨ s = 32 := by omega
  rcases this with rfl | rfl | rfl | rfl | rfl | rfl | rfl | rfl | rfl | rfl | rfl | rfl | rfl | rfl | rfl | rfl | rfl | rfl | rfl | rfl | rfl | rfl | rfl | rfl | rfl | rfl | rfl | rfl | rfl | rfl | rfl | rfl <;> decide +kernel
theorem sized_sub (g s : Int) : sizedB g s = (decide (1 ≤ g) && (decide (g ≤ 256) && subB g s)) := by
  unfold sizedB subB
  by_cases h1 : 1 ≤ s
  · by_cases h2 : s ≤ 32
    · rw [pow_bits s h1 h2]; simp [h1, h2]
    · have e : (s == 1 || s == 2 || s == 4 || s == 8 || s == 16 || s == 32) = false := by simp; omega
      rw [e]; simp [h2]
  · have e : (s == 1 || s == 2 || s == 4 || s == 8 || s == 16 || s == 32) = false := by simp; omega
    rw [e]; simp [h1]
theorem counted_mul {g gr : Int} (h : 1 ≤ g) : decide (gr ≤ 4096 / g) = decide (gr * g ≤ 4096) := by
  rw [decide_eq_decide]; exact Int.le_ediv_iff_mul_le (by omega)
/-- What is asked ahead of the sizes. -/
def headB (g p gr : Int) (na : Nat) : Bool := decide (1 ≤ g) && (decide (g ≤ 256) && (decide (1 ≤ gr) && (decide (gr * g ≤ 4096) && (decide (p ≤ 8) && decide ((na : Int) = p)))))
theorem chk_head (g s p gr : Int) (na : Nat) : chkB g s p gr na = (headB g p gr na && subB g s) := by
  unfold chkB headB countedB
  rw [sized_sub]
  by_cases h : 1 ≤ g
  · rw [counted_mul h]
    simp only [decide_eq_true h, Bool.true_and]
    generalize decide (g ≤ 256) = a; generalize subB g s = b; generalize decide (1 ≤ gr) = c; generalize decide (gr * g ≤ 4096) = d; generalize decide (p ≤ 8) = e; generalize decide ((na : Int) = p) = f
    cases a <;> cases b <;> cases c <;> cases d <;> cases e <;> cases f <;> rfl
  · simp [h]
theorem chkV_no {g s p gr : Int} {na : Nat} (h : headB g p gr na = false ∨ subB g s = false) : chkV g s p gr na = 40 := by
  have : chkB g s p gr na = false := by
    rw [chk_head]
    rcases h with h | h <;> rw [h] <;> simp
  unfold chkV; rw [this]
theorem chkV_yes {g s p gr : Int} {na : Nat} (h : headB g p gr na = true) (h2 : subB g s = true) : chkV g s p gr na = 0 := by
  have : chkB g s p gr na = true := by rw [chk_head, h, h2]; rfl
  unfold chkV; rw [this]
/-- None of the first j sizes fits. -/
def Not6 (g s : Int) (j : Nat) : Prop := ∀ i, i < j → ¬ (s = 2 ^ i ∧ g % 2 ^ i = 0)
theorem Not6.succ {g s : Int} {j : Nat} (h : Not6 g s j) (h2 : ¬ (s = 2 ^ j ∧ g % 2 ^ j = 0)) : Not6 g s (j + 1) := fun i hi => by
  by_cases e : i = j
  · subst e; exact h2
  · exact h i (by omega)
theorem Not6.done {g s : Int} (h : Not6 g s 6) : subB g s = false := by
  have h0 := h 0 (by omega)
  have h1 := h 1 (by omega)
  have h2 := h 2 (by omega)
  have h3 := h 3 (by omega)
  have h4 := h 4 (by omega)
  have h5 := h 5 (by omega)
  unfold subB
  rw [Bool.eq_false_iff]
  intro hh
  simp only [Bool.and_eq_true, Bool.or_eq_true, beq_iff_eq] at hh
  obtain ⟨hs, hg⟩ := hh
  rcases hs with ((((rfl | rfl) | rfl) | rfl) | rfl) | rfl
  · exact h0 ⟨rfl, hg⟩
  · exact h1 ⟨rfl, hg⟩
  · exact h2 ⟨rfl, hg⟩
  · exact h3 ⟨rfl, hg⟩
  · exact h4 ⟨rfl, hg⟩
  · exact h5 ⟨rfl, hg⟩

section
variable (g s r sl p gr : Int) (n1 c1 n2 c2 n3 c3 na ca : Nat) (A1 A2 A3 AA : Option Addr)
set_option maxRecDepth 100000 in
set_option maxHeartbeats 8000000 in
theorem rCheck_any (w : World) :
    Calls Try.prog 13 #[.agg #[.int .i64 g, .int .i64 s, .int .i64 r, .int .i64 sl, .int .i64 p, .slice A1 n1 c1, .slice A2 n2 c2, .slice A3 n3 c3], .agg #[.int .i64 gr, .slice AA na ca]] w fun e w' => e = .returned (.int .i64 (chkV g s p gr na)) ∧ Below w.heap.size w w' := by
  have hb2 : ∀ o o', Below w.heap.size w ((w.alloc o).alloc o') := fun o o' => ((Below.refl _ _).alloc (Nat.le_refl _) o).alloc (by simp) o'
  have HB2 := Lib.hid hb2
  clear hb2
  cases hh : headB g p gr na
  · rw [chkV_no (.inl hh)]
    have hcs : g < 1 ∨ (1 ≤ g ∧ 256 < g) ∨ (1 ≤ g ∧ g ≤ 256 ∧ gr < 1) ∨ (1 ≤ g ∧ g ≤ 256 ∧ 1 ≤ gr ∧ 4096 < gr) ∨ (1 ≤ g ∧ g ≤ 256 ∧ 1 ≤ gr ∧ gr ≤ 4096 ∧ 4096 < gr * g) ∨ (1 ≤ g ∧ g ≤ 256 ∧ 1 ≤ gr ∧ gr ≤ 4096 ∧ gr * g ≤ 4096 ∧ 8 < p) ∨ (1 ≤ g ∧ g ≤ 256 ∧ 1 ≤ gr ∧ gr ≤ 4096 ∧ gr * g ≤ 4096 ∧ p ≤ 8 ∧ ¬ (na : Int) = p) := by
      unfold headB at hh
      rw [Bool.eq_false_iff] at hh
      simp only [ne_eq, Bool.and_eq_true, decide_eq_true_eq] at hh
      omega
    clear hh
    rcases hcs with h | ⟨h1, h⟩ | ⟨h1, h2, h⟩ | ⟨h1, h2, h3, h⟩ | ⟨h1, h2, h3, h4, h⟩ | ⟨h1, h2, h3, h4, h5, h⟩ | ⟨h1, h2, h3, h4, h5, h6, h⟩
    · go_enter Try.func13, Try.ntmps13
      go_wp2
      go_ret
      exact ⟨rfl, HB2.out _ _⟩
    · go_enter Try.func13, Try.ntmps13
      go_wp2
      go_ret
      exact ⟨rfl, HB2.out _ _⟩
    · go_enter Try.func13, Try.ntmps13
      go_wp2
      go_ret
      exact ⟨rfl, HB2.out _ _⟩
    · go_enter Try.func13, Try.ntmps13
      go_wp2
      go_ret
      exact ⟨rfl, HB2.out _ _⟩
    · have hm : gr * g ≤ 1048576 := by
        have := Int.mul_le_mul h4 h2 (by omega) (by omega)
        omega
      have hm2 : 0 ≤ gr * g := by omega
      go_enter Try.func13, Try.ntmps13
      go_wp2
      go_ret
      exact ⟨rfl, HB2.out _ _⟩
    · have hm2 : 0 ≤ gr * g := Int.mul_nonneg (by omega) (by omega)
      go_enter Try.func13, Try.ntmps13
      go_wp2
      go_ret
      exact ⟨rfl, HB2.out _ _⟩
    · have hm2 : 0 ≤ gr * g := Int.mul_nonneg (by omega) (by omega)
      have hne : ((na : Int) != p) = true := by simpa using h
      clear h
      go_enter Try.func13, Try.ntmps13
      go_wp2
      go_ret
      exact ⟨rfl, HB2.out _ _⟩
  · have HY := Lib.hid (chkV_yes (s := s) hh)
    have HN := Lib.hid (fun h => chkV_no (g := g) (s := s) (p := p) (gr := gr) (na := na) (.inr h))
    unfold headB at hh
    simp only [Bool.and_eq_true, decide_eq_true_eq] at hh
    obtain ⟨h1, h2, h3, h5, h6, h7⟩ := hh
    have hm2 : 0 ≤ gr * g := Int.mul_nonneg (by omega) (by omega)
    have h4 : gr ≤ 4096 := by
      have := Int.mul_le_mul_of_nonneg_left h1 (show 0 ≤ gr by omega)
      omega
    subst h7
    go_enter Try.func13, Try.ntmps13
    go_wp2
    go_loop [5] (fun v => ∃ j : Nat, j ≤ 6 ∧ v = .int .i64 (2 ^ j) ∧ Hid (Not6 g s j)) (fun v => (64 - intOf v).toNat)
    case atStart => exact ⟨0, by omega, rfl, Lib.hid (fun i hi => absurd hi (by omega))⟩
    case round =>
      obtain ⟨j, hj, rfl, hno⟩ := hrel
      have hjc : j = 0 ∨ j = 1 ∨ j = 2 ∨ j = 3 ∨ j = 4 ∨ j = 5 ∨ j = 6 := by omega
      clear hj
      rcases hjc with rfl | rfl | rfl | rfl | rfl | rfl | rfl
      · by_cases hs : s = 1
        · subst hs
          have hg : g % 1 = 0 := by omega
          have HYY := Lib.hid (HY.out (by unfold subB; rw [hg]; rfl))
          go_wp2
          go_ret
          exact ⟨ret_i64 HYY.out.symm, HB2.out _ _⟩
        · have hs2 : (s == 1) = false := by simpa using hs
          have HNX := Lib.hid (hno.out.succ (fun h => hs h.1))
          clear hs
          go_wp2
          go_round
          case rel => exact ⟨1, by omega, rfl, HNX⟩
          case measure => simp [intOf]
      · by_cases hs : s = 2
        · subst hs
          by_cases hg : g % 2 = 0
          · have HYY := Lib.hid (HY.out (by unfold subB; rw [hg]; rfl))
            go_wp2
            go_ret
            exact ⟨ret_i64 HYY.out.symm, HB2.out _ _⟩
          · have hg2 : (g % 2 == 0) = false := by simpa using hg
            have HNX := Lib.hid (hno.out.succ (fun h => hg h.2))
            clear hg
            go_wp2
            go_round
            case rel => exact ⟨2, by omega, rfl, HNX⟩
            case measure => simp [intOf]
        · have hs2 : (s == 2) = false := by simpa using hs
          have HNX := Lib.hid (hno.out.succ (fun h => hs h.1))
          clear hs
          go_wp2
          go_round
          case rel => exact ⟨2, by omega, rfl, HNX⟩
          case measure => simp [intOf]
      · by_cases hs : s = 4
        · subst hs
          by_cases hg : g % 4 = 0
          · have HYY := Lib.hid (HY.out (by unfold subB; rw [hg]; rfl))
            go_wp2
            go_ret
            exact ⟨ret_i64 HYY.out.symm, HB2.out _ _⟩
          · have hg2 : (g % 4 == 0) = false := by simpa using hg
            have HNX := Lib.hid (hno.out.succ (fun h => hg h.2))
            clear hg
            go_wp2
            go_round
            case rel => exact ⟨3, by omega, rfl, HNX⟩
            case measure => simp [intOf]
        · have hs2 : (s == 4) = false := by simpa using hs
          have HNX := Lib.hid (hno.out.succ (fun h => hs h.1))
          clear hs
          go_wp2
          go_round
          case rel => exact ⟨3, by omega, rfl, HNX⟩
          case measure => simp [intOf]
      · by_cases hs : s = 8
        · subst hs
          by_cases hg : g % 8 = 0
          · have HYY := Lib.hid (HY.out (by unfold subB; rw [hg]; rfl))
            go_wp2
            go_ret
            exact ⟨ret_i64 HYY.out.symm, HB2.out _ _⟩
          · have hg2 : (g % 8 == 0) = false := by simpa using hg
            have HNX := Lib.hid (hno.out.succ (fun h => hg h.2))
            clear hg
            go_wp2
            go_round
            case rel => exact ⟨4, by omega, rfl, HNX⟩
            case measure => simp [intOf]
        · have hs2 : (s == 8) = false := by simpa using hs
          have HNX := Lib.hid (hno.out.succ (fun h => hs h.1))
          clear hs
          go_wp2
          go_round
          case rel => exact ⟨4, by omega, rfl, HNX⟩
          case measure => simp [intOf]
      · by_cases hs : s = 16
        · subst hs
          by_cases hg : g % 16 = 0
          · have HYY := Lib.hid (HY.out (by unfold subB; rw [hg]; rfl))
            go_wp2
            go_ret
            exact ⟨ret_i64 HYY.out.symm, HB2.out _ _⟩
          · have hg2 : (g % 16 == 0) = false := by simpa using hg
            have HNX := Lib.hid (hno.out.succ (fun h => hg h.2))
            clear hg
            go_wp2
            go_round
            case rel => exact ⟨5, by omega, rfl, HNX⟩
            case measure => simp [intOf]
        · have hs2 : (s == 16) = false := by simpa using hs
          have HNX := Lib.hid (hno.out.succ (fun h => hs h.1))
          clear hs
          go_wp2
          go_round
          case rel => exact ⟨5, by omega, rfl, HNX⟩
          case measure => simp [intOf]
      · by_cases hs : s = 32
        · subst hs
          by_cases hg : g % 32 = 0
          · have HYY := Lib.hid (HY.out (by unfold subB; rw [hg]; rfl))
            go_wp2
            go_ret
            exact ⟨ret_i64 HYY.out.symm, HB2.out _ _⟩
          · have hg2 : (g % 32 == 0) = false := by simpa using hg
            have HNX := Lib.hid (hno.out.succ (fun h => hg h.2))
            clear hg
            go_wp2
            go_round
            case rel => exact ⟨6, by omega, rfl, HNX⟩
            case measure => simp [intOf]
        · have hs2 : (s == 32) = false := by simpa using hs
          have HNX := Lib.hid (hno.out.succ (fun h => hs h.1))
          clear hs
          go_wp2
          go_round
          case rel => exact ⟨6, by omega, rfl, HNX⟩
          case measure => simp [intOf]
      · have HX := Lib.hid (HN.out hno.out.done)
        go_wp2
        go_ret
        exact ⟨ret_i64 HX.out.symm, HB2.out _ _⟩
end
end Go.Proofs.Ytjknmancnfeifaa
