/-
  Contracts of both Fits, whatever they answer.
-/
import Derived.Test.YtjknmancnfeifaaFit
set_option linter.unusedVariables false
set_option linter.unusedSimpArgs false
namespace Go.Proofs.Ytjknmancnfeifaa
open Go.ChangeShapes Go.WideShapes Go.ChangeAt Go.RowKit

/-- The lengths are those that the arrays ask for. -/
def fitB (n : Nat) (L : Nat → Nat) (sp ln : Nat → Int) (space : Int) : Bool := (List.range n).all fun j => decide ((L j : Int) = wV (sp j) (ln j) space)
theorem fitB_true {n : Nat} {L : Nat → Nat} {sp ln : Nat → Int} {space : Int} (h : ∀ j, j < n → (L j : Int) = wV (sp j) (ln j) space) : fitB n L sp ln space = true := by
  unfold fitB
  rw [List.all_eq_true]
  intro j hj
  simpa using h j (by simpa using hj)
theorem fitB_false {n k : Nat} {L : Nat → Nat} {sp ln : Nat → Int} {space : Int} (hk : k < n) (h : ¬ (L k : Int) = wV (sp k) (ln k) space) : fitB n L sp ln space = false := by
  rw [Bool.eq_false_iff]
  unfold fitB
  rw [ne_eq, List.all_eq_true]
  intro hh
  exact h (by simpa using hh k (by simpa using hk))

set_option maxRecDepth 100000 in
set_option maxHeartbeats 2000000 in
theorem Fits_any (n m c c' : Nat) (space : Int) (A A' : Option Addr) (sp ln : Nat → Int) (L : Nat → Nat) (w : World) (hn : n ≤ 65536) (hr : RA w w.heap.size A n sp ln) (hx : m = n → RWl w w.heap.size A' n L) :
    Calls Try.prog 27 #[.slice A n c, .int .i64 space, .slice A' m c'] w fun e w' => e = .returned (.bool ((m == n) && fitB n L sp ln space)) ∧ Below w.heap.size w w' := by
  by_cases hmn : m = n
  · subst hmn
    have HX := Lib.hid (hx rfl)
    have HR := Lib.hid hr
    have HT := Lib.hid (fun h => fitB_true (n := m) (L := L) (sp := sp) (ln := ln) (space := space) h)
    have HF := Lib.hid (fun k hk h => fitB_false (n := m) (k := k) (L := L) (sp := sp) (ln := ln) (space := space) hk h)
    have hmm : ((m == m) && fitB m L sp ln space) = fitB m L sp ln space := by simp
    rw [hmm]
    obtain ⟨fb, hfb⟩ : ∃ fb, fitB m L sp ln space = fb := ⟨_, rfl⟩
    rw [hfb] at HT HF ⊢
    clear hr hx hmm hfb
    go_enter Try.func27, Try.ntmps27
    go_wp2
    go_loopw [16] (fun i wr => ∃ k : Nat, k ≤ m ∧ i = .int .i64 k ∧ Hid (∀ j, j < k → (L j : Int) = wV (sp j) (ln j) space) ∧ Below w.heap.size w wr) (fun i _ => m - (intOf i).toNat)
    case atStart => exact ⟨0, Nat.zero_le _, rfl, Lib.hid (fun j hj => absurd hj (by omega)), Below.refl _ _⟩
    case round =>
      obtain ⟨k, hk, rfl, hall, hbel⟩ := hrel
      by_cases hlt : k < m
      · obtain ⟨b, off, nm, ty, rfl, hb, k1, k2, k3, k4⟩ := (HR.out.below hbel).at_ hlt
        obtain ⟨b', off', B2, c2, rfl, hb', hc'⟩ := (HX.out.below hbel).at_ hlt
        have HL := Lib.hid hbel
        have hne : b' < wr.heap.size := by have := hbel.size; omega
        have hc2 : (wr.alloc (.cells #[.string nm, .int .i64 (sp k), .int .i64 ty, .int .i64 (ln k)] 79)).cell? ⟨b', off' + k, none⟩ = some (.slice B2 (L k) c2) := (World.cell?_alloc_lt _ _ _ (by exact hne)).trans hc'
        have HW := Lib.hid (fun W => words_any nm (sp k) ty (ln k) space W)
        clear hbel
        by_cases he : (L k : Int) = wV (sp k) (ln k) space
        · have hq : (((L k : Nat) : Int) != wV (sp k) (ln k) space) = false := by simpa using he
          have HA : Hid (∀ j, j < k + 1 → (L j : Int) = wV (sp j) (ln j) space) := Lib.hid (fun j hj => by
            by_cases e : j = k
            · subst e; exact he
            · exact hall.out j (by omega))
          clear he hall
          go_wp2
          go_region_with ((go_at_call 40; refine (HW.out _).mono ?_; rintro e w1 ⟨rfl, hb1⟩; obtain ⟨hcel, _⟩ := bcell hb1; have hbw := Lib.hid (HL.out.trans (((Below.refl _ _).alloc (Nat.le_refl _) (.cells #[.string nm, .int .i64 (sp k), .int .i64 ty, .int .i64 (ln k)] 79)).trans (((Below.refl _ _).drew.trans hb1).mono (by simp))|>.mono HL.out.size)); clear hb1))
          all_goals
            go_wp2
            go_roundw
            case rel => exact ⟨k + 1, by omega, by go_num, HA, hbw.out⟩
            case measure => simp [intOf]; omega
        · have hq : (((L k : Nat) : Int) != wV (sp k) (ln k) space) = true := by simpa using he
          have HFF := Lib.hid (HF.out k hlt he)
          clear he hall
          go_wp2
          go_region_with ((go_at_call 40; refine (HW.out _).mono ?_; rintro e w1 ⟨rfl, hb1⟩; obtain ⟨hcel, _⟩ := bcell hb1; have hbw := Lib.hid (HL.out.trans (((Below.refl _ _).alloc (Nat.le_refl _) (.cells #[.string nm, .int .i64 (sp k), .int .i64 ty, .int .i64 (ln k)] 79)).trans (((Below.refl _ _).drew.trans hb1).mono (by simp))|>.mono HL.out.size)); clear hb1))
          all_goals
            go_wp2
            go_ret
            exact ⟨ret_b HFF.out.symm, hbw.out⟩
      · obtain rfl : k = m := by omega
        have HTT := Lib.hid (HT.out hall.out)
        go_wp2
        go_ret
        exact ⟨ret_b HTT.out.symm, hbel⟩
  · have h1 : (m == n) = false := by simpa using hmn
    have h2 : ((m : Int) != (n : Int)) = true := by simpa using (by omega : ¬ (m : Int) = n)
    rw [h1, Bool.false_and]
    clear hmn
    go_enter Try.func27, Try.ntmps27
    go_wp2
    go_ret
    exact ⟨rfl, Below.refl _ _⟩

set_option maxRecDepth 100000 in
set_option maxHeartbeats 2000000 in
theorem rFits_any (n m c c' : Nat) (space : Int) (A A' : Option Addr) (sp ln : Nat → Int) (L : Nat → Nat) (w : World) (hn : n ≤ 65536) (hr : RA w w.heap.size A n sp ln) (hx : m = n → RWl w w.heap.size A' n L) :
    Calls Try.prog 28 #[.slice A n c, .int .i64 space, .slice A' m c'] w fun e w' => e = .returned (.bool ((m == n) && fitB n L sp ln space)) ∧ Below w.heap.size w w' := by
  by_cases hmn : m = n
  · subst hmn
    have HX := Lib.hid (hx rfl)
    have HR := Lib.hid hr
    have HT := Lib.hid (fun h => fitB_true (n := m) (L := L) (sp := sp) (ln := ln) (space := space) h)
    have HF := Lib.hid (fun k hk h => fitB_false (n := m) (k := k) (L := L) (sp := sp) (ln := ln) (space := space) hk h)
    have hmm : ((m == m) && fitB m L sp ln space) = fitB m L sp ln space := by simp
    rw [hmm]
    obtain ⟨fb, hfb⟩ : ∃ fb, fitB m L sp ln space = fb := ⟨_, rfl⟩
    rw [hfb] at HT HF ⊢
    clear hr hx hmm hfb
    go_enter Try.func28, Try.ntmps28
    go_wp2
    go_loopw [7] (fun i wr => ∃ k : Nat, k ≤ m ∧ i = .int .i64 k ∧ Hid (∀ j, j < k → (L j : Int) = wV (sp j) (ln j) space) ∧ Below w.heap.size w wr) (fun i _ => m - (intOf i).toNat)
    case atStart => exact ⟨0, Nat.zero_le _, rfl, Lib.hid (fun j hj => absurd hj (by omega)), Below.refl _ _⟩
    case round =>
      obtain ⟨k, hk, rfl, hall, hbel⟩ := hrel
      by_cases hlt : k < m
      · obtain ⟨b, off, nm, ty, rfl, hb, k1, k2, k3, k4⟩ := (HR.out.below hbel).at_ hlt
        obtain ⟨b', off', B2, c2, rfl, hb', hc'⟩ := (HX.out.below hbel).at_ hlt
        have HL := Lib.hid hbel
        have hne : b' < wr.heap.size := by have := hbel.size; omega
        have hne2 : b < wr.heap.size := by have := hbel.size; omega
        have HW := Lib.hid (fun W => rwords_any nm (sp k) ty (ln k) space W)
        clear hbel
        by_cases he : (L k : Int) = wV (sp k) (ln k) space
        · have hq : (((L k : Nat) : Int) != wV (sp k) (ln k) space) = false := by simpa using he
          have HA : Hid (∀ j, j < k + 1 → (L j : Int) = wV (sp j) (ln j) space) := Lib.hid (fun j hj => by
            by_cases e : j = k
            · subst e; exact he
            · exact hall.out j (by omega))
          clear he hall
          go_wp2
          go_region_with ((go_at_call 41; refine (HW.out _).mono ?_; rintro e w1 ⟨rfl, hb1⟩; obtain ⟨hcel, _⟩ := bcell hb1; have hcc := (hcel b' (off' + k) hne).trans hc'; clear hcel; have hbw := Lib.hid (HL.out.trans (((Below.refl _ _).drew.trans hb1).mono HL.out.size)); clear hb1))
          all_goals
            go_wp2
            go_roundw
            case rel => exact ⟨k + 1, by omega, by go_num, HA, hbw.out⟩
            case measure => simp [intOf]; omega
        · have hq : (((L k : Nat) : Int) != wV (sp k) (ln k) space) = true := by simpa using he
          have HFF := Lib.hid (HF.out k hlt he)
          clear he hall
          go_wp2
          go_region_with ((go_at_call 41; refine (HW.out _).mono ?_; rintro e w1 ⟨rfl, hb1⟩; obtain ⟨hcel, _⟩ := bcell hb1; have hcc := (hcel b' (off' + k) hne).trans hc'; clear hcel; have hbw := Lib.hid (HL.out.trans (((Below.refl _ _).drew.trans hb1).mono HL.out.size)); clear hb1))
          all_goals
            go_wp2
            go_ret
            exact ⟨ret_b HFF.out.symm, hbw.out⟩
      · obtain rfl : k = m := by omega
        have HTT := Lib.hid (HT.out hall.out)
        go_wp2
        go_ret
        exact ⟨ret_b HTT.out.symm, hbel⟩
  · have h1 : (m == n) = false := by simpa using hmn
    have h2 : ((m : Int) != (n : Int)) = true := by simpa using (by omega : ¬ (m : Int) = n)
    rw [h1, Bool.false_and]
    clear hmn
    go_enter Try.func28, Try.ntmps28
    go_wp2
    go_ret
    exact ⟨rfl, Below.refl _ _⟩
end Go.Proofs.Ytjknmancnfeifaa
