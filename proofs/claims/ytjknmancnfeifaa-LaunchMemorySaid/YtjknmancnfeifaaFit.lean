/-
  Contracts of words and Fits.
-/
import Derived.Test.YtjknmancnfeifaaMem
import Derived.Deep.RegionHeld3
import Derived.Deep.DrawnRows
import Derived.Deep.QuietTactic
import Derived.BigQuiet
import Derived.StillTailTactics
import Derived.Outline
set_option linter.unusedVariables false
set_option linter.unusedSimpArgs false
namespace Go.Proofs.Ytjknmancnfeifaa
open Go.ChangeShapes Go.WideShapes Go.ChangeAt Go.RowKit

/-- How many words an array has in a space. -/
def wV (sp ln space : Int) : Int := if sp = space then ln else 0
theorem words_any (nm : ByteArray) (sp ty ln space : Int) (w : World) :
    Calls Try.prog 40 #[.agg #[.string nm, .int .i64 sp, .int .i64 ty, .int .i64 ln], .int .i64 space] w fun e w' => e = .returned (.int .i64 (wV sp ln space)) ∧ Below w.heap.size w w' := by
  unfold wV
  by_cases h : sp = space
  · subst h
    simp only [if_true]
    go_enter Try.func40, Try.ntmps40
    go_wp2
    go_ret
    exact ⟨rfl, (Below.refl _ _).alloc (Nat.le_refl _) _⟩
  · simp only [if_neg h]
    have h2 : (sp == space) = false := by simpa using h
    clear h
    go_enter Try.func40, Try.ntmps40
    go_wp2
    go_ret
    exact ⟨rfl, (Below.refl _ _).alloc (Nat.le_refl _) _⟩
theorem rwords_any (nm : ByteArray) (sp ty ln space : Int) (w : World) :
    Calls Try.prog 41 #[.agg #[.string nm, .int .i64 sp, .int .i64 ty, .int .i64 ln], .int .i64 space] w fun e w' => e = .returned (.int .i64 (wV sp ln space)) ∧ Below w.heap.size w w' := by
  unfold wV
  by_cases h : sp = space
  · subst h
    simp only [if_true]
    go_enter Try.func41, Try.ntmps41
    go_wp2
    go_ret
    exact ⟨rfl, (Below.refl _ _).alloc (Nat.le_refl _) _⟩
  · simp only [if_neg h]
    have h2 : (sp == space) = false := by simpa using h
    clear h
    go_enter Try.func41, Try.ntmps41
    go_wp2
    go_ret
    exact ⟨rfl, (Below.refl _ _).alloc (Nat.le_refl _) _⟩

/-- A slice of arrays: names, spaces, types, lengths. -/
def RA (w : World) (B : Nat) (A : Option Addr) (n : Nat) (sp ln : Nat → Int) : Prop :=
  0 < n → ∃ b off, A = some ⟨b, off, none⟩ ∧ b < B ∧ ∀ j, j < n → ∃ nm ty, w.cell? ⟨b, off + j * 4, none⟩ = some (.string nm) ∧ w.cell? ⟨b, off + j * 4 + 1, none⟩ = some (.int .i64 (sp j)) ∧ w.cell? ⟨b, off + j * 4 + 2, none⟩ = some (.int .i64 ty) ∧ w.cell? ⟨b, off + j * 4 + 3, none⟩ = some (.int .i64 (ln j))
section
variable {w w' : World} {B B' n : Nat} {A : Option Addr} {sp ln : Nat → Int}
theorem RA.at_ {j : Nat} (h : RA w B A n sp ln) (hj : j < n) : ∃ b off nm ty, A = some ⟨b, off, none⟩ ∧ b < B ∧ w.cell? ⟨b, off + j * 4, none⟩ = some (.string nm) ∧ w.cell? ⟨b, off + j * 4 + 1, none⟩ = some (.int .i64 (sp j)) ∧ w.cell? ⟨b, off + j * 4 + 2, none⟩ = some (.int .i64 ty) ∧ w.cell? ⟨b, off + j * 4 + 3, none⟩ = some (.int .i64 (ln j)) := by
  obtain ⟨b, off, rfl, hb, hc⟩ := h (by omega)
  obtain ⟨nm, ty, h1, h2, h3, h4⟩ := hc j hj
  exact ⟨b, off, nm, ty, rfl, hb, h1, h2, h3, h4⟩
theorem RA.keep (h : RA w B A n sp ln) (hB : B ≤ B') (hk : ∀ b o, b < B → w'.cell? ⟨b, o, none⟩ = w.cell? ⟨b, o, none⟩) : RA w' B' A n sp ln := fun hn => by
  obtain ⟨b, off, e, hb, hc⟩ := h hn
  refine ⟨b, off, e, by omega, fun j hj => ?_⟩
  obtain ⟨nm, ty, h1, h2, h3, h4⟩ := hc j hj
  exact ⟨nm, ty, (hk _ _ hb).trans h1, (hk _ _ hb).trans h2, (hk _ _ hb).trans h3, (hk _ _ hb).trans h4⟩
theorem RA.on (h : RA w w.heap.size A n sp ln) (hb : Below w.heap.size w w') : RA w' w'.heap.size A n sp ln := h.keep hb.size fun b o hp => hb.cell (p := ⟨b, o, none⟩) hp
theorem RA.below (h : RA w B A n sp ln) (hb : Below B w w') : RA w' B A n sp ln := h.keep (Nat.le_refl _) fun b o hp => hb.cell (p := ⟨b, o, none⟩) hp
end

/-- A slice of slices, their lengths alone. -/
def RWl (w : World) (B : Nat) (A : Option Addr) (n : Nat) (L : Nat → Nat) : Prop :=
  0 < n → ∃ b off, A = some ⟨b, off, none⟩ ∧ b < B ∧ ∀ j, j < n → ∃ A' c', w.cell? ⟨b, off + j, none⟩ = some (.slice A' (L j) c')
theorem RW.lens {w : World} {B n : Nat} {k : IntKind} {A : Option Addr} {L : Nat → Nat} {F : Nat → Nat → Int} (h : RW w B k A n L F) : RWl w B A n L := fun hn => by
  obtain ⟨b, off, e, hb, hc⟩ := h hn
  refine ⟨b, off, e, hb, fun j hj => ?_⟩
  obtain ⟨A', c', h1, _⟩ := hc j hj
  exact ⟨A', c', h1⟩
section
variable {w w' : World} {B B' n : Nat} {A : Option Addr} {L : Nat → Nat}
theorem RWl.at_ {j : Nat} (h : RWl w B A n L) (hj : j < n) : ∃ b off A' c', A = some ⟨b, off, none⟩ ∧ b < B ∧ w.cell? ⟨b, off + j, none⟩ = some (.slice A' (L j) c') := by
  obtain ⟨b, off, rfl, hb, hc⟩ := h (by omega)
  obtain ⟨A', c', h1⟩ := hc j hj
  exact ⟨b, off, A', c', rfl, hb, h1⟩
theorem RWl.keep (h : RWl w B A n L) (hB : B ≤ B') (hk : ∀ b o, b < B → w'.cell? ⟨b, o, none⟩ = w.cell? ⟨b, o, none⟩) : RWl w' B' A n L := fun hn => by
  obtain ⟨b, off, e, hb, hc⟩ := h hn
  refine ⟨b, off, e, by omega, fun j hj => ?_⟩
  obtain ⟨A', c', h1⟩ := hc j hj
  exact ⟨A', c', (hk _ _ hb).trans h1⟩
theorem RWl.on (h : RWl w w.heap.size A n L) (hb : Below w.heap.size w w') : RWl w' w'.heap.size A n L := h.keep hb.size fun b o hp => hb.cell (p := ⟨b, o, none⟩) hp
theorem RWl.below (h : RWl w B A n L) (hb : Below B w w') : RWl w' B A n L := h.keep (Nat.le_refl _) fun b o hp => hb.cell (p := ⟨b, o, none⟩) hp
end

set_option maxRecDepth 100000 in
set_option maxHeartbeats 1000000 in
theorem Fits_true (n c c' : Nat) (space : Int) (A A' : Option Addr) (sp ln : Nat → Int) (L : Nat → Nat) (w : World) (hn : n ≤ 65536) (hr : RA w w.heap.size A n sp ln) (hx : RWl w w.heap.size A' n L) (h : ∀ j, j < n → (L j : Int) = wV (sp j) (ln j) space) :
    Calls Try.prog 27 #[.slice A n c, .int .i64 space, .slice A' n c'] w fun e w' => e = .returned (.bool true) ∧ Below w.heap.size w w' := by
  have HR := Lib.hid hr
  have HX := Lib.hid hx
  have HE := Lib.hid h
  clear hr hx h
  go_enter Try.func27, Try.ntmps27
  go_wp2
  go_loopw [16] (fun i wr => ∃ k : Nat, k ≤ n ∧ i = .int .i64 k ∧ Below w.heap.size w wr) (fun i _ => n - (intOf i).toNat)
  case atStart => exact ⟨0, Nat.zero_le _, rfl, Below.refl _ _⟩
  case round =>
    obtain ⟨k, hk, rfl, hbel⟩ := hrel
    by_cases hlt : k < n
    · obtain ⟨b, off, nm, ty, rfl, hb, k1, k2, k3, k4⟩ := (HR.out.below hbel).at_ hlt
      obtain ⟨b', off', B2, c2, rfl, hb', hc'⟩ := (HX.out.below hbel).at_ hlt
      have he := HE.out k hlt
      have HL := Lib.hid hbel
      have hne : b' < wr.heap.size := by have := hbel.size; omega
      have hc2 : (wr.alloc (.cells #[.string nm, .int .i64 (sp k), .int .i64 ty, .int .i64 (ln k)] 79)).cell? ⟨b', off' + k, none⟩ = some (.slice B2 (L k) c2) := (World.cell?_alloc_lt _ _ _ (by exact hne)).trans hc'
      have HW := Lib.hid (fun W => words_any nm (sp k) ty (ln k) space W)
      have hq : (((L k : Nat) : Int) != wV (sp k) (ln k) space) = false := by simpa using he
      clear hbel he
      go_wp2
      go_region_with ((go_at_call 40; refine (HW.out _).mono ?_; rintro e w1 ⟨rfl, hb1⟩; obtain ⟨hcel, _⟩ := bcell hb1; have hbw := Lib.hid (HL.out.trans (((Below.refl _ _).alloc (Nat.le_refl _) (.cells #[.string nm, .int .i64 (sp k), .int .i64 ty, .int .i64 (ln k)] 79)).trans (((Below.refl _ _).drew.trans hb1).mono (by simp))|>.mono HL.out.size)); clear hb1))
      all_goals
        go_wp2
        go_roundw
        case rel => exact ⟨k + 1, by omega, by go_num, hbw.out⟩
        case measure => simp [intOf]; omega
    · obtain rfl : k = n := by omega
      go_wp2
      go_ret
      exact ⟨rfl, hbel⟩
end Go.Proofs.Ytjknmancnfeifaa
