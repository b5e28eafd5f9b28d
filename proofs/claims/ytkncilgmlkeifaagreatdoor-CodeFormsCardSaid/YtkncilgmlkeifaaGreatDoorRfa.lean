/-
  The reference: contracts of Reg, Const and SameInts.
-/
import Derived.Test.YtkncilgmlkeifaaGreatDoorAllI
import Derived.Test.YtkncilgmlkeifaaGreatDoorPart
set_option linter.unusedVariables false
set_option linter.unusedSimpArgs false
namespace Go.Proofs.YtkncilgmlkeifaaGreatDoor
open Go.ChangeShapes Go.WideShapes Go.ChangeAt Go.RowKit Go.Shelf

set_option maxRecDepth 100000 in
theorem Reg_any (n : Int) (w : World) : Calls Tryz.prog 40 #[.int .i64 n] w fun e w' => e = .returned (.agg #[.int .i64 2, .int .i64 n, .int .i32 0]) ∧ Below w.heap.size w w' := by
  go_enter Tryz.func40, Tryz.ntmps40
  go_wp2
  exact bodyPost_ret (v := .agg #[.int .i64 2, .int .i64 n, .int .i32 0]) (by simp [results, Tryz.results40, go_sem]) rfl ⟨rfl, by first | exact (Below.refl _ _).alloc (Nat.le_refl _) _ | exact ((((Below.refl _ _).alloc (Nat.le_refl _) _).setCell (by simp) _).setCell (by simp) _).setCell (by simp) _⟩
set_option maxRecDepth 100000 in
theorem Const_any (n : Int) (w : World) : Calls Tryz.prog 42 #[.int .i32 n] w fun e w' => e = .returned (.agg #[.int .i64 1, .int .i64 0, .int .i32 n]) ∧ Below w.heap.size w w' := by
  go_enter Tryz.func42, Tryz.ntmps42
  go_wp2
  exact bodyPost_ret (v := .agg #[.int .i64 1, .int .i64 0, .int .i32 n]) (by simp [results, Tryz.results42, go_sem]) rfl ⟨rfl, by first | exact (Below.refl _ _).alloc (Nat.le_refl _) _ | exact ((((Below.refl _ _).alloc (Nat.le_refl _) _).setCell (by simp) _).setCell (by simp) _).setCell (by simp) _⟩
def sameI (n m : Nat) (f h : Nat → Int) : Bool := decide (n = m) && (List.range n).all fun j => f j == h j
set_option maxRecDepth 100000 in
set_option maxHeartbeats 2000000 in
theorem SameInts_any (n c m d : Nat) (A B : Option Addr) (f h : Nat → Int) (w : World) (hn : n ≤ 65536) (hm : m ≤ 65536) (ha : RI w w.heap.size A n f) (hb : RI w w.heap.size B m h) :
    Calls Tryz.prog 21 #[.slice A n c, .slice B m d] w fun e w' => e = .returned (.bool (sameI n m f h)) ∧ Below w.heap.size w w' := by
  by_cases e : n = m
  · subst e
    have HS : Hid (sameI n n f h = (List.range n).all fun j => f j == h j) := Lib.hid (by simp [sameI])
    have HT := Lib.hid (fun (k : ∀ j, j < n → (f j == h j) = true) => show (List.range n).all (fun j => f j == h j) = true from List.all_eq_true.2 (fun j hj => k j (by simpa using hj)))
    have HN := Lib.hid (fun (k : Nat) (hk : k < n) (e : (f k == h k) = false) => show (List.range n).all (fun j => f j == h j) = false from by rw [Bool.eq_false_iff, ne_eq, List.all_eq_true]; exact fun hh => by have := hh k (by simpa using hk); rw [e] at this; cases this)
    obtain ⟨res, hres⟩ : ∃ res, sameI n n f h = res := ⟨_, rfl⟩
    have HRE : Hid ((List.range n).all (fun j => f j == h j) = res) := Lib.hid (HS.out.symm.trans hres)
    rw [hres]
    have HA := Lib.hid ha
    have HB := Lib.hid hb
    clear ha hb hres HS
    go_enter Tryz.func21, Tryz.ntmps21
    go_wp2
    go_loopw [5] (fun i wr => ∃ k : Nat, k ≤ n ∧ i = .int .i64 k ∧ Hid (∀ j, j < k → (f j == h j) = true) ∧ Hid (Below w.heap.size w wr)) (fun i _ => n - (intOf i).toNat)
    case atStart => exact ⟨0, Nat.zero_le _, rfl, Lib.hid (fun j hj => absurd hj (by omega)), Lib.hid (Below.refl _ _)⟩
    case round =>
      obtain ⟨k, hk, rfl, hall, HBe⟩ := hrel
      by_cases hlt : k < n
      · obtain ⟨b1, o1, rfl, _, hc1⟩ := (HA.out.below HBe.out) (by omega)
        obtain ⟨b2, o2, rfl, _, hc2⟩ := (HB.out.below HBe.out) (by omega)
        have m1 := hc1 k hlt
        have m2 := hc2 k hlt
        clear hc1 hc2
        cases ht : (f k == h k)
        · have HX : Hid (res = false) := Lib.hid (HRE.out.symm.trans (HN.out k hlt ht))
          have hne : (f k != h k) = true := by simp [bne, ht]
          clear ht
          go_wp2
          go_quiet (fail)
          go_wp2
          go_ret
          exact ⟨by rw [HX.out]; rfl, below_drewN HBe.out _⟩
        · have HAll : Hid (∀ j, j < k + 1 → (f j == h j) = true) := Lib.hid (fun j hj => by
            by_cases e : j = k
            · subst e; exact ht
            · exact hall.out j (by omega))
          have hne : (f k != h k) = false := by simp [bne, ht]
          clear ht hall
          go_wp2
          go_quiet (fail)
          go_wp2
          go_roundw
          case rel => exact ⟨k + 1, by omega, by go_num, HAll, Lib.hid (below_drewN HBe.out _)⟩
          case measure => simp [intOf]; omega
      · obtain rfl : k = n := by omega
        have HX : Hid (res = true) := Lib.hid (HRE.out.symm.trans (HT.out hall.out))
        go_wp2
        go_ret
        exact ⟨by rw [HX.out]; rfl, HBe.out⟩
  · have hs : sameI n m f h = false := by simp [sameI, e]
    rw [hs]
    have hne : ¬ ((n : Int) = (m : Int)) := by omega
    clear hs e ha hb
    go_enter Tryz.func21, Tryz.ntmps21
    go_wp2
    go_ret
    exact ⟨rfl, Below.refl _ _⟩
end Go.Proofs.YtkncilgmlkeifaaGreatDoor
