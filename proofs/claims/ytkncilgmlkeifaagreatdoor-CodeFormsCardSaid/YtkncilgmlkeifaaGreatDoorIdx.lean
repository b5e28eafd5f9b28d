/-
  Package code: contracts of set.has and isIndex.
-/
import Derived.Test.YtkncilgmlkeifaaGreatDoorOpd
set_option linter.unusedVariables false
set_option linter.unusedSimpArgs false
namespace Go.Proofs.YtkncilgmlkeifaaGreatDoor
open Go.ChangeShapes Go.WideShapes Go.ChangeAt Go.RowKit Go.Shelf

/-- The set holds n. -/
def hasB (m n : Int) : Bool := wthB n 0 31 && (bits BinOp.and IntKind.u32 (m / 2 ^ n.toNat) 1 == 1)
set_option maxRecDepth 100000 in
theorem setHas_any (m n : Int) (w : World) (m0 : 0 ≤ m) (m1 : m < 4294967296) : Calls Tryz.prog 167 #[.int .u32 m, .int .i64 n] w fun e w' => e = .returned (.bool (hasB m n)) ∧ w = w' := by
  have H := fun W => within_any n 0 31 W
  unfold hasB
  cases h : wthB n 0 31
  · rw [h] at H; rw [Bool.false_and]
    have G := Lib.hid H; clear H h
    go_enter Tryz.func167, Tryz.ntmps167
    go_wp2_with (go_at_call 56; (with_reducible refine (G.out _).mono ?_); rintro e w' ⟨rfl, rfl⟩)
    go_ret
    exact ⟨rfl, rfl⟩
  · have hh := h
    unfold wthB at hh
    simp only [Bool.and_eq_true, decide_eq_true_eq] at hh
    obtain ⟨h0, h1⟩ := hh
    obtain ⟨k, rfl⟩ : ∃ k : Nat, n = (k : Int) := ⟨n.toNat, by omega⟩
    rw [h] at H; rw [Bool.true_and, Int.toNat_natCast]
    have hk : k < 32 := by omega
    have G := Lib.hid H; clear H h
    obtain ⟨b, hb⟩ : ∃ b, (bits BinOp.and IntKind.u32 (m / 2 ^ k) 1 == 1) = b := ⟨_, rfl⟩
    rw [hb]
    go_enter Tryz.func167, Tryz.ntmps167
    go_wp2_with (go_at_call 56; (with_reducible refine (G.out _).mono ?_); rintro e w' ⟨rfl, rfl⟩)
    go_ret
    exact ⟨ret_b (by first | rfl | simp [hb]), rfl⟩
section
variable (g s r sl p : Int) (n1 c1 n2 c2 n3 c3 : Nat) (A1 A2 A3 : Option Addr) (nm : Nat → ByteArray) (sp ty ln : Nat → Int)
/-- The index fits to the table: parameters, slots, arrays, arrays that are not private. -/
def idxB (p sl : Int) (n1 : Nat) (sp : Nat → Int) (t n : Int) : Bool :=
  if t = 1 then wthB n 0 (p - 1) else if t = 4 then wthB n 0 (sl - 1) else wthB n 0 ((n1 : Int) - 1) && (decide (t = 2) || !decide (sp n.toNat = 3))
set_option maxRecDepth 100000 in
set_option maxHeartbeats 1000000 in
theorem isIndex_any (t n : Int) (w : World) (ht : 1 ≤ t ∧ t ≤ 4) (p0 : 0 ≤ p) (p1 : p ≤ 9223372036854775807) (s0 : 0 ≤ sl) (s1 : sl ≤ 9223372036854775807) (hn : n1 ≤ 65536) (hr : RAr w w.heap.size A1 n1 nm sp ty ln) :
    Calls Tryz.prog 168 #[.agg #[.int .i64 g, .int .i64 s, .int .i64 r, .int .i64 sl, .int .i64 p, .slice A1 n1 c1, .slice A2 n2 c2, .slice A3 n3 c3], .int .i64 t, .int .i64 n] w fun e w' => e = .returned (.bool (idxB p sl n1 sp t n)) ∧ Below w.heap.size w w' := by
  have hb : ∀ o, Below w.heap.size w (w.alloc o) := fun o => (Below.refl _ _).alloc (Nat.le_refl _) o
  have HB := Lib.hid hb
  have HP := Lib.hid (fun W => within_any n 0 (p - 1) W)
  have HS := Lib.hid (fun W => within_any n 0 (sl - 1) W)
  have HA := fun W => within_any n 0 ((n1 : Int) - 1) W
  clear hb
  have hcs : t = 1 ∨ t = 4 ∨ t = 2 ∨ t = 3 := by omega
  clear ht
  unfold idxB
  rcases hcs with rfl | rfl | rfl | rfl
  · rw [if_pos rfl]
    go_enter Tryz.func168, Tryz.ntmps168
    go_wp2_with (go_at_call 56; (with_reducible refine (HP.out _).mono ?_); rintro e w' ⟨rfl, rfl⟩)
    go_ret
    exact ⟨rfl, HB.out _⟩
  · rw [if_neg (by decide), if_pos rfl]
    go_enter Tryz.func168, Tryz.ntmps168
    go_wp2_with (go_at_call 56; (with_reducible refine (HS.out _).mono ?_); rintro e w' ⟨rfl, rfl⟩)
    go_ret
    exact ⟨rfl, HB.out _⟩
  · rw [if_neg (by decide), if_neg (by decide)]
    cases h : wthB n 0 ((n1 : Int) - 1)
    · rw [h] at HA; rw [Bool.false_and]
      have G := Lib.hid HA; clear HA h
      go_enter Tryz.func168, Tryz.ntmps168
      go_wp2_with (go_at_call 56; (with_reducible refine (G.out _).mono ?_); rintro e w' ⟨rfl, rfl⟩)
      go_ret
      exact ⟨rfl, HB.out _⟩
    · rw [h] at HA; rw [Bool.true_and, decide_eq_true rfl, Bool.true_or]
      have G := Lib.hid HA; clear HA h
      go_enter Tryz.func168, Tryz.ntmps168
      go_wp2_with (go_at_call 56; (with_reducible refine (G.out _).mono ?_); rintro e w' ⟨rfl, rfl⟩)
      go_ret
      exact ⟨rfl, HB.out _⟩
  · rw [if_neg (by decide), if_neg (by decide)]
    cases h : wthB n 0 ((n1 : Int) - 1)
    · rw [h] at HA; rw [Bool.false_and]
      have G := Lib.hid HA; clear HA h
      go_enter Tryz.func168, Tryz.ntmps168
      go_wp2_with (go_at_call 56; (with_reducible refine (G.out _).mono ?_); rintro e w' ⟨rfl, rfl⟩)
      go_ret
      exact ⟨rfl, HB.out _⟩
    · have hh := h
      unfold wthB at hh
      simp only [Bool.and_eq_true, decide_eq_true_eq] at hh
      obtain ⟨h0, h1⟩ := hh
      obtain ⟨k, rfl⟩ : ∃ k : Nat, n = (k : Int) := ⟨n.toNat, by omega⟩
      have hk : k < n1 := by omega
      rw [h] at HA
      have e3 : (true && (decide ((3 : Int) = 2) || !decide (sp ((k : Int)).toNat = 3))) = !decide (sp k = 3) := by rw [Int.toNat_natCast]; simp
      rw [e3]
      have G := Lib.hid HA; clear HA h e3
      obtain ⟨b, off, rfl, hlt, hc⟩ := hr (by omega)
      have hs := (hc k hk).2.1
      have hs2 : ∀ o, (w.alloc o).cell? ⟨b, off + k * 4 + 1, none⟩ = some (.int .i64 (sp k)) := fun o => (World.cell?_alloc_lt _ _ _ (by exact hlt)).trans hs
      clear hr hc hs
      by_cases h3 : sp k = 3
      · have hq : (sp k != 3) = false := by simpa using h3
        rw [decide_eq_true h3]
        have H3 := Lib.hid h3; clear h3
        go_enter Tryz.func168, Tryz.ntmps168
        go_wp2_with (go_at_call 56; (with_reducible refine (G.out _).mono ?_); rintro e w' ⟨rfl, rfl⟩)
        go_ret
        exact ⟨rfl, HB.out _⟩
      · have hq : (sp k != 3) = true := by simpa using h3
        rw [decide_eq_false h3]
        clear h3
        go_enter Tryz.func168, Tryz.ntmps168
        go_wp2_with (go_at_call 56; (with_reducible refine (G.out _).mono ?_); rintro e w' ⟨rfl, rfl⟩)
        go_ret
        exact ⟨rfl, HB.out _⟩
end
end Go.Proofs.YtkncilgmlkeifaaGreatDoor
