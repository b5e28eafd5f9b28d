/-
  Package code: words for blocks in memory; the contract of limited.
-/
import Derived.Test.YtkncilgmlkeifaaGreatDoorBase
import Derived.RangeFuncCalls
import Derived.RangeFuncBound
import Derived.Shelf.Abstract
set_option linter.unusedVariables false
set_option linter.unusedSimpArgs false
namespace Go.Proofs.YtkncilgmlkeifaaGreatDoor
open Go.ChangeShapes Go.WideShapes Go.ChangeAt Go.RowKit Go.Shelf

/-- An operand, an end of a block, an instruction, as numbers. -/
structure OpdV where
  k : Int
  n : Int
  v : Int
structure TermV where
  kind : Int
  sub : Int
  d : OpdV
  a : OpdV
  b : OpdV
  t0 : Int
  t1 : Int
structure InstV where
  op : Int
  sub : Int
  n : Int
  d : OpdV
  a : OpdV
  b : OpdV
  c : OpdV
/-- A slice of blocks: their instructions' slices, and their ends. -/
def RBl (w : World) (B : Nat) (A : Option Addr) (n : Nat) (IA : Nat → Option Addr) (IL IC : Nat → Nat) (T : Nat → TermV) : Prop :=
  0 < n → ∃ b off, A = some ⟨b, off, none⟩ ∧ b < B ∧ ∀ j, j < n → w.cell? ⟨b, off + j * 14, none⟩ = some (.slice (IA j) (IL j) (IC j)) ∧
    w.cell? ⟨b, off + j * 14 + 1, none⟩ = some (.int .i64 (T j).kind) ∧ w.cell? ⟨b, off + j * 14 + 2, none⟩ = some (.int .i64 (T j).sub) ∧
    w.cell? ⟨b, off + j * 14 + 3, none⟩ = some (.int .i64 (T j).d.k) ∧ w.cell? ⟨b, off + j * 14 + 4, none⟩ = some (.int .i64 (T j).d.n) ∧ w.cell? ⟨b, off + j * 14 + 5, none⟩ = some (.int .i32 (T j).d.v) ∧
    w.cell? ⟨b, off + j * 14 + 6, none⟩ = some (.int .i64 (T j).a.k) ∧ w.cell? ⟨b, off + j * 14 + 7, none⟩ = some (.int .i64 (T j).a.n) ∧ w.cell? ⟨b, off + j * 14 + 8, none⟩ = some (.int .i32 (T j).a.v) ∧
    w.cell? ⟨b, off + j * 14 + 9, none⟩ = some (.int .i64 (T j).b.k) ∧ w.cell? ⟨b, off + j * 14 + 10, none⟩ = some (.int .i64 (T j).b.n) ∧ w.cell? ⟨b, off + j * 14 + 11, none⟩ = some (.int .i32 (T j).b.v) ∧
    w.cell? ⟨b, off + j * 14 + 12, none⟩ = some (.int .i64 (T j).t0) ∧ w.cell? ⟨b, off + j * 14 + 13, none⟩ = some (.int .i64 (T j).t1)
theorem RBl.below {w w' : World} {B n : Nat} {A : Option Addr} {IA : Nat → Option Addr} {IL IC : Nat → Nat} {T : Nat → TermV} (h : RBl w B A n IA IL IC T) (hb : Below B w w') : RBl w' B A n IA IL IC T := fun hn => by
  obtain ⟨b, off, e, hlt, hc⟩ := h hn
  have k : ∀ o, w'.cell? ⟨b, o, none⟩ = w.cell? ⟨b, o, none⟩ := fun o => hb.cell (p := ⟨b, o, none⟩) hlt
  refine ⟨b, off, e, hlt, fun j hj => ?_⟩
  simp only [k]
  exact hc j hj
/-- The instructions of the first k blocks. -/
def sumL (IL : Nat → Nat) : Nat → Nat
  | 0 => 0
  | k + 1 => sumL IL k + IL k
theorem sumL_le {IL : Nat → Nat} {n : Nat} (h : ∀ j, j < n → IL j ≤ 65536) : ∀ k, k ≤ n → sumL IL k ≤ k * 65536
  | 0, _ => Nat.le_refl _
  | k + 1, hk => by
    have h1 := sumL_le h k (by omega)
    have h2 := h k (by omega)
    unfold sumL; omega
def limB (r sl p : Int) (n1 n2 n3 : Nat) (IL : Nat → Nat) (nm : Nat → ByteArray) : Bool :=
  decide (n1 ≤ 8) && (decide (n2 ≤ 400) && (decide (n3 ≤ 400) && (decide (r ≤ 256) && (decide (sl ≤ 256) && (decide (p ≤ 8) && (decide (sumL IL n3 ≤ 2000) && (List.range n1).all fun j => decide (((nm j).size : Int) ≤ 12)))))))
section
variable (g s r sl p : Int) (n1 c1 n2 c2 n3 c3 : Nat) (A1 A2 A3 : Option Addr) (nm : Nat → ByteArray) (sp ty ln : Nat → Int) (IA : Nat → Option Addr) (IL IC : Nat → Nat) (T : Nat → TermV)
set_option maxRecDepth 100000 in
set_option maxHeartbeats 4000000 in
theorem limited_any (w : World) (h1 : RAr w w.heap.size A1 n1 nm sp ty ln) (h3 : RBl w w.heap.size A3 n3 IA IL IC T) (hI : ∀ j, j < n3 → IL j ≤ 65536) (hc2 : n2 ≤ 9223372036854775807) (hc1 : n1 ≤ 9223372036854775807) (hc3 : n3 ≤ 9223372036854775807) :
    Calls Tryz.prog 54 #[.agg #[.int .i64 g, .int .i64 s, .int .i64 r, .int .i64 sl, .int .i64 p, .slice A1 n1 c1, .slice A2 n2 c2, .slice A3 n3 c3]] w fun e w' => e = .returned (.bool (limB r sl p n1 n2 n3 IL nm)) ∧ Below w.heap.size w w' := by
  have hb : ∀ o, Below w.heap.size w (w.alloc o) := fun o => (Below.refl _ _).alloc (Nat.le_refl _) o
  have HB := Lib.hid hb
  clear hb
  unfold limB
  by_cases q1 : n1 ≤ 8
  · simp only [decide_eq_true q1, Bool.true_and]
    by_cases q2 : n2 ≤ 400
    · simp only [decide_eq_true q2, Bool.true_and]
      by_cases q3 : n3 ≤ 400
      · simp only [decide_eq_true q3, Bool.true_and]
        by_cases q4 : r ≤ 256
        · simp only [decide_eq_true q4, Bool.true_and]
          by_cases q5 : sl ≤ 256
          · simp only [decide_eq_true q5, Bool.true_and]
            by_cases q6 : p ≤ 8
            · simp only [decide_eq_true q6, Bool.true_and]
              have HA := Lib.hid (fun (W : World) (hW : Below w.heap.size w W) => allArr_any n1 c1 94 A1 nm sp ty ln (fun j => decide (((nm j).size : Int) ≤ 12)) W (by omega) (show RAr W W.heap.size A1 n1 nm sp ty ln from fun hn => by
                obtain ⟨b, off, e, hlt, hc⟩ := (h1.below (w' := W) hW) hn
                exact ⟨b, off, e, by have := hW.size; omega, hc⟩) (enters_of Tryz.func94 (by kernel_rfl) rfl) (fun j V _ => short_any (nm j) (sp j) (ty j) (ln j) V))
              have HS := Lib.hid (sumL_le hI)
              have H3 := Lib.hid h3
              have HI := Lib.hid hI
              obtain ⟨ab, hab⟩ : ∃ ab, ((List.range n1).all fun j => decide (((nm j).size : Int) ≤ 12)) = ab := ⟨_, rfl⟩
              rw [hab] at HA ⊢
              clear h1 h3 hI hab
              go_enter Tryz.func54, Tryz.ntmps54
              go_wp2
              go_loopw [3, 38] (fun t i wr => ∃ k : Nat, k ≤ n3 ∧ i = .int .i64 k ∧ t = .int .i64 (sumL IL k : Nat) ∧ Below (w.heap.size + 1) (w.alloc (.cells #[.int .i64 g, .int .i64 s, .int .i64 r, .int .i64 sl, .int .i64 p, .slice A1 n1 c1, .slice A2 n2 c2, .slice A3 n3 c3] 36)) wr) (fun _ i _ => n3 - (intOf i).toNat)
              case atStart => exact ⟨0, Nat.zero_le _, rfl, rfl, Below.refl _ _⟩
              case round =>
                obtain ⟨k, hk, rfl, rfl, hbel⟩ := hrel
                have hs := HS.out k hk
                by_cases hlt : k < n3
                · obtain ⟨b, off, rfl, hb3, hc⟩ := (H3.out.below ((HB.out _).trans (hbel.mono (by omega)))) (by omega)
                  obtain ⟨m0, m1, m2, m3, m4, m5, m6, m7, m8, m9, m10, m11, m12, m13⟩ := hc k hlt
                  have hi := HI.out k hlt
                  have hsz := hbel.size
                  simp only [World.size_alloc] at hsz
                  have hsl : sumL IL (k + 1) = sumL IL k + IL k := rfl
                  have HL := Lib.hid hbel
                  have HSL := Lib.hid hsl
                  clear hbel hc hsl
                  go_wp2
                  go_roundw
                  case rel => exact ⟨k + 1, by omega, by go_num, by rw [HSL.out]; go_num, HL.out.alloc (by omega) _⟩
                  case measure => simp [intOf]; omega
                · obtain rfl : k = n3 := by omega
                  obtain ⟨S, hS⟩ : ∃ S, sumL IL k = S := ⟨_, rfl⟩
                  rw [hS] at hs ⊢
                  have hbx := (HB.out (.cells #[.int .i64 g, .int .i64 s, .int .i64 r, .int .i64 sl, .int .i64 p, .slice A1 n1 c1, .slice A2 n2 c2, .slice A3 k c3] 36)).trans (hbel.mono (by omega))
                  have hx5 : wr.cell? ⟨w.heap.size, 5, none⟩ = some (.slice A1 n1 c1) := (hbel.cell (p := ⟨w.heap.size, 5, none⟩) (by simp)).trans (by rw [World.cell?_alloc_at _ _ _ _ rfl]; rfl)
                  have HL := Lib.hid hbx
                  have HS2 := Lib.hid hS
                  clear hbel hbx hS
                  by_cases q7 : S ≤ 2000
                  · have hq : (S : Int) ≤ 2000 := by omega
                    have e7 : Hid ((decide (sumL IL k ≤ 2000) && ab) = ab) := Lib.hid (by rw [HS2.out, decide_eq_true q7, Bool.true_and])
                    go_wp2_with (go_at_call 93; (with_reducible refine (HA.out _ HL.out).mono ?_); rintro e w1 ⟨rfl, hb1⟩; have HB1 := Lib.hid (HL.out.trans (hb1.mono HL.out.size)); clear hb1)
                    go_ret
                    exact ⟨ret_b e7.out.symm, HB1.out⟩
                  · have hq : ¬ (S : Int) ≤ 2000 := by omega
                    have e7 : Hid ((decide (sumL IL k ≤ 2000) && ab) = false) := Lib.hid (by rw [HS2.out, decide_eq_false q7, Bool.false_and])
                    go_wp2
                    go_ret
                    exact ⟨ret_b e7.out.symm, HL.out⟩
            · simp only [decide_eq_false q6, Bool.false_and]
              go_enter Tryz.func54, Tryz.ntmps54
              go_wp2
              go_ret
              exact ⟨rfl, HB.out _⟩
          · simp only [decide_eq_false q5, Bool.false_and]
            go_enter Tryz.func54, Tryz.ntmps54
            go_wp2
            go_ret
            exact ⟨rfl, HB.out _⟩
        · simp only [decide_eq_false q4, Bool.false_and]
          go_enter Tryz.func54, Tryz.ntmps54
          go_wp2
          go_ret
          exact ⟨rfl, HB.out _⟩
      · simp only [decide_eq_false q3, Bool.false_and]
        go_enter Tryz.func54, Tryz.ntmps54
        go_wp2
        go_ret
        exact ⟨rfl, HB.out _⟩
    · simp only [decide_eq_false q2, Bool.false_and]
      go_enter Tryz.func54, Tryz.ntmps54
      go_wp2
      go_ret
      exact ⟨rfl, HB.out _⟩
  · simp only [decide_eq_false q1, Bool.false_and]
    go_enter Tryz.func54, Tryz.ntmps54
    go_wp2
    go_ret
    exact ⟨rfl, HB.out _⟩
end
end Go.Proofs.YtkncilgmlkeifaaGreatDoor
