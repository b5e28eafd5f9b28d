/-
  Contracts of same, shuffle, Collect.
-/
import Derived.Test.YtjknmancnfeifaaColB
set_option linter.unusedVariables false
set_option linter.unusedSimpArgs false
namespace Go.Proofs.Ytjknmancnfeifaa
open Go.ChangeShapes Go.WideShapes Go.ChangeAt Go.RowKit

/-- The row of same when k rounds are over. -/
def rowS (F : Nat → Int) (v : Int) (k : Nat) : Nat → Value := fun j => if j < k then .int .i32 v else .int .i32 (F j)
theorem rowS_set {w : World} {g n : Nat} {F : Nat → Int} {v : Int} {k : Nat} (h : w.rowIs g 21 n (rowS F v k)) : (w.setCell ⟨g, k, none⟩ (.int .i32 v)).rowIs g 21 n (rowS F v (k + 1)) :=
  (h.set k (.int .i32 v)).congr fun j _ => by
    unfold rowS
    by_cases h : j = k
    · subst h; simp
    · simp only [if_neg h]
      by_cases h2 : j < k
      · rw [if_pos h2, if_pos (by omega)]
      · rw [if_neg h2, if_neg (by omega)]

theorem rowK_last {w : World} {g n : Nat} {op : Int} {f : Nat → Int} (h1 : 1 ≤ n) (h : w.rowIs g 21 n (rowK (fun j => stV op f (j + 1)) n)) : w.cell? ⟨g, n - 1, none⟩ = some (.int .i32 (stV op f n)) := by
  rw [h.cell (show n - 1 < n by omega)]
  show some (if n - 1 < n then _ else _) = _
  rw [if_pos (by omega)]
  show some (Value.int .i32 (stV op f (n - 1 + 1))) = _
  rw [show n - 1 + 1 = n by omega]

set_option maxRecDepth 100000 in
theorem same_any (op : Int) (n c b : Nat) (A : Option Addr) (f : Nat → Int) (w : World) (h1 : 1 ≤ n) (hn : n ≤ 32) (hr : RF w b .i32 A n f) (hb : One w b (initV op)) :
    Calls Try.prog 45 #[.slice A n c, .func (.func (fnOf op)) #[] #[.pointer (some ⟨b, 0, none⟩)]] w fun e w' => ∃ g, e = .returned (.slice (some ⟨g, 0, none⟩) n n) ∧ w'.rowIs g 21 n (rowS (fun j => stV op f (j + 1)) (stV op f n) n) ∧ w.heap.size ≤ g ∧ Below b w w' := by
  have HS := Lib.hid (scan_any op n c b A f w h1 hn hr hb)
  have hlt := hb.lt
  have HB := Lib.hid hb
  clear hr hb
  go_enter Try.func45, Try.ntmps45
  go_wp2_with (go_at_call 43; refine HS.out.mono ?_; rintro e w1 ⟨g, rfl, hrow, hg, hbel⟩; have hlast := rowK_last h1 hrow; have HR := Lib.hid hrow; have HL := Lib.hid hbel; clear hrow hbel)
  go_loopw [19] (fun i wr => ∃ k : Nat, k ≤ n ∧ i = .int .i64 k ∧ wr.rowIs g 21 n (rowS (fun j => stV op f (j + 1)) (stV op f n) k) ∧ Below b w wr) (fun i _ => n - (intOf i).toNat)
  case atStart => exact ⟨0, Nat.zero_le _, rfl, HR.out.congr fun j hj => by unfold rowK rowS; rw [if_pos hj, if_neg (by omega)], HL.out⟩
  case round =>
    obtain ⟨k, hk, rfl, hrow, hbel⟩ := hrel
    clear hlast
    by_cases hlt2 : k < n
    · have hcs := hrow.cell hlt2
      have hfs := hrow.frozen k
      have HR := Lib.hid hrow
      have HL := Lib.hid hbel
      clear hrow hbel
      go_wp2
      go_roundw
      case rel => exact ⟨k + 1, by omega, by go_num, rowS_set HR.out, HL.out.setCell (by simp; omega) _⟩
      case measure => simp [intOf]; omega
    · obtain rfl : k = n := by omega
      have HR := Lib.hid hrow
      have HL := Lib.hid hbel
      clear hrow hbel
      go_wp2
      go_ret
      exact ⟨_, rfl, HR.out, hg, HL.out⟩

/-- Where a shuffle reads. -/
def shI (n : Nat) (k : Int) : Nat := (k % n).toNat
theorem shI_lt {n : Nat} (h : 1 ≤ n) (k : Int) : shI n k < n := by unfold shI; have := Int.emod_nonneg k (b := n) (by omega); have := Int.emod_lt_of_pos k (b := n) (by omega); omega
theorem shI_go {n : Nat} (h : 1 ≤ n) (k : Int) : (k.tmod n % n).toNat = shI n k := by
  unfold shI
  have : k.tmod n % (n : Int) = k % n := by
    rw [Int.tmod_eq_emod]
    split
    · simp
    · rw [Int.sub_emod]; simp
  rw [this]
theorem tmod_rng {n : Nat} (h : 1 ≤ n) (k : Int) : -(n : Int) < k.tmod n ∧ k.tmod n < n := by
  have h1 := Int.tmod_lt_of_pos k (b := n) (by omega)
  have h2 := Int.lt_tmod_of_pos k (b := n) (by omega)
  omega

set_option maxRecDepth 100000 in
theorem shuffle_any (n c c' : Nat) (A A' : Option Addr) (f x : Nat → Int) (w : World) (h1 : 1 ≤ n) (hn : n ≤ 32) (hr : RF w w.heap.size .i32 A n f) (hx : RF w w.heap.size .i32 A' n x) :
    Calls Try.prog 42 #[.slice A n c, .slice A' n c'] w fun e w' => ∃ g, e = .returned (.slice (some ⟨g, 0, none⟩) n n) ∧ w'.rowIs g 21 n (rowK (fun j => f (shI n (x j))) n) ∧ w.heap.size ≤ g ∧ Below w.heap.size w w' := by
  obtain ⟨bv, off, rfl, hbv, hc⟩ := hr (by omega)
  obtain ⟨bx, offx, rfl, hbx, hcx⟩ := hx (by omega)
  have hmk := fun W => run_make_row' (P := Try.prog) 25 21 (.int .i32 0) 4 Try.underlying25 info21 rfl .i32 .i32 n (by omega) (by omega) W
  have HC := Lib.hid hc
  have HX := Lib.hid hcx
  clear hc hcx hr hx
  go_enter Try.func42, Try.ntmps42
  go_wp2
  go_loopw [16] (fun i wr => ∃ k : Nat, k ≤ n ∧ i = .int .i64 k ∧ wr.rowIs w.heap.size 21 n (rowK (fun j => f (shI n (x j))) k) ∧ Below w.heap.size w wr) (fun i _ => n - (intOf i).toNat)
  case atStart => exact ⟨0, Nat.zero_le _, rfl, by rw [rowK_zero]; exact World.rowIs_made _ _ _ _, (Below.refl _ _).alloc (by omega) _⟩
  case round =>
    obtain ⟨k, hk, rfl, hrow, hbel⟩ := hrel
    by_cases hlt2 : k < n
    · have hcx : wr.cell? ⟨bx, offx + k, none⟩ = some (.int .i32 (x k)) := (hbel.cell (p := ⟨bx, offx + k, none⟩) hbx).trans (HX.out k hlt2)
      obtain ⟨t1, t2⟩ := tmod_rng h1 (x k)
      have hix := shI_go h1 (x k)
      have m1 := Int.emod_nonneg ((x k).tmod n) (b := n) (by omega)
      have m2 := Int.emod_lt_of_pos ((x k).tmod n) (b := n) (by omega)
      have hcv : wr.cell? ⟨bv, off + ((x k).tmod n % n).toNat, none⟩ = some (.int .i32 (f (shI n (x k)))) := by
        rw [hix]; exact (hbel.cell (p := ⟨bv, off + shI n (x k), none⟩) hbv).trans (HC.out _ (shI_lt h1 _))
      have hcs := hrow.cell hlt2
      have hfs := hrow.frozen k
      have HR := Lib.hid hrow
      have HL := Lib.hid hbel
      clear hrow hbel hix
      go_wp2
      go_roundw
      case rel => exact ⟨k + 1, by omega, by go_num, rowK_set HR.out, HL.out.setCell (by simp) _⟩
      case measure => simp [intOf]; omega
    · obtain rfl : k = n := by omega
      have HR := Lib.hid hrow
      have HL := Lib.hid hbel
      clear hrow hbel
      go_wp2
      go_ret
      exact ⟨_, rfl, HR.out, Nat.le_refl _, HL.out⟩
end Go.Proofs.Ytjknmancnfeifaa
