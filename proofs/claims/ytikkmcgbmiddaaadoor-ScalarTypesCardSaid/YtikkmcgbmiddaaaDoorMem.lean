/-
  What the walks carry along: the world has only new blocks, and the library's table and variable read as they did (Run). Contracts of the laws' helpers un, bin and is.
-/
import Derived.Test.YtikkmcgbmiddaaaDoorBase
import Derived.Test.YtikkmcgbmiddaaaDoorShelf
import Derived.WalkKit
import Derived.ProofKit
import Derived.OpenShut
import Derived.Lib.AppendIntMem
namespace Go.Proofs.YtikkmcgbmiddaaaDoor
open Go.ChangeShapes Go.WideShapes Go.ChangeAt Go.RowKit

/-- The library's variables that the walks read. -/
def Env (w : World) : Prop := Lib.TabIs Tryd.prog w "internal/strconv.uint64pow10" .u64 Lib.pow10Tab ∧ ∃ m, w.cell? ⟨1, 0, none⟩ = some (.int .i64 m)

theorem Env.on {w w' : World} (h : Env w) (hb : Below w.heap.size w w') : Env w' := by
  obtain ⟨h1, m, hm⟩ := h
  refine ⟨Lib.tabBelow_of_tabIs h1 w' hb, m, ?_⟩
  have hlt : 1 < w.heap.size := by
    refine Nat.lt_of_not_le fun hle => ?_
    have : w.heap[1]? = none := Array.getElem?_eq_none hle
    simp [World.cell?, this] at hm
  exact (hb.cell (p := ⟨1, 0, none⟩) hlt).trans hm

/-- Since w0 nothing has turned but for new blocks; the library's variables read as listed. -/
def Run (w0 w : World) : Prop := Below w0.heap.size w0 w ∧ Env w
theorem Run.start {w : World} (h : Env w) : Run w w := ⟨Below.refl _ _, h⟩
theorem Run.on {w0 w w' : World} (h : Run w0 w) (hb : Below w.heap.size w w') : Run w0 w' := ⟨h.1.trans (hb.mono h.1.size), h.2.on hb⟩

theorem bin_c {w0 w : World} (op a b : Int) (h : Run w0 w) (ha : I32 a) (hb : I32 b) :
    Calls Tryd.prog 14 #[.int .i64 op, .int .i32 a, .int .i32 b] w fun e w' => e = .returned (.agg #[.int .i32 (binV op a b), .int .i64 (binE op)]) ∧ Run w0 w' := by
  have H := Lib.hid h
  clear h
  go_enter Tryd.func14, Tryd.ntmps14
  go_wp2_with (go_at_call 28; refine (Bin_any op a b _ ha hb).mono ?_; rintro e w' ⟨rfl, rfl⟩)
  exact bodyPost_ret (v := .agg #[.int .i32 (binV op a b), .int .i64 (binE op)]) (by simp [results, Tryd.results14, go_sem]) rfl ⟨rfl, H.out.on ((Below.refl _ _).alloc (Nat.le_refl _) _)⟩
theorem un_c {w0 w : World} (op a : Int) (h : Run w0 w) (ha : I32 a) :
    Calls Tryd.prog 12 #[.int .i64 op, .int .i32 a] w fun e w' => e = .returned (.agg #[.int .i32 (unV op a), .int .i64 (unE op)]) ∧ Run w0 w' := by
  have H := Lib.hid h
  clear h
  go_enter Tryd.func12, Tryd.ntmps12
  go_wp2_with (go_at_call 25; refine (Un_any op a _ ha).mono ?_; rintro e w' ⟨rfl, rfl⟩)
  exact bodyPost_ret (v := .agg #[.int .i32 (unV op a), .int .i64 (unE op)]) (by simp [results, Tryd.results12, go_sem]) rfl ⟨rfl, H.out.on ((Below.refl _ _).alloc (Nat.le_refl _) _)⟩
theorem is_c {w0 w : World} (a : Int) (h : Run w0 w) :
    Calls Tryd.prog 20 #[.int .i32 a] w fun e w' => e = .returned (.agg #[.int .i32 a, .int .i64 0]) ∧ Run w0 w' := by
  have H := Lib.hid h
  clear h
  go_enter Tryd.func20, Tryd.ntmps20
  go_wp2
  exact bodyPost_ret (v := .agg #[.int .i32 a, .int .i64 0]) (by simp [results, Tryd.results20, go_sem]) rfl ⟨rfl, H.out.on ((Below.refl _ _).alloc (Nat.le_refl _) _)⟩

theorem fixQ_rng (a b : Int) : I32 (fixQ a b) := by
  unfold fixQ; split
  · exact ⟨by omega, by omega⟩
  · exact I32.wrap _
theorem quotV_rng (a b : Int) : I32 (quotV a b) := by
  unfold quotV; split
  · exact ⟨by omega, by omega⟩
  · exact I32.wrap _
theorem bits_rng (o : BinOp) (a b : Int) : I32 (bits o IntKind.i32 a b) := by
  have w : ∀ n : Int, I32 (IntKind.i32.wrap n) := fun n => by rw [IntWalk.i32_left]; exact I32.wrap _
  unfold bits
  split <;> first | exact w _ | exact ⟨by omega, by omega⟩
theorem tr_rng (p : Prop) [Decidable p] : I32 (tr p) := by unfold tr; split <;> exact ⟨by omega, by omega⟩
theorem div_pow_rng {a : Int} (n : Nat) (h : I32 a) : I32 (a / 2 ^ n) := by
  obtain ⟨h1, h2⟩ := h
  have hp : (1 : Int) ≤ 2 ^ n := by have := Int.pow_pos (n := 2) (m := n) (by omega); omega
  by_cases h0 : 0 ≤ a
  · exact ⟨by have := Int.ediv_nonneg h0 (b := 2 ^ n) (by omega); omega, by have := Int.ediv_le_self (2 ^ n) h0; omega⟩
  · have e1 : (-2147483648 : Int) ≤ a / 2 ^ n := by
      refine (Int.le_ediv_iff_mul_le (by omega)).2 ?_
      have : (2147483648 : Int) * 1 ≤ 2147483648 * 2 ^ n := Int.mul_le_mul_of_nonneg_left hp (by omega)
      omega
    have e2 : a / 2 ^ n ≤ 0 := by
      have := Int.ediv_le_ediv (a := a) (b := 0) (c := 2 ^ n) (by omega) (by omega)
      simpa using this
    exact ⟨e1, by omega⟩
theorem ite_rng {c : Prop} [Decidable c] {x y : Int} (hx : I32 x) (hy : I32 y) : I32 (if c then x else y) := by split <;> assumption
theorem binV_rng (op : Int) {a b : Int} (ha : I32 a) (hb : I32 b) : I32 (binV op a b) := by
  have z : I32 0 := ⟨by omega, by omega⟩
  have hd := div_pow_rng (b % 32).toNat ha
  unfold binV
  repeat' first | exact I32.wrap _ | exact quotV_rng _ _ | exact fixQ_rng _ _ | exact bits_rng _ _ _ | exact hd | exact ha | exact hb | exact tr_rng _ | exact z | apply ite_rng
theorem unV_rng (op : Int) {a : Int} (ha : I32 a) : I32 (unV op a) := by
  have z : I32 0 := ⟨by omega, by omega⟩
  have hd : I32 (a / 65536) := div_pow_rng 16 ha
  unfold unV
  repeat' first | exact I32.wrap _ | exact bits_rng _ _ _ | exact hd | exact ha | exact z | apply ite_rng
end Go.Proofs.YtikkmcgbmiddaaaDoor
