/-
  The law's example: what it makes.
-/
import Derived.Test.YtkncilgmlkeifaaGreatDoorRfa
set_option linter.unusedVariables false
set_option linter.unusedSimpArgs false
namespace Go.Proofs.YtkncilgmlkeifaaGreatDoor
open Go.ChangeShapes Go.WideShapes Go.ChangeAt Go.RowKit Go.Shelf

/-- The box of the result, and the array. -/
structure ExK (w W : World) : Prop where
  box : W.heap[w.heap.size]? = some (.cells #[.int .i64 0, .int .i64 0, .int .i64 0, .int .i64 0, .int .i64 0, .slice none 0 0, .slice none 0 0, .slice none 0 0] 36)
  arr : W.heap[w.heap.size + 1]? = some (.cells #[.string ⟨#[97]⟩, .int .i64 1, .int .i64 1, .int .i64 8] 91)
  below : Below w.heap.size w W
  size : w.heap.size + 2 ≤ W.heap.size
theorem ExK.on {w W W' : World} (h : ExK w W) (hb : Below W.heap.size W W') : ExK w W' :=
  ⟨(hb.block _ (by have := h.size; omega)).trans h.box, (hb.block _ (by have := h.size; omega)).trans h.arr, h.below.trans (hb.mono (by have := h.size; omega)), Nat.le_trans h.size hb.size⟩
theorem ExK.alloc {w W : World} (h : ExK w W) (o : Obj) : ExK w (W.alloc o) := h.on ((Below.refl _ _).alloc (Nat.le_refl _) _)
theorem ExK.cells {w W : World} (h : ExK w W) : W.cell? ⟨w.heap.size, 0, none⟩ = some (.int .i64 0) ∧ W.cell? ⟨w.heap.size, 1, none⟩ = some (.int .i64 0) ∧ W.cell? ⟨w.heap.size, 2, none⟩ = some (.int .i64 0) ∧ W.cell? ⟨w.heap.size, 3, none⟩ = some (.int .i64 0) ∧ W.cell? ⟨w.heap.size, 4, none⟩ = some (.int .i64 0) ∧ W.cell? ⟨w.heap.size, 5, none⟩ = some (.slice none 0 0) ∧ W.cell? ⟨w.heap.size, 6, none⟩ = some (.slice none 0 0) ∧ W.cell? ⟨w.heap.size, 7, none⟩ = some (.slice none 0 0) := by
  simp only [World.cell?, h.box]
  exact ⟨rfl, rfl, rfl, rfl, rfl, rfl, rfl, rfl⟩
theorem ExK.free {w W : World} (h : ExK w W) (o : Nat) : W.frozen? ⟨w.heap.size, o, none⟩ = false := by simp [World.frozen?, h.box]
set_option maxRecDepth 100000 in
set_option maxHeartbeats 4000000 in
theorem example_any (w : World) : Calls Tryz.prog 36 #[] w fun e w' => ∃ m, w.heap.size + 2 ≤ m ∧ e = .returned (.agg #[.int .i64 4, .int .i64 2, .int .i64 2, .int .i64 0, .int .i64 0, .slice (some ⟨w.heap.size + 1, 0, none⟩) 1 1, .slice none 0 0, .slice (some ⟨m + 1, 0, none⟩) 1 1]) ∧ w'.heap[w.heap.size + 1]? = some (.cells #[.string ⟨#[97]⟩, .int .i64 1, .int .i64 1, .int .i64 8] 91) ∧ w'.heap[m]? = some (.cells #[.int .i64 5, .int .i64 1, .int .i64 0, .int .i64 2, .int .i64 0, .int .i32 0, .int .i64 0, .int .i64 0, .int .i32 0, .int .i64 0, .int .i64 0, .int .i32 0, .int .i64 0, .int .i64 0, .int .i32 0, .int .i64 8, .int .i64 0, .int .i64 0, .int .i64 0, .int .i64 0, .int .i32 0, .int .i64 2, .int .i64 0, .int .i32 0, .int .i64 1, .int .i64 0, .int .i32 7, .int .i64 0, .int .i64 0, .int .i32 0] 61) ∧ w'.heap[m + 1]? = some (.cells #[.slice (some ⟨m, 0, none⟩) 2 2, .int .i64 5, .int .i64 0, .int .i64 0, .int .i64 0, .int .i32 0, .int .i64 0, .int .i64 0, .int .i32 0, .int .i64 0, .int .i64 0, .int .i32 0, .int .i64 0, .int .i64 0] 55) ∧ m + 2 ≤ w'.heap.size ∧ Below w.heap.size w w' := by
  have h0 : ExK w ((w.alloc (.cells #[.int .i64 0, .int .i64 0, .int .i64 0, .int .i64 0, .int .i64 0, .slice none 0 0, .slice none 0 0, .slice none 0 0] 36)).alloc (.cells #[.string ⟨#[97]⟩, .int .i64 1, .int .i64 1, .int .i64 8] 91)) := ⟨(Below.heap_alloc _ _ _ (by simp)).trans (heap_alloc_new w _), by
    have hk := heap_alloc_new (w.alloc (.cells #[.int .i64 0, .int .i64 0, .int .i64 0, .int .i64 0, .int .i64 0, .slice none 0 0, .slice none 0 0, .slice none 0 0] 36)) (.cells #[.string ⟨#[97]⟩, .int .i64 1, .int .i64 1, .int .i64 8] 91)
    rw [World.size_alloc] at hk
    exact hk, ((Below.refl _ _).alloc (Nat.le_refl _) _).alloc (by simp) _, by simp⟩
  have HR1 := Lib.hid ((Reg_any 0 ((w.alloc (.cells #[.int .i64 0, .int .i64 0, .int .i64 0, .int .i64 0, .int .i64 0, .slice none 0 0, .slice none 0 0, .slice none 0 0] 36)).alloc (.cells #[.string ⟨#[97]⟩, .int .i64 1, .int .i64 1, .int .i64 8] 91))).mono fun e w' hh => And.intro hh.1 (h0.on hh.2))
  have HR2 := Lib.hid (fun (W : World) (h : ExK w W) => (Reg_any 0 W).mono fun e w' hh => And.intro hh.1 (h.on hh.2))
  have HR3 := Lib.hid (fun (W : World) (h : ExK w W) => (Const_any 7 W).mono fun e w' hh => And.intro hh.1 (h.on hh.2))
  clear h0
  go_enter Tryz.func36, Tryz.ntmps36
  go_wp2_with (first
    | (go_at_call 40; (with_reducible refine HR1.out.mono ?_); rintro e w1 ⟨rfl, h1⟩; have H1 := Lib.hid h1; clear h1)
    | (go_at_call 40; (with_reducible refine (HR2.out _ H1.out).mono ?_); rintro e w2 ⟨rfl, h2⟩; have H2 := Lib.hid h2; clear h2)
    | (go_at_call 42; (with_reducible refine (HR3.out _ H2.out).mono ?_); rintro e w3 ⟨rfl, h3⟩; have q := (fun a b => ((h3.alloc a).alloc b).cells); have qf := (fun a b o => ((h3.alloc a).alloc b).free o); have q0 := (fun a b => (q a b).1); have q1 := (fun a b => (q a b).2.1); have q2 := (fun a b => (q a b).2.2.1); have q3 := (fun a b => (q a b).2.2.2.1); have q4 := (fun a b => (q a b).2.2.2.2.1); have q5 := (fun a b => (q a b).2.2.2.2.2.1); have q6 := (fun a b => (q a b).2.2.2.2.2.2.1); have q7 := (fun a b => (q a b).2.2.2.2.2.2.2); have H3 := Lib.hid h3; clear h3 q))
  refine bodyPost_ret (v := .agg #[.int .i64 4, .int .i64 2, .int .i64 2, .int .i64 0, .int .i64 0, .slice (some ⟨w.heap.size + 1, 0, none⟩) 1 1, .slice none 0 0, .slice (some ⟨w3.heap.size + 1, 0, none⟩) 1 1]) (by simp [results, Tryz.results36, go_sem, q0, q1, q2, q3, q4, q5, q6, q7]) rfl ?_
  have hsz := H3.out.size
  have hn1 : w.heap.size + 1 ≠ w.heap.size := by omega
  have hn2 : w3.heap.size ≠ w.heap.size := by omega
  have hn3 : w3.heap.size + 1 ≠ w.heap.size := by omega
  refine ⟨w3.heap.size, hsz, rfl, ?_, ?_, ?_, by simp [World.setCell], ?_⟩
  · repeat rw [Below.heap_setCell _ _ _ _ (by exact hn1)]
    exact ((H3.out.alloc _).alloc _).arr
  · repeat rw [Below.heap_setCell _ _ _ _ (by exact hn2)]
    exact (Below.heap_alloc _ _ _ (by simp)).trans (heap_alloc_new w3 _)
  · repeat rw [Below.heap_setCell _ _ _ _ (by exact hn3)]
    have hk := heap_alloc_new (w3.alloc (.cells #[.int .i64 5, .int .i64 1, .int .i64 0, .int .i64 2, .int .i64 0, .int .i32 0, .int .i64 0, .int .i64 0, .int .i32 0, .int .i64 0, .int .i64 0, .int .i32 0, .int .i64 0, .int .i64 0, .int .i32 0, .int .i64 8, .int .i64 0, .int .i64 0, .int .i64 0, .int .i64 0, .int .i32 0, .int .i64 2, .int .i64 0, .int .i32 0, .int .i64 1, .int .i64 0, .int .i32 7, .int .i64 0, .int .i64 0, .int .i32 0] 61)) (.cells #[.slice (some ⟨w3.heap.size, 0, none⟩) 2 2, .int .i64 5, .int .i64 0, .int .i64 0, .int .i64 0, .int .i32 0, .int .i64 0, .int .i64 0, .int .i32 0, .int .i64 0, .int .i64 0, .int .i32 0, .int .i64 0, .int .i64 0] 55)
    rw [World.size_alloc] at hk
    exact hk
  · exact (((((((((H3.out.alloc _).alloc _).below.setCell (by simp) _).setCell (by simp) _).setCell (by simp) _).setCell (by simp) _).setCell (by simp) _).setCell (by simp) _).setCell (by simp) _).setCell (by simp) _
end Go.Proofs.YtkncilgmlkeifaaGreatDoor
