/-
  The fixed calls of the laws of layer 4, one contract each.
-/
import Derived.Test.YtjknmancnfeifaaColD
import Derived.Test.YtjknmancnfeifaaSame
import Derived.Test.YtjknmancnfeifaaNumB
import Derived.Test.YtjknmancnfeifaaFit
set_option linter.unusedVariables false
set_option linter.unusedSimpArgs false
namespace Go.Proofs.Ytjknmancnfeifaa
open Go.ChangeShapes Go.WideShapes Go.ChangeAt Go.RowKit

/-- A new block of numbers reads as its list. -/
theorem RF.new (w : World) (k : IntKind) (t : TypeId) (l : List Int) : RF (w.alloc (.cells (l.map (Value.int k)).toArray t)) (w.heap.size + 1) k (some ⟨w.heap.size, 0, none⟩) l.length (fun j => l.getD j 0) := fun _ =>
  ⟨w.heap.size, 0, rfl, by omega, fun j hj => by
    rw [World.cell?_alloc_at _ _ _ _ rfl]
    simp [List.getElem?_eq_getElem hj]⟩
theorem below_alloc (w : World) (o : Obj) : Below w.heap.size w (w.alloc o) := (Below.refl _ _).alloc (Nat.le_refl _) o
theorem below_alloc2 (w : World) (o o' : Obj) : Below w.heap.size w ((w.alloc o).alloc o') := (below_alloc w o).alloc (by simp) o'

theorem col_e0 (w : World) :
    Calls Try.prog 18 #[.int .i64 5, .slice (some ⟨w.heap.size, 0, none⟩) 3 3, .slice (some ⟨w.heap.size + 1, 0, none⟩) 3 3] ((w.alloc (.cells #[.int .i32 1, .int .i32 2, .int .i32 3] 21)).alloc (.cells #[.int .i32 0, .int .i32 0, .int .i32 0] 21)) fun e w' =>
      ∃ g, e = .returned (.agg #[.slice (some ⟨g, 0, none⟩) 3 3, .int .i64 0]) ∧ RF w' w'.heap.size .i32 (some ⟨g, 0, none⟩) 3 (fun j => [1, 3, 6].getD j 0) ∧ Below w.heap.size w w' := by
  have h1 : RF (w.alloc (.cells #[.int .i32 1, .int .i32 2, .int .i32 3] 21)) (w.heap.size + 1) .i32 (some ⟨w.heap.size, 0, none⟩) 3 (fun j => [1, 2, 3].getD j 0) := RF.new w .i32 21 [1, 2, 3]
  have h2 : RF ((w.alloc (.cells #[.int .i32 1, .int .i32 2, .int .i32 3] 21)).alloc (.cells #[.int .i32 0, .int .i32 0, .int .i32 0] 21)) (w.heap.size + 1 + 1) .i32 (some ⟨w.heap.size + 1, 0, none⟩) 3 (fun j => [0, 0, 0].getD j 0) := by
    have := RF.new (w.alloc (.cells #[.int .i32 1, .int .i32 2, .int .i32 3] 21)) .i32 21 [0, 0, 0]
    rw [World.size_alloc] at this; exact this
  refine (collect_yes 5 3 3 3 _ _ (fun j => [1, 2, 3].getD j 0) (fun j => [0, 0, 0].getD j 0) _ (by omega) (by omega) (by omega) (by omega) ((h1.below ((Below.refl _ _).alloc (by simp) _)).more (by simp)) (h2.more (by simp))).mono fun e w' ⟨g, he, hR, _, hb⟩ => ⟨g, he, hR.congr fun j hj => ?_, (below_alloc2 _ _ _).trans (hb.mono (by simp; omega))⟩
  have : j = 0 ∨ j = 1 ∨ j = 2 := by omega
  rcases this with rfl | rfl | rfl <;> decide +kernel
theorem is_e0 {A : Option Addr} (w : World) (hR : RF w w.heap.size .i32 A 3 (fun j => [1, 3, 6].getD j 0)) :
    Calls Try.prog 30 #[.agg #[.slice A 3 3, .int .i64 0], .slice (some ⟨w.heap.size, 0, none⟩) 3 3] (w.alloc (.cells #[.int .i32 1, .int .i32 3, .int .i32 6] 21)) fun e w' => e = .returned (.bool true) ∧ Below w.heap.size w w' := by
  have h1 : RF (w.alloc (.cells #[.int .i32 1, .int .i32 3, .int .i32 6] 21)) (w.heap.size + 1) .i32 (some ⟨w.heap.size, 0, none⟩) 3 (fun j => [1, 3, 6].getD j 0) := RF.new w .i32 21 [1, 3, 6]
  exact (is_true 3 3 3 _ _ _ _ _ (by omega) (hR.on (below_alloc _ _)) (h1.more (by simp)) (fun j _ => rfl)).mono fun e w' ⟨he, hb⟩ => ⟨he, (below_alloc _ _).trans (hb.mono (by simp))⟩

theorem col_e1 (w : World) :
    Calls Try.prog 18 #[.int .i64 4, .slice (some ⟨w.heap.size, 0, none⟩) 3 3, .slice (some ⟨w.heap.size + 1, 0, none⟩) 3 3] ((w.alloc (.cells #[.int .i32 5, .int .i32 6, .int .i32 7] 21)).alloc (.cells #[.int .i32 2, .int .i32 (-1), .int .i32 3] 21)) fun e w' =>
      ∃ g, e = .returned (.agg #[.slice (some ⟨g, 0, none⟩) 3 3, .int .i64 0]) ∧ RF w' w'.heap.size .i32 (some ⟨g, 0, none⟩) 3 (fun j => [7, 7, 5].getD j 0) ∧ Below w.heap.size w w' := by
  have h1 : RF (w.alloc (.cells #[.int .i32 5, .int .i32 6, .int .i32 7] 21)) (w.heap.size + 1) .i32 (some ⟨w.heap.size, 0, none⟩) 3 (fun j => [5, 6, 7].getD j 0) := RF.new w .i32 21 [5, 6, 7]
  have h2 : RF ((w.alloc (.cells #[.int .i32 5, .int .i32 6, .int .i32 7] 21)).alloc (.cells #[.int .i32 2, .int .i32 (-1), .int .i32 3] 21)) (w.heap.size + 1 + 1) .i32 (some ⟨w.heap.size + 1, 0, none⟩) 3 (fun j => [2, (-1), 3].getD j 0) := by
    have := RF.new (w.alloc (.cells #[.int .i32 5, .int .i32 6, .int .i32 7] 21)) .i32 21 [2, (-1), 3]
    rw [World.size_alloc] at this; exact this
  refine (collect_yes 4 3 3 3 _ _ (fun j => [5, 6, 7].getD j 0) (fun j => [2, (-1), 3].getD j 0) _ (by omega) (by omega) (by omega) (by omega) ((h1.below ((Below.refl _ _).alloc (by simp) _)).more (by simp)) (h2.more (by simp))).mono fun e w' ⟨g, he, hR, _, hb⟩ => ⟨g, he, hR.congr fun j hj => ?_, (below_alloc2 _ _ _).trans (hb.mono (by simp; omega))⟩
  have : j = 0 ∨ j = 1 ∨ j = 2 := by omega
  rcases this with rfl | rfl | rfl <;> decide +kernel
theorem is_e1 {A : Option Addr} (w : World) (hR : RF w w.heap.size .i32 A 3 (fun j => [7, 7, 5].getD j 0)) :
    Calls Try.prog 30 #[.agg #[.slice A 3 3, .int .i64 0], .slice (some ⟨w.heap.size, 0, none⟩) 3 3] (w.alloc (.cells #[.int .i32 7, .int .i32 7, .int .i32 5] 21)) fun e w' => e = .returned (.bool true) ∧ Below w.heap.size w w' := by
  have h1 : RF (w.alloc (.cells #[.int .i32 7, .int .i32 7, .int .i32 5] 21)) (w.heap.size + 1) .i32 (some ⟨w.heap.size, 0, none⟩) 3 (fun j => [7, 7, 5].getD j 0) := RF.new w .i32 21 [7, 7, 5]
  exact (is_true 3 3 3 _ _ _ _ _ (by omega) (hR.on (below_alloc _ _)) (h1.more (by simp)) (fun j _ => rfl)).mono fun e w' ⟨he, hb⟩ => ⟨he, (below_alloc _ _).trans (hb.mono (by simp))⟩

theorem col_e2 (w : World) :
    Calls Try.prog 18 #[.int .i64 1, .slice (some ⟨w.heap.size, 0, none⟩) 3 3, .slice (some ⟨w.heap.size + 1, 0, none⟩) 3 3] ((w.alloc (.cells #[.int .i32 0, .int .i32 4, .int .i32 1] 21)).alloc (.cells #[.int .i32 0, .int .i32 0, .int .i32 0] 21)) fun e w' =>
      ∃ g, e = .returned (.agg #[.slice (some ⟨g, 0, none⟩) 3 3, .int .i64 0]) ∧ RF w' w'.heap.size .i32 (some ⟨g, 0, none⟩) 3 (fun j => [6, 6, 6].getD j 0) ∧ Below w.heap.size w w' := by
  have h1 : RF (w.alloc (.cells #[.int .i32 0, .int .i32 4, .int .i32 1] 21)) (w.heap.size + 1) .i32 (some ⟨w.heap.size, 0, none⟩) 3 (fun j => [0, 4, 1].getD j 0) := RF.new w .i32 21 [0, 4, 1]
  have h2 : RF ((w.alloc (.cells #[.int .i32 0, .int .i32 4, .int .i32 1] 21)).alloc (.cells #[.int .i32 0, .int .i32 0, .int .i32 0] 21)) (w.heap.size + 1 + 1) .i32 (some ⟨w.heap.size + 1, 0, none⟩) 3 (fun j => [0, 0, 0].getD j 0) := by
    have := RF.new (w.alloc (.cells #[.int .i32 0, .int .i32 4, .int .i32 1] 21)) .i32 21 [0, 0, 0]
    rw [World.size_alloc] at this; exact this
  refine (collect_yes 1 3 3 3 _ _ (fun j => [0, 4, 1].getD j 0) (fun j => [0, 0, 0].getD j 0) _ (by omega) (by omega) (by omega) (by omega) ((h1.below ((Below.refl _ _).alloc (by simp) _)).more (by simp)) (h2.more (by simp))).mono fun e w' ⟨g, he, hR, _, hb⟩ => ⟨g, he, hR.congr fun j hj => ?_, (below_alloc2 _ _ _).trans (hb.mono (by simp; omega))⟩
  have : j = 0 ∨ j = 1 ∨ j = 2 := by omega
  rcases this with rfl | rfl | rfl <;> decide +kernel
theorem is_e2 {A : Option Addr} (w : World) (hR : RF w w.heap.size .i32 A 3 (fun j => [6, 6, 6].getD j 0)) :
    Calls Try.prog 30 #[.agg #[.slice A 3 3, .int .i64 0], .slice (some ⟨w.heap.size, 0, none⟩) 3 3] (w.alloc (.cells #[.int .i32 6, .int .i32 6, .int .i32 6] 21)) fun e w' => e = .returned (.bool true) ∧ Below w.heap.size w w' := by
  have h1 : RF (w.alloc (.cells #[.int .i32 6, .int .i32 6, .int .i32 6] 21)) (w.heap.size + 1) .i32 (some ⟨w.heap.size, 0, none⟩) 3 (fun j => [6, 6, 6].getD j 0) := RF.new w .i32 21 [6, 6, 6]
  exact (is_true 3 3 3 _ _ _ _ _ (by omega) (hR.on (below_alloc _ _)) (h1.more (by simp)) (fun j _ => rfl)).mono fun e w' ⟨he, hb⟩ => ⟨he, (below_alloc _ _).trans (hb.mono (by simp))⟩

/-- What the first part keeps: the code and the launch of the examples, boxed. -/
structure K0 (w w' : World) : Prop where
  bel : Below w.heap.size w w'
  lt : w.heap.size + 1 < w'.heap.size
  a0 : w'.cell? ⟨w.heap.size, 0, none⟩ = some (.int .i64 6)
  a1 : w'.cell? ⟨w.heap.size, 1, none⟩ = some (.int .i64 2)
  a2 : w'.cell? ⟨w.heap.size, 2, none⟩ = some (.int .i64 0)
  a3 : w'.cell? ⟨w.heap.size, 3, none⟩ = some (.int .i64 0)
  a4 : w'.cell? ⟨w.heap.size, 4, none⟩ = some (.int .i64 0)
  a5 : w'.cell? ⟨w.heap.size, 5, none⟩ = some (.slice none 0 0)
  a6 : w'.cell? ⟨w.heap.size, 6, none⟩ = some (.slice none 0 0)
  a7 : w'.cell? ⟨w.heap.size, 7, none⟩ = some (.slice none 0 0)
  b0 : w'.cell? ⟨w.heap.size + 1, 0, none⟩ = some (.int .i64 2)
  b1 : w'.cell? ⟨w.heap.size + 1, 1, none⟩ = some (.slice none 0 0)
theorem K0.on {w w1 w2 : World} (h : K0 w w1) (hb : Below w1.heap.size w1 w2) : K0 w w2 where
  bel := h.bel.trans (hb.mono h.bel.size)
  lt := by have := h.lt; have := hb.size; omega
  a0 := (hb.cell (p := ⟨w.heap.size, 0, none⟩) (by have := h.lt; simp; omega)).trans h.a0
  a1 := (hb.cell (p := ⟨w.heap.size, 1, none⟩) (by have := h.lt; simp; omega)).trans h.a1
  a2 := (hb.cell (p := ⟨w.heap.size, 2, none⟩) (by have := h.lt; simp; omega)).trans h.a2
  a3 := (hb.cell (p := ⟨w.heap.size, 3, none⟩) (by have := h.lt; simp; omega)).trans h.a3
  a4 := (hb.cell (p := ⟨w.heap.size, 4, none⟩) (by have := h.lt; simp; omega)).trans h.a4
  a5 := (hb.cell (p := ⟨w.heap.size, 5, none⟩) (by have := h.lt; simp; omega)).trans h.a5
  a6 := (hb.cell (p := ⟨w.heap.size, 6, none⟩) (by have := h.lt; simp; omega)).trans h.a6
  a7 := (hb.cell (p := ⟨w.heap.size, 7, none⟩) (by have := h.lt; simp; omega)).trans h.a7
  b0 := (hb.cell (p := ⟨w.heap.size + 1, 0, none⟩) (by have := h.lt; simp; omega)).trans h.b0
  b1 := (hb.cell (p := ⟨w.heap.size + 1, 1, none⟩) (by have := h.lt; simp; omega)).trans h.b1
theorem K0.start (w : World) : K0 w ((w.alloc (.cells #[.int .i64 6, .int .i64 2, .int .i64 0, .int .i64 0, .int .i64 0, .slice none 0 0, .slice none 0 0, .slice none 0 0] 34)).alloc (.cells #[.int .i64 2, .slice none 0 0] 27)) where
  bel := below_alloc2 _ _ _
  lt := by simp
  a0 := (World.cell?_alloc_lt _ _ _ (by simp)).trans (by rw [World.cell?_alloc_at _ _ _ _ rfl]; rfl)
  a1 := (World.cell?_alloc_lt _ _ _ (by simp)).trans (by rw [World.cell?_alloc_at _ _ _ _ rfl]; rfl)
  a2 := (World.cell?_alloc_lt _ _ _ (by simp)).trans (by rw [World.cell?_alloc_at _ _ _ _ rfl]; rfl)
  a3 := (World.cell?_alloc_lt _ _ _ (by simp)).trans (by rw [World.cell?_alloc_at _ _ _ _ rfl]; rfl)
  a4 := (World.cell?_alloc_lt _ _ _ (by simp)).trans (by rw [World.cell?_alloc_at _ _ _ _ rfl]; rfl)
  a5 := (World.cell?_alloc_lt _ _ _ (by simp)).trans (by rw [World.cell?_alloc_at _ _ _ _ rfl]; rfl)
  a6 := (World.cell?_alloc_lt _ _ _ (by simp)).trans (by rw [World.cell?_alloc_at _ _ _ _ rfl]; rfl)
  a7 := (World.cell?_alloc_lt _ _ _ (by simp)).trans (by rw [World.cell?_alloc_at _ _ _ _ rfl]; rfl)
  b0 := by rw [World.cell?_alloc_at _ _ _ _ (by simp)]; rfl
  b1 := by rw [World.cell?_alloc_at _ _ _ _ (by simp)]; rfl
theorem Of_k {w w1 : World} (h : K0 w w1) : Calls Try.prog 16 #[.agg #[.int .i64 6, .int .i64 2, .int .i64 0, .int .i64 0, .int .i64 0, .slice none 0 0, .slice none 0 0, .slice none 0 0], .int .i64 9] w1 fun e w' => e = .returned (.tuple #[.int .i64 1, .int .i64 3]) ∧ K0 w w' :=
  (Of_any 6 2 0 0 0 0 0 0 0 0 0 none none none 9 w1 (by omega) (by omega) (by omega)).mono fun e w' ⟨he, hb⟩ => ⟨he, h.on hb⟩
theorem Check_k {w w1 : World} (h : K0 w w1) : Calls Try.prog 12 #[.agg #[.int .i64 6, .int .i64 2, .int .i64 0, .int .i64 0, .int .i64 0, .slice none 0 0, .slice none 0 0, .slice none 0 0], .agg #[.int .i64 2, .slice none 0 0]] w1 fun e w' => e = .returned (.int .i64 0) ∧ K0 w w' :=
  (Check_any 6 2 0 0 0 2 0 0 0 0 0 0 0 0 none none none none w1).mono fun e w' ⟨he, hb⟩ => ⟨by rw [he]; have : chkV 6 2 0 2 0 = 0 := by decide +kernel
                                                                                               rw [this], h.on hb⟩
theorem chk_e : chkB 6 2 0 2 0 = true := by decide +kernel
theorem id_k6 {w w1 : World} (h : K0 w w1) : Calls Try.prog 14 #[.agg #[.int .i64 6, .int .i64 2, .int .i64 0, .int .i64 0, .int .i64 0, .slice none 0 0, .slice none 0 0, .slice none 0 0], .agg #[.int .i64 2, .slice none 0 0], .agg #[.int .i64 9, .int .i64 6]] w1 fun e w' => e = .returned (.agg #[.int .i32 1, .int .i64 0]) ∧ K0 w w' :=
  (id_yes 6 2 0 0 0 2 0 0 0 0 0 0 0 0 none none none none 9 6 w1 chk_e (by omega) (by omega) (by omega) (by omega)).mono fun e w' ⟨he, hb⟩ => ⟨he, h.on hb⟩
theorem id_k7 {w w1 : World} (h : K0 w w1) : Calls Try.prog 14 #[.agg #[.int .i64 6, .int .i64 2, .int .i64 0, .int .i64 0, .int .i64 0, .slice none 0 0, .slice none 0 0, .slice none 0 0], .agg #[.int .i64 2, .slice none 0 0], .agg #[.int .i64 9, .int .i64 7]] w1 fun e w' => e = .returned (.agg #[.int .i32 1, .int .i64 0]) ∧ K0 w w' :=
  (id_yes 6 2 0 0 0 2 0 0 0 0 0 0 0 0 none none none none 9 7 w1 chk_e (by omega) (by omega) (by omega) (by omega)).mono fun e w' ⟨he, hb⟩ => ⟨he, h.on hb⟩
theorem id_k12 {w w1 : World} (h : K0 w w1) : Calls Try.prog 14 #[.agg #[.int .i64 6, .int .i64 2, .int .i64 0, .int .i64 0, .int .i64 0, .slice none 0 0, .slice none 0 0, .slice none 0 0], .agg #[.int .i64 2, .slice none 0 0], .agg #[.int .i64 12, .int .i64 7]] w1 fun e w' => e = .returned (.agg #[.int .i32 0, .int .i64 1]) ∧ K0 w w' :=
  (id_no 6 2 0 0 0 2 0 0 0 0 0 0 0 0 none none none none 12 7 w1 chk_e (by omega)).mono fun e w' ⟨he, hb⟩ => ⟨he, h.on hb⟩
end Go.Proofs.Ytjknmancnfeifaa
