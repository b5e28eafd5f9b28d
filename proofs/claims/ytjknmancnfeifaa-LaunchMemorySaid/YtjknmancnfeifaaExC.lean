/-
  The walk of examples: every fixed call answers as the document says.
-/
import Derived.Test.YtjknmancnfeifaaExB
import Derived.Outline
import Derived.Deep.DeepCutAuto
import Derived.Deep.CutRange
import Derived.Deep.RegionHeld3
import Derived.Deep.DrawnRows
set_option linter.unusedVariables false
set_option linter.unusedSimpArgs false
namespace Go.Proofs.Ytjknmancnfeifaa
open Go.ChangeShapes Go.WideShapes Go.ChangeAt Go.RowKit
attribute [local go_sem ↓] Go.wp_at_zero Go.wp_at_succ
theorem fld45_1 (a b : Value) (w : World) : (Instr.field 45 (.agg #[a, b]) 1).run Try.prog w = .ok b w := by kernel_rfl
theorem fld66_1 (a b : Value) (w : World) : (Instr.field 66 (.agg #[a, b]) 1).run Try.prog w = .ok b w := by kernel_rfl
theorem fld55_1 (a b : Value) (w : World) : (Instr.field 55 (.agg #[a, b]) 1).run Try.prog w = .ok b w := by kernel_rfl
theorem EX.of {w w1 : World} {gi g5 g6 B5 B6 : Nat} (h : w1.cell? ⟨B5, 0, none⟩ = some (.slice (some ⟨g5, 0, none⟩) 1 1) ∧ w1.cell? ⟨B5, 1, none⟩ = some (.int .i64 0) ∧ w1.cell? ⟨B6, 0, none⟩ = some (.slice (some ⟨g6, 0, none⟩) 3 3) ∧ w1.cell? ⟨B6, 1, none⟩ = some (.int .i64 0) ∧ EX w gi g5 g6 B5 B6 w1) : EX w gi g5 g6 B5 B6 w1 := h.2.2.2.2

theorem cell_push (V : World) (o : Obj) (a : Addr) (v : Value) (h : V.cell? a = some v) : (V.alloc o).cell? a = some v := (World.cell?_alloc_lt _ _ _ (World.block_lt_of_cell? _ _ h)).trans h
set_option maxRecDepth 100000 in
set_option maxHeartbeats 4000000 in
theorem examples_any (w : World) : Calls Try.prog 9 #[] w fun e w' => e = .returned (.bool true) ∧ Below w.heap.size w w' := by
  have f45 := fld45_1
  have f66 := fld66_1
  go_enter Try.func9, Try.ntmps9
  go_upto_region 11 with (first
    | (go_at_call 16; (with_reducible refine (Of_k (K0.start w)).mono ?_); rintro e w1 ⟨rfl, p1⟩; have k0 := p1.a0; have k1 := p1.a1; have k2 := p1.a2; have k3 := p1.a3; have k4 := p1.a4; have k5 := p1.a5; have k6 := p1.a6; have k7 := p1.a7; have l0 := p1.b0; have l1 := p1.b1; have Hp1 := Lib.hid p1; clear p1)
    | (go_at_call 12; (with_reducible refine (Check_k Hp1.out).mono ?_); rintro e w2 ⟨rfl, p2⟩; clear k0 k1 k2 k3 k4 k5 k6 k7 l0 l1; have k0 := p2.a0; have k1 := p2.a1; have k2 := p2.a2; have k3 := p2.a3; have k4 := p2.a4; have k5 := p2.a5; have k6 := p2.a6; have k7 := p2.a7; have l0 := p2.b0; have l1 := p2.b1; have Hp2 := Lib.hid p2; clear p2)
    | (go_at_call 14; (with_reducible refine (id_k6 Hp2.out).mono ?_); rintro e w3 ⟨rfl, p3⟩; clear k0 k1 k2 k3 k4 k5 k6 k7 l0 l1; have k0 := p3.a0; have k1 := p3.a1; have k2 := p3.a2; have k3 := p3.a3; have k4 := p3.a4; have k5 := p3.a5; have k6 := p3.a6; have k7 := p3.a7; have l0 := p3.b0; have l1 := p3.b1; have Hp3 := Lib.hid p3; clear p3)
    | (go_at_call 14; (with_reducible refine (id_k7 Hp3.out).mono ?_); rintro e w4 ⟨rfl, p4⟩; clear k0 k1 k2 k3 k4 k5 k6 k7 l0 l1; have k0 := p4.a0; have k1 := p4.a1; have k2 := p4.a2; have k3 := p4.a3; have k4 := p4.a4; have k5 := p4.a5; have k6 := p4.a6; have k7 := p4.a7; have l0 := p4.b0; have l1 := p4.b1; have Hp4 := Lib.hid p4; clear p4)
    | (go_at_call 14; (with_reducible refine (id_k12 Hp4.out).mono ?_); rintro e w5 ⟨rfl, p5⟩; clear k0 k1 k2 k3 k4 k5 k6 k7 l0 l1; have k0 := p5.a0; have k1 := p5.a1; have k2 := p5.a2; have k3 := p5.a3; have k4 := p5.a4; have k5 := p5.a5; have k6 := p5.a6; have k7 := p5.a7; have l0 := p5.b0; have l1 := p5.b1; have Hp5 := Lib.hid p5; clear p5)
    | (go_at_call 18; (with_reducible refine (col_e0 _).mono ?_); rintro e x0 ⟨g0, rfl, hR0, hb0⟩; have HR0 := Lib.hid hR0; have HB0 := Lib.hid hb0; clear hR0 hb0)
    | (go_at_call 30; (with_reducible refine (is_e0 _ HR0.out).mono ?_); rintro e y0 ⟨rfl, hc0⟩; have HC0 := Lib.hid hc0; clear hc0)
    | (go_at_call 18; (with_reducible refine (col_e1 _).mono ?_); rintro e x1 ⟨g1, rfl, hR1, hb1⟩; have HR1 := Lib.hid hR1; have HB1 := Lib.hid hb1; clear hR1 hb1)
    | (go_at_call 30; (with_reducible refine (is_e1 _ HR1.out).mono ?_); rintro e y1 ⟨rfl, hc1⟩; have HC1 := Lib.hid hc1; clear hc1)
    | (go_at_call 18; (with_reducible refine (col_e2 _).mono ?_); rintro e x2 ⟨g2, rfl, hR2, hb2⟩; have HR2 := Lib.hid hR2; have HB2 := Lib.hid hb2; clear hR2 hb2)
    | (go_at_call 30; (with_reducible refine (is_e2 _ HR2.out).mono ?_); rintro e y2 ⟨rfl, hc2⟩; have HC2 := Lib.hid hc2; clear hc2))
  have hbel : Below w.heap.size w y2 := by
    have h5 := Hp5.out.bel
    have s0 := h5.size
    have s1 := HB0.out.size
    have s2 := HC0.out.size
    have s3 := HB1.out.size
    have s4 := HC1.out.size
    have s5 := HB2.out.size
    exact (((((h5.trans (HB0.out.mono (by omega))).trans (HC0.out.mono (by omega))).trans (HB1.out.mono (by omega))).trans (HC1.out.mono (by omega))).trans (HB2.out.mono (by omega))).trans (HC2.out.mono (by omega))
  have hX := EX.start hbel
  clear Hp1 Hp2 Hp3 Hp4 Hp5 HB0 HC0 HB1 HC1 HB2 HC2 HR0 HR1 HR2
  clear hbel
  revert hX
  generalize ((((((((y2.alloc _).alloc _).alloc _).alloc _).alloc _).alloc _).alloc _).alloc _).alloc _ = V
  generalize y2.heap.size + 1 + 1 + 1 + 1 + 1 + 1 + 1 + 1 = gi
  generalize y2.heap.size + 1 + 1 + 1 + 1 + 1 + 1 + 1 = B6
  generalize y2.heap.size + 1 + 1 + 1 + 1 + 1 + 1 = g6
  generalize y2.heap.size + 1 + 1 = B5
  generalize y2.heap.size + 1 = g5
  intro hX
  clear k0 k1 k2 k3 k4 k5 k6 k7 l0 l1
  go_region_held3 (fun w' => w'.cell? ⟨B5, 0, none⟩ = some (.slice (some ⟨g5, 0, none⟩) 1 1) ∧ w'.cell? ⟨B5, 1, none⟩ = some (.int .i64 0) ∧ w'.cell? ⟨B6, 0, none⟩ = some (.slice (some ⟨g6, 0, none⟩) 3 3) ∧ w'.cell? ⟨B6, 1, none⟩ = some (.int .i64 0) ∧ EX w gi g5 g6 B5 B6 w') ((refine EX.all ?_; repeat' (first | assumption | exact EX.of (by assumption) | with_reducible apply EX.drew | with_reducible apply EX.alloc))) (first
    | (go_at_call 22; (with_reducible refine (pack_e1 (w := w) (gi := gi) (g5 := g5) (g6 := g6) (B5 := B5) (B6 := B6) (by first | assumption | exact EX.of (by assumption))).mono ?_); rintro e z1 ⟨A1, c1, rfl, hR1, hx1⟩)
    | (go_at_call 21; (with_reducible refine (same_e1 (w := w) (gi := gi) (g5 := g5) (g6 := g6) (B5 := B5) (B6 := B6) (by first | assumption | exact EX.of (by assumption)) (by assumption)).mono ?_); rintro e z2 ⟨rfl, hx2⟩)
    | (go_at_call 22; (with_reducible refine (pack_e2 (w := w) (gi := gi) (g5 := g5) (g6 := g6) (B5 := B5) (B6 := B6) (by first | assumption | exact EX.of (by assumption))).mono ?_); rintro e z3 ⟨A2, c2, rfl, hR2, hx3⟩)
    | (go_at_call 21; (with_reducible refine (same_e2 (w := w) (gi := gi) (g5 := g5) (g6 := g6) (B5 := B5) (B6 := B6) (by first | assumption | exact EX.of (by assumption)) (by assumption)).mono ?_); rintro e z4 ⟨rfl, hx4⟩)
    | (go_at_call 22; (with_reducible refine (pack_e3 (w := w) (gi := gi) (g5 := g5) (g6 := g6) (B5 := B5) (B6 := B6) (by first | assumption | exact EX.of (by assumption))).mono ?_); rintro e z5 ⟨rfl, hx5⟩)
    | (go_at_call 27; go_loud ((with_reducible refine (fits_e (w := w) (gi := gi) (g5 := g5) (g6 := g6) (B5 := B5) (B6 := B6) ?_ ?_ ?_ ?_ ?_ ?_ ?_ ?_).mono ?_); (focus (repeat' (first | assumption | exact EX.of (by assumption) | with_reducible apply EX.drew | with_reducible apply EX.alloc))); (focus (simp; try omega)); (focus (simp; try omega)); (focus (repeat' (first | (refine (World.cell?_alloc_at _ _ _ _ ?_).trans ?_; (focus (simp; done)); rfl) | refine cell_push _ _ _ _ ?_))); (focus (repeat' (first | (refine (World.cell?_alloc_at _ _ _ _ ?_).trans ?_; (focus (simp; done)); rfl) | refine cell_push _ _ _ _ ?_))); (focus (repeat' (first | (refine (World.cell?_alloc_at _ _ _ _ ?_).trans ?_; (focus (simp; done)); rfl) | refine cell_push _ _ _ _ ?_))); (focus (repeat' (first | (refine (World.cell?_alloc_at _ _ _ _ ?_).trans ?_; (focus (simp; done)); rfl) | refine cell_push _ _ _ _ ?_))); (focus (apply Exists.intro; apply Exists.intro; (repeat' (first | (refine (World.cell?_alloc_at _ _ _ _ ?_).trans ?_; (focus (simp; done)); rfl) | refine cell_push _ _ _ _ ?_)))); rintro e z6 ⟨rfl, hx6⟩)))
  all_goals
    go_wp2
    go_ret
    exact ⟨rfl, hx6.bel⟩
end Go.Proofs.Ytjknmancnfeifaa
