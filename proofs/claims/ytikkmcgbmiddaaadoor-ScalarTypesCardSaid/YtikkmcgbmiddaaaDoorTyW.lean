/-
  The walk of ScalarTypes.
-/
import Derived.Test.YtikkmcgbmiddaaaDoorExam
import Derived.Test.YtikkmcgbmiddaaaDoorRefTy
import Derived.Test.YtikkmcgbmiddaaaDoorTyL
import Derived.Deep.RegionHeld3
import Derived.Deep.DeepCutAuto
import Derived.Deep.CutRange
import Derived.Deep.QuietTactic
import Derived.BigQuiet
namespace Go.Proofs.YtikkmcgbmiddaaaDoor
open Go.ChangeShapes Go.WideShapes Go.ChangeAt Go.RowKit
set_option linter.unusedVariables false

/-- The law's two arrays lie boxed in the first two new blocks, and nothing else has turned. -/
structure Box (w : World) (t0 t1 v0 v1 : Int) (w' : World) : Prop where
  env : Env w
  run : Run w w'
  size : w.heap.size + 1 < w'.heap.size
  c0 : w'.cell? ⟨w.heap.size, 0, none⟩ = some (.int .i64 t0)
  c1 : w'.cell? ⟨w.heap.size, 1, none⟩ = some (.int .i64 t1)
  d0 : w'.cell? ⟨w.heap.size + 1, 0, none⟩ = some (.int .i32 v0)
  d1 : w'.cell? ⟨w.heap.size + 1, 1, none⟩ = some (.int .i32 v1)
theorem Box.on {w : World} {t0 t1 v0 v1 : Int} {w1 w2 : World} (h : Box w t0 t1 v0 v1 w1) (hb : Below w1.heap.size w1 w2) : Box w t0 t1 v0 v1 w2 where
  env := h.env
  run := h.run.on hb
  size := by have := h.size; have := hb.size; omega
  c0 := (hb.cell (p := ⟨w.heap.size, 0, none⟩) (by have := h.size; simp; omega)).trans h.c0
  c1 := (hb.cell (p := ⟨w.heap.size, 1, none⟩) (by have := h.size; simp; omega)).trans h.c1
  d0 := (hb.cell (p := ⟨w.heap.size + 1, 0, none⟩) (by have := h.size; simp; omega)).trans h.d0
  d1 := (hb.cell (p := ⟨w.heap.size + 1, 1, none⟩) (by have := h.size; simp; omega)).trans h.d1
theorem Box.start {w : World} (t0 t1 v0 v1 : Int) (he : Env w) : Box w t0 t1 v0 v1 ((w.alloc (.cells #[.int .i64 t0, .int .i64 t1] 41)).alloc (.cells #[.int .i32 v0, .int .i32 v1] 42)) where
  env := he
  run := (Run.start he).on (((Below.refl _ _).alloc (Nat.le_refl _) _).alloc (by simp) _)
  size := by simp
  c0 := by go_simp
  c1 := by go_simp
  d0 := by go_simp
  d1 := by go_simp
theorem Box.drew {w : World} {t0 t1 v0 v1 : Int} {w1 : World} (h : Box w t0 t1 v0 v1 w1) : Box w t0 t1 v0 v1 w1.drew := h.on ((Below.refl _ _).drew)

theorem Box.sd {w : World} {t0 t1 v0 v1 : Int} {w1 : World} (h : Box w t0 t1 v0 v1 w1) : w1.cell? ⟨w.heap.size + 1, 0, none⟩ = some (.int .i32 v0) ∧ Box w t0 t1 v0 v1 w1 := ⟨h.d0, h⟩
theorem Box.alloc {w : World} {t0 t1 v0 v1 : Int} {w1 : World} (h : Box w t0 t1 v0 v1 w1) (o : Obj) : Box w t0 t1 v0 v1 (w1.alloc o) := h.on ((Below.refl _ _).alloc (Nat.le_refl _) _)
theorem Box.setCell {w : World} {t0 t1 v0 v1 : Int} {w1 : World} (h : Box w t0 t1 v0 v1 w1) {a : Addr} (u : Value) (ha : w.heap.size + 1 < a.block) : Box w t0 t1 v0 v1 (w1.setCell a u) where
  env := h.env
  run := ⟨h.run.1.setCell (by omega) _, h.env.on (h.run.1.setCell (by omega) _)⟩
  size := by have := h.size; simpa [World.setCell] using this
  c0 := by rw [World.cell?_setCell_far _ _ _ _ (by simp; omega)]; exact h.c0
  c1 := by rw [World.cell?_setCell_far _ _ _ _ (by simp; omega)]; exact h.c1
  d0 := by rw [World.cell?_setCell_far _ _ _ _ (by simp; omega)]; exact h.d0
  d1 := by rw [World.cell?_setCell_far _ _ _ _ (by simp; omega)]; exact h.d1
/-- Box, and two boxed structs whose cells are known. -/
structure YZ (w : World) (t0 t1 v0 v1 : Int) (Y Z : Nat) (p q r s : Value) (w' : World) : Prop where
  box : Box w t0 t1 v0 v1 w'
  hY : Y < w'.heap.size
  hZ : Z < w'.heap.size
  y0 : w'.cell? ⟨Y, 0, none⟩ = some p
  y1 : w'.cell? ⟨Y, 1, none⟩ = some q
  z0 : w'.cell? ⟨Z, 0, none⟩ = some r
  z1 : w'.cell? ⟨Z, 1, none⟩ = some s
theorem YZ.on {w : World} {t0 t1 v0 v1 : Int} {Y Z : Nat} {p q r s : Value} {w1 w2 : World} (h : YZ w t0 t1 v0 v1 Y Z p q r s w1) (hb : Below w1.heap.size w1 w2) : YZ w t0 t1 v0 v1 Y Z p q r s w2 where
  box := h.box.on hb
  hY := by have := h.hY; have := hb.size; omega
  hZ := by have := h.hZ; have := hb.size; omega
  y0 := (hb.cell (p := ⟨Y, 0, none⟩) h.hY).trans h.y0
  y1 := (hb.cell (p := ⟨Y, 1, none⟩) h.hY).trans h.y1
  z0 := (hb.cell (p := ⟨Z, 0, none⟩) h.hZ).trans h.z0
  z1 := (hb.cell (p := ⟨Z, 1, none⟩) h.hZ).trans h.z1
theorem YZ.drew {w : World} {t0 t1 v0 v1 : Int} {Y Z : Nat} {p q r s : Value} {w1 : World} (h : YZ w t0 t1 v0 v1 Y Z p q r s w1) : YZ w t0 t1 v0 v1 Y Z p q r s w1.drew := h.on ((Below.refl _ _).drew)
theorem YZ.sx {w : World} {t0 t1 v0 v1 : Int} {Y Z : Nat} {p q r s : Value} {w1 : World} (h : YZ w t0 t1 v0 v1 Y Z p q r s w1) : w1.cell? ⟨Y, 0, none⟩ = some p ∧ w1.cell? ⟨Y, 1, none⟩ = some q ∧ YZ w t0 t1 v0 v1 Y Z p q r s w1 := ⟨h.y0, h.y1, h⟩
theorem YZ.sy {w : World} {t0 t1 v0 v1 : Int} {Y Z : Nat} {p q r s : Value} {w1 : World} (h : YZ w t0 t1 v0 v1 Y Z p q r s w1) : w1.cell? ⟨Y, 0, none⟩ = some p ∧ w1.cell? ⟨Y, 1, none⟩ = some q ∧ w1.cell? ⟨Z, 0, none⟩ = some r ∧ w1.cell? ⟨Z, 1, none⟩ = some s ∧ YZ w t0 t1 v0 v1 Y Z p q r s w1 := ⟨h.y0, h.y1, h.z0, h.z1, h⟩
theorem UnTypeIn_y {w w1 : World} {t0 t1 v0 v1 : Int} {Y Z : Nat} {p q r s : Value} (op t : Int) (h : YZ w t0 t1 v0 v1 Y Z p q r s w1) :
    Calls Tryd.prog 22 #[.int .i64 op, .int .i64 t] w1 fun e w' => e = .returned (.agg #[.int .i64 (unTV op t), .int .i64 (unTE op t)]) ∧ YZ w t0 t1 v0 v1 Y Z p q r s w' :=
  (UnTypeIn_c op t (Run.start h.box.run.2)).mono fun _ _ ⟨he, hr⟩ => ⟨he, h.on hr.1⟩
theorem BinTypeIn_y {w w1 : World} {t0 t1 v0 v1 : Int} {Y Z : Nat} {p q r s : Value} (op t u : Int) (h : YZ w t0 t1 v0 v1 Y Z p q r s w1) :
    Calls Tryd.prog 24 #[.int .i64 op, .int .i64 t, .int .i64 u] w1 fun e w' => e = .returned (.agg #[.int .i64 (binTV op t u), .int .i64 (binTE op t u)]) ∧ YZ w t0 t1 v0 v1 Y Z p q r s w' :=
  (BinTypeIn_c op t u (Run.start h.box.run.2)).mono fun _ _ ⟨he, hr⟩ => ⟨he, h.on hr.1⟩
theorem un_y {w w1 : World} {t0 t1 v0 v1 : Int} {Y Z : Nat} {p q r s : Value} (op a : Int) (h : YZ w t0 t1 v0 v1 Y Z p q r s w1) (ha : I32 a) :
    Calls Tryd.prog 12 #[.int .i64 op, .int .i32 a] w1 fun e w' => e = .returned (.agg #[.int .i32 (unV op a), .int .i64 (unE op)]) ∧ YZ w t0 t1 v0 v1 Y Z p q r s w' :=
  (un_c op a (Run.start h.box.run.2) ha).mono fun _ _ ⟨he, hr⟩ => ⟨he, h.on hr.1⟩
theorem unType_b {w w1 : World} {t0 t1 v0 v1 : Int} (op t : Int) (h : Box w t0 t1 v0 v1 w1) :
    Calls Tryd.prog 21 #[.int .i64 op, .int .i64 t] w1 fun e w' => e = .returned (.agg #[.int .i64 (unTV op t), .int .i64 (unTE op t)]) ∧ Box w t0 t1 v0 v1 w' :=
  (unType_c op t (Run.start h.run.2)).mono fun _ _ ⟨he, hr⟩ => ⟨he, h.on hr.1⟩
theorem unType_bb {w w1 : World} {t0 t1 v0 v1 : Int} (op t : Int) (h : Box w t0 t1 v0 v1 w1) :
    Calls Tryd.prog 21 #[.int .i64 op, .int .i64 t] w1 fun e w' => e = .returned (.agg #[.int .i64 (unTV op t), .int .i64 (unTE op t)]) ∧ Box w t0 t1 v0 v1 w' ∧ Below w1.heap.size w1 w' :=
  (unType_c op t (Run.start h.run.2)).mono fun _ _ ⟨he, hr⟩ => ⟨he, h.on hr.1, hr.1⟩
theorem UnTypeIn_b {w w1 : World} {t0 t1 v0 v1 : Int} (op t : Int) (h : Box w t0 t1 v0 v1 w1) :
    Calls Tryd.prog 22 #[.int .i64 op, .int .i64 t] w1 fun e w' => e = .returned (.agg #[.int .i64 (unTV op t), .int .i64 (unTE op t)]) ∧ Box w t0 t1 v0 v1 w' :=
  (UnTypeIn_c op t (Run.start h.run.2)).mono fun _ _ ⟨he, hr⟩ => ⟨he, h.on hr.1⟩
theorem binType_b {w w1 : World} {t0 t1 v0 v1 : Int} (op t u : Int) (h : Box w t0 t1 v0 v1 w1) :
    Calls Tryd.prog 23 #[.int .i64 op, .int .i64 t, .int .i64 u] w1 fun e w' => e = .returned (.agg #[.int .i64 (binTV op t u), .int .i64 (binTE op t u)]) ∧ Box w t0 t1 v0 v1 w' :=
  (binType_c op t u (Run.start h.run.2)).mono fun _ _ ⟨he, hr⟩ => ⟨he, h.on hr.1⟩
theorem BinTypeIn_b {w w1 : World} {t0 t1 v0 v1 : Int} (op t u : Int) (h : Box w t0 t1 v0 v1 w1) :
    Calls Tryd.prog 24 #[.int .i64 op, .int .i64 t, .int .i64 u] w1 fun e w' => e = .returned (.agg #[.int .i64 (binTV op t u), .int .i64 (binTE op t u)]) ∧ Box w t0 t1 v0 v1 w' :=
  (BinTypeIn_c op t u (Run.start h.run.2)).mono fun _ _ ⟨he, hr⟩ => ⟨he, h.on hr.1⟩
theorem un_b {w w1 : World} {t0 t1 v0 v1 : Int} (op a : Int) (h : Box w t0 t1 v0 v1 w1) (ha : I32 a) :
    Calls Tryd.prog 12 #[.int .i64 op, .int .i32 a] w1 fun e w' => e = .returned (.agg #[.int .i32 (unV op a), .int .i64 (unE op)]) ∧ Box w t0 t1 v0 v1 w' :=
  (un_c op a (Run.start h.run.2) ha).mono fun _ _ ⟨he, hr⟩ => ⟨he, h.on hr.1⟩
theorem bin_b {w w1 : World} {t0 t1 v0 v1 : Int} (op a b : Int) (h : Box w t0 t1 v0 v1 w1) (ha : I32 a) (hb : I32 b) :
    Calls Tryd.prog 14 #[.int .i64 op, .int .i32 a, .int .i32 b] w1 fun e w' => e = .returned (.agg #[.int .i32 (binV op a b), .int .i64 (binE op)]) ∧ Box w t0 t1 v0 v1 w' :=
  (bin_c op a b (Run.start h.run.2) ha hb).mono fun _ _ ⟨he, hr⟩ => ⟨he, h.on hr.1⟩
theorem examples_b {w w1 : World} {t0 t1 v0 v1 : Int} (h : Box w t0 t1 v0 v1 w1) :
    Calls Tryd.prog 11 #[] w1 fun e w' => e = .returned (.bool true) ∧ Box w t0 t1 v0 v1 w' :=
  (examples_c (Run.start h.run.2)).mono fun _ _ ⟨he, hr⟩ => ⟨he, h.on hr.1⟩

theorem un_y0 {w w1 : World} {t0 t1 v0 v1 : Int} {Y Z : Nat} {p q r s : Value} (op a : Int) (h : YZ w t0 t1 v0 v1 Y Z p q r s w1) (ha : I32 a) (h0 : unE op = 0) :
    Calls Tryd.prog 12 #[.int .i64 op, .int .i32 a] w1 fun e w' => e = .returned (.agg #[.int .i32 (unV op a), .int .i64 0]) ∧ YZ w t0 t1 v0 v1 Y Z p q r s w' := by
  have := un_y op a h ha
  rw [h0] at this; exact this
/-- Box, and a boxed struct whose cells are known. -/
structure YB (w : World) (t0 t1 v0 v1 : Int) (Y : Nat) (p q : Value) (w' : World) : Prop where
  box : Box w t0 t1 v0 v1 w'
  hY : Y < w'.heap.size
  y0 : w'.cell? ⟨Y, 0, none⟩ = some p
  y1 : w'.cell? ⟨Y, 1, none⟩ = some q
theorem YB.on {w : World} {t0 t1 v0 v1 : Int} {Y : Nat} {p q : Value} {w1 w2 : World} (h : YB w t0 t1 v0 v1 Y p q w1) (hb : Below w1.heap.size w1 w2) : YB w t0 t1 v0 v1 Y p q w2 where
  box := h.box.on hb
  hY := by have := h.hY; have := hb.size; omega
  y0 := (hb.cell (p := ⟨Y, 0, none⟩) h.hY).trans h.y0
  y1 := (hb.cell (p := ⟨Y, 1, none⟩) h.hY).trans h.y1
theorem YB.start {w : World} {t0 t1 v0 v1 : Int} {w1 : World} (p q : Value) (h : Box w t0 t1 v0 v1 w1) : YB w t0 t1 v0 v1 w1.heap.size p q (w1.alloc (.cells #[p, q] 44)) where
  box := h.alloc _
  hY := by simp
  y0 := by go_simp
  y1 := by go_simp
theorem YB.alloc {w : World} {t0 t1 v0 v1 : Int} {Y : Nat} {p q : Value} {w1 : World} (r s : Value) (h : YB w t0 t1 v0 v1 Y p q w1) : YZ w t0 t1 v0 v1 Y w1.heap.size p q r s (w1.alloc (.cells #[r, s] 25)) where
  box := h.box.alloc _
  hY := by have := h.hY; simp; omega
  hZ := by simp
  y0 := (h.on ((Below.refl _ _).alloc (Nat.le_refl _) _)).y0
  y1 := (h.on ((Below.refl _ _).alloc (Nat.le_refl _) _)).y1
  z0 := by go_simp
  z1 := by go_simp
theorem bin_yb {w w1 : World} {t0 t1 v0 v1 : Int} {Y : Nat} {p q : Value} (op a b : Int) (h : YB w t0 t1 v0 v1 Y p q w1) (ha : I32 a) (hb : I32 b) :
    Calls Tryd.prog 14 #[.int .i64 op, .int .i32 a, .int .i32 b] w1 fun e w' => e = .returned (.agg #[.int .i32 (binV op a b), .int .i64 (binE op)]) ∧ YB w t0 t1 v0 v1 Y p q w' :=
  (bin_c op a b (Run.start h.box.run.2) ha hb).mono fun _ _ ⟨he, hr⟩ => ⟨he, h.on hr.1⟩

set_option maxRecDepth 100000 in
set_option maxHeartbeats 40000000 in
theorem types_walk (op t0 t1 v0 v1 : Int) (w : World) (rv0 : I32 v0) (rv1 : I32 v1) (he : Env w) :
    Calls Tryd.prog 10 #[.int .i64 op, .agg #[.int .i64 t0, .int .i64 t1], .agg #[.int .i32 v0, .int .i32 v1]] w fun e w' => e = .returned (.bool true) ∧ Run w w' := by
  have HX := Lib.hid (Box.start t0 t1 v0 v1 he)
  clear he
  have f440 := fld44_0
  have f441 := fld44_1
  have f251 := fld25_1
  go_enter Tryd.func10, Tryd.ntmps10
  go_wp2_with (go_at_call 11; refine (examples_b HX.out).mono ?_; rintro e w1 ⟨rfl, hx⟩)
  have hsz := hx.size
  have c0 := hx.c0
  have c1 := hx.c1
  have hxd := hx.drew
  go_region_held3 (fun w' => w'.cell? ⟨w.heap.size, 0, none⟩ = some (.int .i64 t0) ∧ w'.cell? ⟨w.heap.size, 1, none⟩ = some (.int .i64 t1) ∧ Box w t0 t1 v0 v1 w') ((first | (refine ⟨?_, ?_, ?_⟩ <;> assumption) | go_keep))
    (first | (go_at_call 21; refine (unType_b (w := w) (t0 := t0) (t1 := t1) (v0 := v0) (v1 := v1) _ _ ?_).mono ?_; (first | assumption | simp [*]); rintro e w' ⟨rfl, hx'⟩; have c0' := hx'.c0; have c1' := hx'.c1) | (go_at_call 22; refine (UnTypeIn_b (w := w) (t0 := t0) (t1 := t1) (v0 := v0) (v1 := v1) _ _ ?_).mono ?_; (first | assumption | simp [*]); rintro e w' ⟨rfl, hx'⟩; have c0' := hx'.c0; have c1' := hx'.c1) | (go_at_call 23; refine (binType_b (w := w) (t0 := t0) (t1 := t1) (v0 := v0) (v1 := v1) _ _ _ ?_).mono ?_; (first | assumption | simp [*]); rintro e w' ⟨rfl, hx'⟩; have c0' := hx'.c0; have c1' := hx'.c1) | (go_at_call 24; refine (BinTypeIn_b (w := w) (t0 := t0) (t1 := t1) (v0 := v0) (v1 := v1) _ _ _ ?_).mono ?_; (first | assumption | simp [*]); rintro e w' ⟨rfl, hx'⟩; have c0' := hx'.c0; have c1' := hx'.c1))
  clear hxd c0 c1 hsz hx
  rename_i wq hS
  obtain ⟨_, _, hxq⟩ := hS
  go_wp2
  go_loopw [8] (fun ki wr => ∃ k : Int, 0 ≤ k ∧ k ≤ 31 ∧ ki = .int .i64 k ∧ Box w t0 t1 v0 v1 wr) (fun ki _ => (31 - intOf ki).toNat)
  case atStart => exact ⟨0, by omega, by omega, rfl, hxq⟩
  case round =>
    obtain ⟨k, hk0, hk1, rfl, hx⟩ := hrel
    by_cases hlt : k ≤ 30
    · go_wp2
      obtain ⟨wo, rfl⟩ : ∃ wo : World, wo = wr := ⟨_, rfl⟩
      go_loopw [9] (fun ii wr => ∃ i : Int, 0 ≤ i ∧ i ≤ 5 ∧ ii = .int .i64 i ∧ Box w t0 t1 v0 v1 wr) (fun ii _ => (5 - intOf ii).toNat)
      case atStart => exact ⟨0, by omega, by omega, rfl, hx⟩
      case round =>
        obtain ⟨i, hi0, hi1, rfl, hx⟩ := hrel
        by_cases hli : i ≤ 4
        · go_upto_region 12 with fail
          go_cut [10, 11] from 47 to 136 (fun s10 s11 wx => ∃ X : Nat, s10 = .pointer (some ⟨X, 0, none⟩) ∧ s11 = .int .i32 v0 ∧ w.heap.size + 1 < X ∧ X < wx.heap.size ∧ Box w t0 t1 v0 v1 wx ∧ wx.cell? ⟨X, 0, none⟩ = some (.int .i64 (unTV k i)) ∧ wx.cell? ⟨X, 1, none⟩ = some (.int .i64 (unTE k i)))
          case first =>
            have hxd := hx.drew
            have d0 := hx.d0
            have hsz := hx.size
            go_region_held3 (fun w' => w'.cell? ⟨w.heap.size + 1, 0, none⟩ = some (.int .i32 v0) ∧ Box w t0 t1 v0 v1 w') ((refine Box.sd ?_; repeat' (first | assumption | exact (‹_ ∧ Box w t0 t1 v0 v1 _›).2 | with_reducible apply Box.drew | with_reducible apply Box.alloc | with_reducible apply Box.setCell | (show w.heap.size + 1 < _; omega) | (simp; omega))))
              ((go_at_call 21; refine (unType_bb (w := w) (t0 := t0) (t1 := t1) (v0 := v0) (v1 := v1) _ _ ?_).mono ?_; (repeat first | assumption | apply Box.drew | apply Box.alloc); rintro e w' ⟨rfl, hx', hb'⟩; have d0' := hx'.d0; obtain ⟨hc', hf'⟩ := bcell hb'; have hz' := hb'.size; simp at hz'))
            all_goals
              have hxz := hx'.size
              have hbx := (‹_ ∧ Box w t0 t1 v0 v1 _›).2
              go_wp2_with fail
              go_meet
              refine ⟨_, rfl, rfl, ?_, ?_, hbx, ?_, ?_⟩
              · omega
              · first | (simp [World.setCell]; done) | (simp [World.setCell]; omega)
              · go_simp
              · go_simp
          case rest =>
            obtain ⟨X, rfl, rfl, hX, hXs, hx, x0, x1⟩ := hcut
            have hd0 := hx.d0
            go_upto_if 57 with fail
            go_cut [11] from 47 to 136 (fun s11 wx => ∃ a : Int, s11 = .int .i32 a ∧ I32 a ∧ (i = 3 → a = 0 ∨ a = 1) ∧ wx = wc)
            case first =>
              by_cases hi3 : i = 3
              · have hi3b : (i == 3) = true := by simpa using hi3
                have H3 := Lib.hid hi3
                clear hi3
                go_wp2_with fail
                go_meet
                exact ⟨_, rfl, bits_rng _ _ _, fun _ => and1 v0, rfl⟩
              · have hi3b : (i == 3) = false := by simpa using hi3
                go_wp2_with fail
                go_meet
                exact ⟨_, rfl, rv0, fun h => absurd h hi3, rfl⟩
            case rest =>
              obtain ⟨a, rfl, ra, ha01, hwc⟩ := hcut
              subst hwc
              have hyz : (YZ w t0 t1 v0 v1 X X (.int .i64 (unTV k i)) (.int .i64 (unTE k i)) (.int .i64 (unTV k i)) (.int .i64 (unTE k i)) wc) := ⟨hx, hXs, hXs, x0, x1, x0, x1⟩
              have hyzd := hyz.drew
              go_upto_region 15 with fail
              go_cut [86] from 47 to 136 (fun s86 wx => s86 = .bool false ∧ Box w t0 t1 v0 v1 wx)
              case first =>
                rcases (show ¬ unTE k i = 0 ∨ (unTE k i = 0 ∧ ¬ unTV k i = 3) ∨ (unTE k i = 0 ∧ unTV k i = 3) by omega) with hE | ⟨hE, hT⟩ | ⟨hE, hT⟩
                · skip
                  have te : (unTE k i == 0) = false := by simpa using hE
                  clear hE
                  refine wp_region_held_drew (S := (fun w' => w'.cell? ⟨X, 0, none⟩ = some (.int .i64 (unTV k i)) ∧ w'.cell? ⟨X, 1, none⟩ = some (.int .i64 (unTE k i)) ∧ (YZ w t0 t1 v0 v1 X X (.int .i64 (unTV k i)) (.int .i64 (unTE k i)) (.int .i64 (unTV k i)) (.int .i64 (unTE k i)) w'))) (by kernel_rfl) ?_ (fun hHeld => ?_)
                  · (try dsimp only); (refine YZ.sx ?_; first | assumption | (with_reducible apply YZ.drew; assumption))
                  refine wpAnyH_take (i := 0) (oi := { dst := some 61, op := Op.load 44 (Operand.tmp 10), type := 44, pos := "law.go:211", after := #[], guard := none }) (v := ?_) rfl (by kernel_rfl) (by kernel_rfl) (by kernel_rfl) (fun _ _ _ h => h) (Or.inl ⟨by kernel_rfl, ?_⟩) (by assumption) ?_
                  rotate_left
                  · (intro w hSw; (try dsimp only at hSw); go_simp; (try with_reducible rfl))
                  try simp only [Act.put, List.setIfInBounds_toArray, List.set_cons_zero, List.set_cons_succ]
                  refine wpAnyH_take (i := 1) (oi := { dst := some 62, op := Op.move (Operand.tmp 8), type := 3, pos := "law.go:211", after := #[], guard := none }) (v := ?_) rfl (by kernel_rfl) (by kernel_rfl) (by kernel_rfl) (fun _ _ _ h => h) (Or.inl ⟨by kernel_rfl, ?_⟩) (by assumption) ?_
                  rotate_left
                  · (intro w hSw; (try dsimp only at hSw); go_simp; (try with_reducible rfl))
                  try simp only [Act.put, List.setIfInBounds_toArray, List.set_cons_zero, List.set_cons_succ]
                  refine wpAnyH_take (i := 2) (oi := { dst := some 63, op := Op.move (Operand.tmp 9), type := 3, pos := "law.go:211", after := #[], guard := none }) (v := ?_) rfl (by kernel_rfl) (by kernel_rfl) (by kernel_rfl) (fun _ _ _ h => h) (Or.inl ⟨by kernel_rfl, ?_⟩) (by assumption) ?_
                  rotate_left
                  · (intro w hSw; (try dsimp only at hSw); go_simp; (try with_reducible rfl))
                  try simp only [Act.put, List.setIfInBounds_toArray, List.set_cons_zero, List.set_cons_succ]
                  refine wpAnyH_ready (rs := [3]) (by kernel_rfl) (by simp) ?_
                  refine AllReadyH.cons (o := { dst := some 64, op := Op.call { callee := Callee.value (Operand.func 22), args := #[Operand.tmp 62, Operand.tmp 63], argTypes := #[3, 3] }, type := 44, pos := "law.go:211", after := #[{ on := 1, ground := Ground.data }, { on := 2, ground := Ground.data }], guard := none }) rfl (fun K hK => ?_) AllReadyH.nil
                  go_simp
                  (go_at_call 22; refine (UnTypeIn_y k i hHeld.2.2).mono ?_; rintro e w' ⟨rfl, hyz'⟩)
                  try go_wp2_with fail
                  refine hK.out _ _ ?_ (fun hHeld => ?_)
                  · (try dsimp only); (refine YZ.sx ?_; first | assumption | (with_reducible apply YZ.drew; assumption))
                  clear hK K
                  try simp only [Act.put, List.setIfInBounds_toArray, List.set_cons_zero, List.set_cons_succ]
                  refine wpAnyH_take (i := 4) (oi := { dst := some 65, op := Op.binOp BinOp.neq 44 (Operand.tmp 61) (Operand.tmp 64) 44, type := 4, pos := "law.go:211", after := #[{ on := 0, ground := Ground.data }, { on := 3, ground := Ground.data }], guard := none }) (v := ?_) rfl (by kernel_rfl) (by kernel_rfl) (by kernel_rfl) (fun _ _ _ h => h) (Or.inl ⟨by kernel_rfl, ?_⟩) (by assumption) ?_
                  rotate_left
                  · (intro w hSw; (try dsimp only at hSw); go_simp; (try with_reducible rfl))
                  try simp only [Act.put, List.setIfInBounds_toArray, List.set_cons_zero, List.set_cons_succ]
                  refine wpAnyH_take (i := 5) (oi := { dst := some 66, op := Op.move (Operand.tmp 65), type := 4, pos := "law.go:211", after := #[{ on := 4, ground := Ground.data }, { on := 3, ground := Ground.chain }], guard := none }) (v := ?_) rfl (by kernel_rfl) (by kernel_rfl) (by kernel_rfl) (fun _ _ _ h => h) (Or.inl ⟨by kernel_rfl, ?_⟩) (by assumption) ?_
                  rotate_left
                  · (intro w hSw; (try dsimp only at hSw); go_simp; (try with_reducible rfl))
                  try simp only [Act.put, List.setIfInBounds_toArray, List.set_cons_zero, List.set_cons_succ]
                  refine wpAnyH_take (i := 6) (oi := { dst := some 67, op := Op.fieldAddr 44 (Operand.tmp 10) 1, type := 0, pos := "law.go:211", after := #[{ on := 5, ground := Ground.guard }], guard := some (5, false) }) (v := ?_) rfl (by kernel_rfl) (by kernel_rfl) (by kernel_rfl) (fun _ _ _ h => h) (Or.inl ⟨by kernel_rfl, ?_⟩) (by assumption) ?_
                  rotate_left
                  · (intro w hSw; (try dsimp only at hSw); go_simp; (try with_reducible rfl))
                  try simp only [Act.put, List.setIfInBounds_toArray, List.set_cons_zero, List.set_cons_succ]
                  refine wpAnyH_take (i := 7) (oi := { dst := some 68, op := Op.load 23 (Operand.tmp 67), type := 23, pos := "law.go:211", after := #[{ on := 6, ground := Ground.data }, { on := 5, ground := Ground.guard }], guard := some (5, false) }) (v := ?_) rfl (by kernel_rfl) (by kernel_rfl) (by kernel_rfl) (fun _ _ _ h => h) (Or.inl ⟨by kernel_rfl, ?_⟩) (by assumption) ?_
                  rotate_left
                  · (intro w hSw; (try dsimp only at hSw); go_simp; (try with_reducible rfl))
                  try simp only [Act.put, List.setIfInBounds_toArray, List.set_cons_zero, List.set_cons_succ]
                  refine wpAnyH_take (i := 8) (oi := { dst := some 69, op := Op.binOp BinOp.eql 23 (Operand.tmp 68) (Operand.const (Value.int IntKind.i64 0)) 23, type := 4, pos := "law.go:211", after := #[{ on := 7, ground := Ground.data }, { on := 5, ground := Ground.guard }], guard := some (5, false) }) (v := ?_) rfl (by kernel_rfl) (by kernel_rfl) (by kernel_rfl) (fun _ _ _ h => h) (Or.inl ⟨by kernel_rfl, ?_⟩) (by assumption) ?_
                  rotate_left
                  · (intro w hSw; (try dsimp only at hSw); go_simp; (try with_reducible rfl))
                  try simp only [Act.put, List.setIfInBounds_toArray, List.set_cons_zero, List.set_cons_succ]
                  refine wpAnyH_take (i := 9) (oi := { dst := some 70, op := Op.move (Operand.tmp 69), type := 4, pos := "law.go:211", after := #[{ on := 8, ground := Ground.data }, { on := 5, ground := Ground.chain }, { on := 5, ground := Ground.guard }], guard := some (5, false) }) (v := ?_) rfl (by kernel_rfl) (by kernel_rfl) (by kernel_rfl) (fun _ _ _ h => h) (Or.inl ⟨by kernel_rfl, ?_⟩) (by assumption) ?_
                  rotate_left
                  · (intro w hSw; (try dsimp only at hSw); go_simp; (try with_reducible rfl))
                  try simp only [Act.put, List.setIfInBounds_toArray, List.set_cons_zero, List.set_cons_succ]
                  refine wpAnyH_take (i := 10) (oi := { dst := some 71, op := Op.move (Operand.tmp 8), type := 3, pos := "law.go:211", after := #[{ on := 9, ground := Ground.guard }], guard := some (9, true) }) (v := undef) rfl (by kernel_rfl) (by kernel_rfl) (by kernel_rfl) (fun _ _ _ h => h) (Or.inr ⟨by kernel_rfl, rfl⟩) (by assumption) ?_
                  try simp only [Act.put, List.setIfInBounds_toArray, List.set_cons_zero, List.set_cons_succ]
                  refine wpAnyH_take (i := 11) (oi := { dst := some 72, op := Op.move (Operand.tmp 11), type := 21, pos := "law.go:211", after := #[{ on := 9, ground := Ground.guard }], guard := some (9, true) }) (v := undef) rfl (by kernel_rfl) (by kernel_rfl) (by kernel_rfl) (fun _ _ _ h => h) (Or.inr ⟨by kernel_rfl, rfl⟩) (by assumption) ?_
                  try simp only [Act.put, List.setIfInBounds_toArray, List.set_cons_zero, List.set_cons_succ]
                  refine wpAnyH_take (i := 12) (oi := { dst := some 73, op := Op.call { callee := Callee.value (Operand.func 12), args := #[Operand.tmp 71, Operand.tmp 72], argTypes := #[3, 21] }, type := 25, pos := "law.go:211", after := #[{ on := 10, ground := Ground.data }, { on := 11, ground := Ground.data }, { on := 9, ground := Ground.chain }, { on := 9, ground := Ground.guard }], guard := some (9, true) }) (v := undef) rfl (by kernel_rfl) (by kernel_rfl) (by kernel_rfl) (fun _ _ _ h => h) (Or.inr ⟨by kernel_rfl, rfl⟩) (by assumption) ?_
                  try simp only [Act.put, List.setIfInBounds_toArray, List.set_cons_zero, List.set_cons_succ]
                  refine wpAnyH_take (i := 13) (oi := { dst := some 74, op := Op.field 25 (Operand.tmp 73) 1, type := 23, pos := "law.go:211", after := #[{ on := 12, ground := Ground.data }, { on := 9, ground := Ground.guard }], guard := some (9, true) }) (v := undef) rfl (by kernel_rfl) (by kernel_rfl) (by kernel_rfl) (fun _ _ _ h => h) (Or.inr ⟨by kernel_rfl, rfl⟩) (by assumption) ?_
                  try simp only [Act.put, List.setIfInBounds_toArray, List.set_cons_zero, List.set_cons_succ]
                  refine wpAnyH_take (i := 14) (oi := { dst := some 75, op := Op.binOp BinOp.neq 23 (Operand.tmp 74) (Operand.const (Value.int IntKind.i64 0)) 23, type := 4, pos := "law.go:211", after := #[{ on := 13, ground := Ground.data }, { on := 9, ground := Ground.guard }], guard := some (9, true) }) (v := undef) rfl (by kernel_rfl) (by kernel_rfl) (by kernel_rfl) (fun _ _ _ h => h) (Or.inr ⟨by kernel_rfl, rfl⟩) (by assumption) ?_
                  try simp only [Act.put, List.setIfInBounds_toArray, List.set_cons_zero, List.set_cons_succ]
                  refine wpAnyH_take (i := 15) (oi := { dst := some 76, op := Op.move (Operand.tmp 75), type := 4, pos := "law.go:211", after := #[{ on := 14, ground := Ground.data }, { on := 12, ground := Ground.chain }, { on := 9, ground := Ground.guard }], guard := some (9, true) }) (v := undef) rfl (by kernel_rfl) (by kernel_rfl) (by kernel_rfl) (fun _ _ _ h => h) (Or.inr ⟨by kernel_rfl, rfl⟩) (by assumption) ?_
                  try simp only [Act.put, List.setIfInBounds_toArray, List.set_cons_zero, List.set_cons_succ]
                  refine wpAnyH_take (i := 16) (oi := { dst := some 77, op := Op.fieldAddr 44 (Operand.tmp 10) 0, type := 0, pos := "law.go:211", after := #[{ on := 15, ground := Ground.guard }], guard := some (15, false) }) (v := undef) rfl (by kernel_rfl) (by kernel_rfl) (by kernel_rfl) (fun _ _ _ h => h) (Or.inr ⟨by kernel_rfl, rfl⟩) (by assumption) ?_
                  try simp only [Act.put, List.setIfInBounds_toArray, List.set_cons_zero, List.set_cons_succ]
                  refine wpAnyH_take (i := 17) (oi := { dst := some 78, op := Op.load 3 (Operand.tmp 77), type := 3, pos := "law.go:211", after := #[{ on := 16, ground := Ground.data }, { on := 15, ground := Ground.guard }], guard := some (15, false) }) (v := undef) rfl (by kernel_rfl) (by kernel_rfl) (by kernel_rfl) (fun _ _ _ h => h) (Or.inr ⟨by kernel_rfl, rfl⟩) (by assumption) ?_
                  try simp only [Act.put, List.setIfInBounds_toArray, List.set_cons_zero, List.set_cons_succ]
                  refine wpAnyH_take (i := 18) (oi := { dst := some 79, op := Op.binOp BinOp.eql 3 (Operand.tmp 78) (Operand.const (Value.int IntKind.i64 3)) 3, type := 4, pos := "law.go:211", after := #[{ on := 17, ground := Ground.data }, { on := 15, ground := Ground.guard }], guard := some (15, false) }) (v := undef) rfl (by kernel_rfl) (by kernel_rfl) (by kernel_rfl) (fun _ _ _ h => h) (Or.inr ⟨by kernel_rfl, rfl⟩) (by assumption) ?_
                  try simp only [Act.put, List.setIfInBounds_toArray, List.set_cons_zero, List.set_cons_succ]
                  refine wpAnyH_take (i := 19) (oi := { dst := some 80, op := Op.move (Operand.tmp 79), type := 4, pos := "law.go:211", after := #[{ on := 18, ground := Ground.data }, { on := 15, ground := Ground.chain }, { on := 15, ground := Ground.guard }], guard := some (15, false) }) (v := undef) rfl (by kernel_rfl) (by kernel_rfl) (by kernel_rfl) (fun _ _ _ h => h) (Or.inr ⟨by kernel_rfl, rfl⟩) (by assumption) ?_
                  try simp only [Act.put, List.setIfInBounds_toArray, List.set_cons_zero, List.set_cons_succ]
                  refine wpAnyH_take (i := 20) (oi := { dst := some 81, op := Op.move (Operand.tmp 9), type := 3, pos := "law.go:211", after := #[{ on := 19, ground := Ground.guard }], guard := some (19, true) }) (v := undef) rfl (by kernel_rfl) (by kernel_rfl) (by kernel_rfl) (fun _ _ _ h => h) (Or.inr ⟨by kernel_rfl, rfl⟩) (by assumption) ?_
                  try simp only [Act.put, List.setIfInBounds_toArray, List.set_cons_zero, List.set_cons_succ]
                  refine wpAnyH_take (i := 21) (oi := { dst := some 82, op := Op.binOp BinOp.neq 3 (Operand.tmp 81) (Operand.const (Value.int IntKind.i64 3)) 3, type := 4, pos := "law.go:211", after := #[{ on := 20, ground := Ground.data }, { on := 19, ground := Ground.guard }], guard := some (19, true) }) (v := undef) rfl (by kernel_rfl) (by kernel_rfl) (by kernel_rfl) (fun _ _ _ h => h) (Or.inr ⟨by kernel_rfl, rfl⟩) (by assumption) ?_
                  try simp only [Act.put, List.setIfInBounds_toArray, List.set_cons_zero, List.set_cons_succ]
                  refine wpAnyH_take (i := 22) (oi := { dst := some 83, op := Op.pick (Operand.tmp 80) (Operand.tmp 82) (Operand.const (Value.bool false)), type := 4, pos := "law.go:211", after := #[{ on := 19, ground := Ground.data }, { on := 21, ground := Ground.data }, { on := 15, ground := Ground.guard }], guard := some (15, false) }) (v := undef) rfl (by kernel_rfl) (by kernel_rfl) (by kernel_rfl) (fun _ _ _ h => h) (Or.inr ⟨by kernel_rfl, rfl⟩) (by assumption) ?_
                  try simp only [Act.put, List.setIfInBounds_toArray, List.set_cons_zero, List.set_cons_succ]
                  refine wpAnyH_take (i := 23) (oi := { dst := some 84, op := Op.pick (Operand.tmp 76) (Operand.const (Value.bool true)) (Operand.tmp 83), type := 4, pos := "law.go:211", after := #[{ on := 15, ground := Ground.data }, { on := 22, ground := Ground.data }, { on := 9, ground := Ground.guard }], guard := some (9, true) }) (v := undef) rfl (by kernel_rfl) (by kernel_rfl) (by kernel_rfl) (fun _ _ _ h => h) (Or.inr ⟨by kernel_rfl, rfl⟩) (by assumption) ?_
                  try simp only [Act.put, List.setIfInBounds_toArray, List.set_cons_zero, List.set_cons_succ]
                  refine wpAnyH_take (i := 24) (oi := { dst := some 85, op := Op.pick (Operand.tmp 70) (Operand.tmp 84) (Operand.const (Value.bool false)), type := 4, pos := "law.go:211", after := #[{ on := 9, ground := Ground.data }, { on := 23, ground := Ground.data }, { on := 5, ground := Ground.guard }], guard := some (5, false) }) (v := ?_) rfl (by kernel_rfl) (by kernel_rfl) (by kernel_rfl) (fun _ _ _ h => h) (Or.inl ⟨by kernel_rfl, ?_⟩) (by assumption) ?_
                  rotate_left
                  · (intro w hSw; (try dsimp only at hSw); go_simp; (try with_reducible rfl))
                  try simp only [Act.put, List.setIfInBounds_toArray, List.set_cons_zero, List.set_cons_succ]
                  refine wpAnyH_take (i := 25) (oi := { dst := some 86, op := Op.pick (Operand.tmp 66) (Operand.const (Value.bool true)) (Operand.tmp 85), type := 4, pos := "law.go:211", after := #[{ on := 5, ground := Ground.data }, { on := 24, ground := Ground.data }], guard := none }) (v := ?_) rfl (by kernel_rfl) (by kernel_rfl) (by kernel_rfl) (fun _ _ _ h => h) (Or.inl ⟨by kernel_rfl, ?_⟩) (by assumption) ?_
                  rotate_left
                  · (intro w hSw; (try dsimp only at hSw); go_simp; (try with_reducible rfl))
                  try simp only [Act.put, List.setIfInBounds_toArray, List.set_cons_zero, List.set_cons_succ]
                  refine wpAnyH_done (by kernel_rfl) ?_ _
                  have hbx := hHeld.2.2
                  go_wp2_with fail
                  go_meet
                  exact ⟨rfl, hbx.box⟩
                · skip
                  have te : (unTE k i == 0) = true := by simpa using hE
                  have HU := Lib.hid (unE_of hE)
                  have tv : (unTV k i == 3) = false := by simpa using hT
                  clear hE hT
                  refine wp_region_held_drew (S := (fun w' => w'.cell? ⟨X, 0, none⟩ = some (.int .i64 (unTV k i)) ∧ w'.cell? ⟨X, 1, none⟩ = some (.int .i64 (unTE k i)) ∧ (YZ w t0 t1 v0 v1 X X (.int .i64 (unTV k i)) (.int .i64 (unTE k i)) (.int .i64 (unTV k i)) (.int .i64 (unTE k i)) w'))) (by kernel_rfl) ?_ (fun hHeld => ?_)
                  · (try dsimp only); (refine YZ.sx ?_; first | assumption | (with_reducible apply YZ.drew; assumption))
                  refine wpAnyH_take (i := 0) (oi := { dst := some 61, op := Op.load 44 (Operand.tmp 10), type := 44, pos := "law.go:211", after := #[], guard := none }) (v := ?_) rfl (by kernel_rfl) (by kernel_rfl) (by kernel_rfl) (fun _ _ _ h => h) (Or.inl ⟨by kernel_rfl, ?_⟩) (by assumption) ?_
                  rotate_left
                  · (intro w hSw; (try dsimp only at hSw); go_simp; (try with_reducible rfl))
                  try simp only [Act.put, List.setIfInBounds_toArray, List.set_cons_zero, List.set_cons_succ]
                  refine wpAnyH_take (i := 1) (oi := { dst := some 62, op := Op.move (Operand.tmp 8), type := 3, pos := "law.go:211", after := #[], guard := none }) (v := ?_) rfl (by kernel_rfl) (by kernel_rfl) (by kernel_rfl) (fun _ _ _ h => h) (Or.inl ⟨by kernel_rfl, ?_⟩) (by assumption) ?_
                  rotate_left
                  · (intro w hSw; (try dsimp only at hSw); go_simp; (try with_reducible rfl))
                  try simp only [Act.put, List.setIfInBounds_toArray, List.set_cons_zero, List.set_cons_succ]
                  refine wpAnyH_take (i := 2) (oi := { dst := some 63, op := Op.move (Operand.tmp 9), type := 3, pos := "law.go:211", after := #[], guard := none }) (v := ?_) rfl (by kernel_rfl) (by kernel_rfl) (by kernel_rfl) (fun _ _ _ h => h) (Or.inl ⟨by kernel_rfl, ?_⟩) (by assumption) ?_
                  rotate_left
                  · (intro w hSw; (try dsimp only at hSw); go_simp; (try with_reducible rfl))
                  try simp only [Act.put, List.setIfInBounds_toArray, List.set_cons_zero, List.set_cons_succ]
                  refine wpAnyH_ready (rs := [3]) (by kernel_rfl) (by simp) ?_
                  refine AllReadyH.cons (o := { dst := some 64, op := Op.call { callee := Callee.value (Operand.func 22), args := #[Operand.tmp 62, Operand.tmp 63], argTypes := #[3, 3] }, type := 44, pos := "law.go:211", after := #[{ on := 1, ground := Ground.data }, { on := 2, ground := Ground.data }], guard := none }) rfl (fun K hK => ?_) AllReadyH.nil
                  go_simp
                  (go_at_call 22; refine (UnTypeIn_y k i hHeld.2.2).mono ?_; rintro e w' ⟨rfl, hyz'⟩)
                  try go_wp2_with fail
                  refine hK.out _ _ ?_ (fun hHeld => ?_)
                  · (try dsimp only); (refine YZ.sx ?_; first | assumption | (with_reducible apply YZ.drew; assumption))
                  clear hK K
                  try simp only [Act.put, List.setIfInBounds_toArray, List.set_cons_zero, List.set_cons_succ]
                  refine wpAnyH_take (i := 4) (oi := { dst := some 65, op := Op.binOp BinOp.neq 44 (Operand.tmp 61) (Operand.tmp 64) 44, type := 4, pos := "law.go:211", after := #[{ on := 0, ground := Ground.data }, { on := 3, ground := Ground.data }], guard := none }) (v := ?_) rfl (by kernel_rfl) (by kernel_rfl) (by kernel_rfl) (fun _ _ _ h => h) (Or.inl ⟨by kernel_rfl, ?_⟩) (by assumption) ?_
                  rotate_left
                  · (intro w hSw; (try dsimp only at hSw); go_simp; (try with_reducible rfl))
                  try simp only [Act.put, List.setIfInBounds_toArray, List.set_cons_zero, List.set_cons_succ]
                  refine wpAnyH_take (i := 5) (oi := { dst := some 66, op := Op.move (Operand.tmp 65), type := 4, pos := "law.go:211", after := #[{ on := 4, ground := Ground.data }, { on := 3, ground := Ground.chain }], guard := none }) (v := ?_) rfl (by kernel_rfl) (by kernel_rfl) (by kernel_rfl) (fun _ _ _ h => h) (Or.inl ⟨by kernel_rfl, ?_⟩) (by assumption) ?_
                  rotate_left
                  · (intro w hSw; (try dsimp only at hSw); go_simp; (try with_reducible rfl))
                  try simp only [Act.put, List.setIfInBounds_toArray, List.set_cons_zero, List.set_cons_succ]
                  refine wpAnyH_take (i := 6) (oi := { dst := some 67, op := Op.fieldAddr 44 (Operand.tmp 10) 1, type := 0, pos := "law.go:211", after := #[{ on := 5, ground := Ground.guard }], guard := some (5, false) }) (v := ?_) rfl (by kernel_rfl) (by kernel_rfl) (by kernel_rfl) (fun _ _ _ h => h) (Or.inl ⟨by kernel_rfl, ?_⟩) (by assumption) ?_
                  rotate_left
                  · (intro w hSw; (try dsimp only at hSw); go_simp; (try with_reducible rfl))
                  try simp only [Act.put, List.setIfInBounds_toArray, List.set_cons_zero, List.set_cons_succ]
                  refine wpAnyH_take (i := 7) (oi := { dst := some 68, op := Op.load 23 (Operand.tmp 67), type := 23, pos := "law.go:211", after := #[{ on := 6, ground := Ground.data }, { on := 5, ground := Ground.guard }], guard := some (5, false) }) (v := ?_) rfl (by kernel_rfl) (by kernel_rfl) (by kernel_rfl) (fun _ _ _ h => h) (Or.inl ⟨by kernel_rfl, ?_⟩) (by assumption) ?_
                  rotate_left
                  · (intro w hSw; (try dsimp only at hSw); go_simp; (try with_reducible rfl))
                  try simp only [Act.put, List.setIfInBounds_toArray, List.set_cons_zero, List.set_cons_succ]
                  refine wpAnyH_take (i := 8) (oi := { dst := some 69, op := Op.binOp BinOp.eql 23 (Operand.tmp 68) (Operand.const (Value.int IntKind.i64 0)) 23, type := 4, pos := "law.go:211", after := #[{ on := 7, ground := Ground.data }, { on := 5, ground := Ground.guard }], guard := some (5, false) }) (v := ?_) rfl (by kernel_rfl) (by kernel_rfl) (by kernel_rfl) (fun _ _ _ h => h) (Or.inl ⟨by kernel_rfl, ?_⟩) (by assumption) ?_
                  rotate_left
                  · (intro w hSw; (try dsimp only at hSw); go_simp; (try with_reducible rfl))
                  try simp only [Act.put, List.setIfInBounds_toArray, List.set_cons_zero, List.set_cons_succ]
                  refine wpAnyH_take (i := 9) (oi := { dst := some 70, op := Op.move (Operand.tmp 69), type := 4, pos := "law.go:211", after := #[{ on := 8, ground := Ground.data }, { on := 5, ground := Ground.chain }, { on := 5, ground := Ground.guard }], guard := some (5, false) }) (v := ?_) rfl (by kernel_rfl) (by kernel_rfl) (by kernel_rfl) (fun _ _ _ h => h) (Or.inl ⟨by kernel_rfl, ?_⟩) (by assumption) ?_
                  rotate_left
                  · (intro w hSw; (try dsimp only at hSw); go_simp; (try with_reducible rfl))
                  try simp only [Act.put, List.setIfInBounds_toArray, List.set_cons_zero, List.set_cons_succ]
                  refine wpAnyH_take (i := 10) (oi := { dst := some 71, op := Op.move (Operand.tmp 8), type := 3, pos := "law.go:211", after := #[{ on := 9, ground := Ground.guard }], guard := some (9, true) }) (v := ?_) rfl (by kernel_rfl) (by kernel_rfl) (by kernel_rfl) (fun _ _ _ h => h) (Or.inl ⟨by kernel_rfl, ?_⟩) (by assumption) ?_
                  rotate_left
                  · (intro w hSw; (try dsimp only at hSw); go_simp; (try with_reducible rfl))
                  try simp only [Act.put, List.setIfInBounds_toArray, List.set_cons_zero, List.set_cons_succ]
                  refine wpAnyH_take (i := 11) (oi := { dst := some 72, op := Op.move (Operand.tmp 11), type := 21, pos := "law.go:211", after := #[{ on := 9, ground := Ground.guard }], guard := some (9, true) }) (v := ?_) rfl (by kernel_rfl) (by kernel_rfl) (by kernel_rfl) (fun _ _ _ h => h) (Or.inl ⟨by kernel_rfl, ?_⟩) (by assumption) ?_
                  rotate_left
                  · (intro w hSw; (try dsimp only at hSw); go_simp; (try with_reducible rfl))
                  try simp only [Act.put, List.setIfInBounds_toArray, List.set_cons_zero, List.set_cons_succ]
                  refine wpAnyH_ready (rs := [12]) (by kernel_rfl) (by simp) ?_
                  refine AllReadyH.cons (o := { dst := some 73, op := Op.call { callee := Callee.value (Operand.func 12), args := #[Operand.tmp 71, Operand.tmp 72], argTypes := #[3, 21] }, type := 25, pos := "law.go:211", after := #[{ on := 10, ground := Ground.data }, { on := 11, ground := Ground.data }, { on := 9, ground := Ground.chain }, { on := 9, ground := Ground.guard }], guard := some (9, true) }) rfl (fun K hK => ?_) AllReadyH.nil
                  go_simp
                  (go_at_call 12; refine (un_y0 k a hHeld.2.2 ra HU.out).mono ?_; rintro e w' ⟨rfl, hyz'⟩)
                  try go_wp2_with fail
                  refine hK.out _ _ ?_ (fun hHeld => ?_)
                  · (try dsimp only); (refine YZ.sx ?_; first | assumption | (with_reducible apply YZ.drew; assumption))
                  clear hK K
                  try simp only [Act.put, List.setIfInBounds_toArray, List.set_cons_zero, List.set_cons_succ]
                  refine wpAnyH_take (i := 13) (oi := { dst := some 74, op := Op.field 25 (Operand.tmp 73) 1, type := 23, pos := "law.go:211", after := #[{ on := 12, ground := Ground.data }, { on := 9, ground := Ground.guard }], guard := some (9, true) }) (v := ?_) rfl (by kernel_rfl) (by kernel_rfl) (by kernel_rfl) (fun _ _ _ h => h) (Or.inl ⟨by kernel_rfl, ?_⟩) (by assumption) ?_
                  rotate_left
                  · (intro w hSw; (try dsimp only at hSw); go_simp; (try with_reducible rfl))
                  try simp only [Act.put, List.setIfInBounds_toArray, List.set_cons_zero, List.set_cons_succ]
                  refine wpAnyH_take (i := 14) (oi := { dst := some 75, op := Op.binOp BinOp.neq 23 (Operand.tmp 74) (Operand.const (Value.int IntKind.i64 0)) 23, type := 4, pos := "law.go:211", after := #[{ on := 13, ground := Ground.data }, { on := 9, ground := Ground.guard }], guard := some (9, true) }) (v := ?_) rfl (by kernel_rfl) (by kernel_rfl) (by kernel_rfl) (fun _ _ _ h => h) (Or.inl ⟨by kernel_rfl, ?_⟩) (by assumption) ?_
                  rotate_left
                  · (intro w hSw; (try dsimp only at hSw); go_simp; (try with_reducible rfl))
                  try simp only [Act.put, List.setIfInBounds_toArray, List.set_cons_zero, List.set_cons_succ]
                  refine wpAnyH_take (i := 15) (oi := { dst := some 76, op := Op.move (Operand.tmp 75), type := 4, pos := "law.go:211", after := #[{ on := 14, ground := Ground.data }, { on := 12, ground := Ground.chain }, { on := 9, ground := Ground.guard }], guard := some (9, true) }) (v := ?_) rfl (by kernel_rfl) (by kernel_rfl) (by kernel_rfl) (fun _ _ _ h => h) (Or.inl ⟨by kernel_rfl, ?_⟩) (by assumption) ?_
                  rotate_left
                  · (intro w hSw; (try dsimp only at hSw); go_simp; (try with_reducible rfl))
                  try simp only [Act.put, List.setIfInBounds_toArray, List.set_cons_zero, List.set_cons_succ]
                  refine wpAnyH_take (i := 16) (oi := { dst := some 77, op := Op.fieldAddr 44 (Operand.tmp 10) 0, type := 0, pos := "law.go:211", after := #[{ on := 15, ground := Ground.guard }], guard := some (15, false) }) (v := ?_) rfl (by kernel_rfl) (by kernel_rfl) (by kernel_rfl) (fun _ _ _ h => h) (Or.inl ⟨by kernel_rfl, ?_⟩) (by assumption) ?_
                  rotate_left
                  · (intro w hSw; (try dsimp only at hSw); go_simp; (try with_reducible rfl))
                  try simp only [Act.put, List.setIfInBounds_toArray, List.set_cons_zero, List.set_cons_succ]
                  refine wpAnyH_take (i := 17) (oi := { dst := some 78, op := Op.load 3 (Operand.tmp 77), type := 3, pos := "law.go:211", after := #[{ on := 16, ground := Ground.data }, { on := 15, ground := Ground.guard }], guard := some (15, false) }) (v := ?_) rfl (by kernel_rfl) (by kernel_rfl) (by kernel_rfl) (fun _ _ _ h => h) (Or.inl ⟨by kernel_rfl, ?_⟩) (by assumption) ?_
                  rotate_left
                  · (intro w hSw; (try dsimp only at hSw); go_simp; (try with_reducible rfl))
                  try simp only [Act.put, List.setIfInBounds_toArray, List.set_cons_zero, List.set_cons_succ]
                  refine wpAnyH_take (i := 18) (oi := { dst := some 79, op := Op.binOp BinOp.eql 3 (Operand.tmp 78) (Operand.const (Value.int IntKind.i64 3)) 3, type := 4, pos := "law.go:211", after := #[{ on := 17, ground := Ground.data }, { on := 15, ground := Ground.guard }], guard := some (15, false) }) (v := ?_) rfl (by kernel_rfl) (by kernel_rfl) (by kernel_rfl) (fun _ _ _ h => h) (Or.inl ⟨by kernel_rfl, ?_⟩) (by assumption) ?_
                  rotate_left
                  · (intro w hSw; (try dsimp only at hSw); go_simp; (try with_reducible rfl))
                  try simp only [Act.put, List.setIfInBounds_toArray, List.set_cons_zero, List.set_cons_succ]
                  refine wpAnyH_take (i := 19) (oi := { dst := some 80, op := Op.move (Operand.tmp 79), type := 4, pos := "law.go:211", after := #[{ on := 18, ground := Ground.data }, { on := 15, ground := Ground.chain }, { on := 15, ground := Ground.guard }], guard := some (15, false) }) (v := ?_) rfl (by kernel_rfl) (by kernel_rfl) (by kernel_rfl) (fun _ _ _ h => h) (Or.inl ⟨by kernel_rfl, ?_⟩) (by assumption) ?_
                  rotate_left
                  · (intro w hSw; (try dsimp only at hSw); go_simp; (try with_reducible rfl))
                  try simp only [Act.put, List.setIfInBounds_toArray, List.set_cons_zero, List.set_cons_succ]
                  refine wpAnyH_take (i := 20) (oi := { dst := some 81, op := Op.move (Operand.tmp 9), type := 3, pos := "law.go:211", after := #[{ on := 19, ground := Ground.guard }], guard := some (19, true) }) (v := undef) rfl (by kernel_rfl) (by kernel_rfl) (by kernel_rfl) (fun _ _ _ h => h) (Or.inr ⟨by kernel_rfl, rfl⟩) (by assumption) ?_
                  try simp only [Act.put, List.setIfInBounds_toArray, List.set_cons_zero, List.set_cons_succ]
                  refine wpAnyH_take (i := 21) (oi := { dst := some 82, op := Op.binOp BinOp.neq 3 (Operand.tmp 81) (Operand.const (Value.int IntKind.i64 3)) 3, type := 4, pos := "law.go:211", after := #[{ on := 20, ground := Ground.data }, { on := 19, ground := Ground.guard }], guard := some (19, true) }) (v := undef) rfl (by kernel_rfl) (by kernel_rfl) (by kernel_rfl) (fun _ _ _ h => h) (Or.inr ⟨by kernel_rfl, rfl⟩) (by assumption) ?_
                  try simp only [Act.put, List.setIfInBounds_toArray, List.set_cons_zero, List.set_cons_succ]
                  refine wpAnyH_take (i := 22) (oi := { dst := some 83, op := Op.pick (Operand.tmp 80) (Operand.tmp 82) (Operand.const (Value.bool false)), type := 4, pos := "law.go:211", after := #[{ on := 19, ground := Ground.data }, { on := 21, ground := Ground.data }, { on := 15, ground := Ground.guard }], guard := some (15, false) }) (v := ?_) rfl (by kernel_rfl) (by kernel_rfl) (by kernel_rfl) (fun _ _ _ h => h) (Or.inl ⟨by kernel_rfl, ?_⟩) (by assumption) ?_
                  rotate_left
                  · (intro w hSw; (try dsimp only at hSw); go_simp; (try with_reducible rfl))
                  try simp only [Act.put, List.setIfInBounds_toArray, List.set_cons_zero, List.set_cons_succ]
                  refine wpAnyH_take (i := 23) (oi := { dst := some 84, op := Op.pick (Operand.tmp 76) (Operand.const (Value.bool true)) (Operand.tmp 83), type := 4, pos := "law.go:211", after := #[{ on := 15, ground := Ground.data }, { on := 22, ground := Ground.data }, { on := 9, ground := Ground.guard }], guard := some (9, true) }) (v := ?_) rfl (by kernel_rfl) (by kernel_rfl) (by kernel_rfl) (fun _ _ _ h => h) (Or.inl ⟨by kernel_rfl, ?_⟩) (by assumption) ?_
                  rotate_left
                  · (intro w hSw; (try dsimp only at hSw); go_simp; (try with_reducible rfl))
                  try simp only [Act.put, List.setIfInBounds_toArray, List.set_cons_zero, List.set_cons_succ]
                  refine wpAnyH_take (i := 24) (oi := { dst := some 85, op := Op.pick (Operand.tmp 70) (Operand.tmp 84) (Operand.const (Value.bool false)), type := 4, pos := "law.go:211", after := #[{ on := 9, ground := Ground.data }, { on := 23, ground := Ground.data }, { on := 5, ground := Ground.guard }], guard := some (5, false) }) (v := ?_) rfl (by kernel_rfl) (by kernel_rfl) (by kernel_rfl) (fun _ _ _ h => h) (Or.inl ⟨by kernel_rfl, ?_⟩) (by assumption) ?_
                  rotate_left
                  · (intro w hSw; (try dsimp only at hSw); go_simp; (try with_reducible rfl))
                  try simp only [Act.put, List.setIfInBounds_toArray, List.set_cons_zero, List.set_cons_succ]
                  refine wpAnyH_take (i := 25) (oi := { dst := some 86, op := Op.pick (Operand.tmp 66) (Operand.const (Value.bool true)) (Operand.tmp 85), type := 4, pos := "law.go:211", after := #[{ on := 5, ground := Ground.data }, { on := 24, ground := Ground.data }], guard := none }) (v := ?_) rfl (by kernel_rfl) (by kernel_rfl) (by kernel_rfl) (fun _ _ _ h => h) (Or.inl ⟨by kernel_rfl, ?_⟩) (by assumption) ?_
                  rotate_left
                  · (intro w hSw; (try dsimp only at hSw); go_simp; (try with_reducible rfl))
                  try simp only [Act.put, List.setIfInBounds_toArray, List.set_cons_zero, List.set_cons_succ]
                  refine wpAnyH_done (by kernel_rfl) ?_ _
                  have hbx := hHeld.2.2
                  go_wp2_with fail
                  go_meet
                  exact ⟨rfl, hbx.box⟩
                · skip
                  have te : (unTE k i == 0) = true := by simpa using hE
                  have HU := Lib.hid (unE_of hE)
                  have tv : (unTV k i == 3) = true := by simpa using hT
                  have t3 : (i != 3) = false := by simpa using unT3 hE hT
                  clear hE hT
                  refine wp_region_held_drew (S := (fun w' => w'.cell? ⟨X, 0, none⟩ = some (.int .i64 (unTV k i)) ∧ w'.cell? ⟨X, 1, none⟩ = some (.int .i64 (unTE k i)) ∧ (YZ w t0 t1 v0 v1 X X (.int .i64 (unTV k i)) (.int .i64 (unTE k i)) (.int .i64 (unTV k i)) (.int .i64 (unTE k i)) w'))) (by kernel_rfl) ?_ (fun hHeld => ?_)
                  · (try dsimp only); (refine YZ.sx ?_; first | assumption | (with_reducible apply YZ.drew; assumption))
                  refine wpAnyH_take (i := 0) (oi := { dst := some 61, op := Op.load 44 (Operand.tmp 10), type := 44, pos := "law.go:211", after := #[], guard := none }) (v := ?_) rfl (by kernel_rfl) (by kernel_rfl) (by kernel_rfl) (fun _ _ _ h => h) (Or.inl ⟨by kernel_rfl, ?_⟩) (by assumption) ?_
                  rotate_left
                  · (intro w hSw; (try dsimp only at hSw); go_simp; (try with_reducible rfl))
                  try simp only [Act.put, List.setIfInBounds_toArray, List.set_cons_zero, List.set_cons_succ]
                  refine wpAnyH_take (i := 1) (oi := { dst := some 62, op := Op.move (Operand.tmp 8), type := 3, pos := "law.go:211", after := #[], guard := none }) (v := ?_) rfl (by kernel_rfl) (by kernel_rfl) (by kernel_rfl) (fun _ _ _ h => h) (Or.inl ⟨by kernel_rfl, ?_⟩) (by assumption) ?_
                  rotate_left
                  · (intro w hSw; (try dsimp only at hSw); go_simp; (try with_reducible rfl))
                  try simp only [Act.put, List.setIfInBounds_toArray, List.set_cons_zero, List.set_cons_succ]
                  refine wpAnyH_take (i := 2) (oi := { dst := some 63, op := Op.move (Operand.tmp 9), type := 3, pos := "law.go:211", after := #[], guard := none }) (v := ?_) rfl (by kernel_rfl) (by kernel_rfl) (by kernel_rfl) (fun _ _ _ h => h) (Or.inl ⟨by kernel_rfl, ?_⟩) (by assumption) ?_
                  rotate_left
                  · (intro w hSw; (try dsimp only at hSw); go_simp; (try with_reducible rfl))
                  try simp only [Act.put, List.setIfInBounds_toArray, List.set_cons_zero, List.set_cons_succ]
                  refine wpAnyH_ready (rs := [3]) (by kernel_rfl) (by simp) ?_
                  refine AllReadyH.cons (o := { dst := some 64, op := Op.call { callee := Callee.value (Operand.func 22), args := #[Operand.tmp 62, Operand.tmp 63], argTypes := #[3, 3] }, type := 44, pos := "law.go:211", after := #[{ on := 1, ground := Ground.data }, { on := 2, ground := Ground.data }], guard := none }) rfl (fun K hK => ?_) AllReadyH.nil
                  go_simp
                  (go_at_call 22; refine (UnTypeIn_y k i hHeld.2.2).mono ?_; rintro e w' ⟨rfl, hyz'⟩)
                  try go_wp2_with fail
                  refine hK.out _ _ ?_ (fun hHeld => ?_)
                  · (try dsimp only); (refine YZ.sx ?_; first | assumption | (with_reducible apply YZ.drew; assumption))
                  clear hK K
                  try simp only [Act.put, List.setIfInBounds_toArray, List.set_cons_zero, List.set_cons_succ]
                  refine wpAnyH_take (i := 4) (oi := { dst := some 65, op := Op.binOp BinOp.neq 44 (Operand.tmp 61) (Operand.tmp 64) 44, type := 4, pos := "law.go:211", after := #[{ on := 0, ground := Ground.data }, { on := 3, ground := Ground.data }], guard := none }) (v := ?_) rfl (by kernel_rfl) (by kernel_rfl) (by kernel_rfl) (fun _ _ _ h => h) (Or.inl ⟨by kernel_rfl, ?_⟩) (by assumption) ?_
                  rotate_left
                  · (intro w hSw; (try dsimp only at hSw); go_simp; (try with_reducible rfl))
                  try simp only [Act.put, List.setIfInBounds_toArray, List.set_cons_zero, List.set_cons_succ]
                  refine wpAnyH_take (i := 5) (oi := { dst := some 66, op := Op.move (Operand.tmp 65), type := 4, pos := "law.go:211", after := #[{ on := 4, ground := Ground.data }, { on := 3, ground := Ground.chain }], guard := none }) (v := ?_) rfl (by kernel_rfl) (by kernel_rfl) (by kernel_rfl) (fun _ _ _ h => h) (Or.inl ⟨by kernel_rfl, ?_⟩) (by assumption) ?_
                  rotate_left
                  · (intro w hSw; (try dsimp only at hSw); go_simp; (try with_reducible rfl))
                  try simp only [Act.put, List.setIfInBounds_toArray, List.set_cons_zero, List.set_cons_succ]
                  refine wpAnyH_take (i := 6) (oi := { dst := some 67, op := Op.fieldAddr 44 (Operand.tmp 10) 1, type := 0, pos := "law.go:211", after := #[{ on := 5, ground := Ground.guard }], guard := some (5, false) }) (v := ?_) rfl (by kernel_rfl) (by kernel_rfl) (by kernel_rfl) (fun _ _ _ h => h) (Or.inl ⟨by kernel_rfl, ?_⟩) (by assumption) ?_
                  rotate_left
                  · (intro w hSw; (try dsimp only at hSw); go_simp; (try with_reducible rfl))
                  try simp only [Act.put, List.setIfInBounds_toArray, List.set_cons_zero, List.set_cons_succ]
                  refine wpAnyH_take (i := 7) (oi := { dst := some 68, op := Op.load 23 (Operand.tmp 67), type := 23, pos := "law.go:211", after := #[{ on := 6, ground := Ground.data }, { on := 5, ground := Ground.guard }], guard := some (5, false) }) (v := ?_) rfl (by kernel_rfl) (by kernel_rfl) (by kernel_rfl) (fun _ _ _ h => h) (Or.inl ⟨by kernel_rfl, ?_⟩) (by assumption) ?_
                  rotate_left
                  · (intro w hSw; (try dsimp only at hSw); go_simp; (try with_reducible rfl))
                  try simp only [Act.put, List.setIfInBounds_toArray, List.set_cons_zero, List.set_cons_succ]
                  refine wpAnyH_take (i := 8) (oi := { dst := some 69, op := Op.binOp BinOp.eql 23 (Operand.tmp 68) (Operand.const (Value.int IntKind.i64 0)) 23, type := 4, pos := "law.go:211", after := #[{ on := 7, ground := Ground.data }, { on := 5, ground := Ground.guard }], guard := some (5, false) }) (v := ?_) rfl (by kernel_rfl) (by kernel_rfl) (by kernel_rfl) (fun _ _ _ h => h) (Or.inl ⟨by kernel_rfl, ?_⟩) (by assumption) ?_
                  rotate_left
                  · (intro w hSw; (try dsimp only at hSw); go_simp; (try with_reducible rfl))
                  try simp only [Act.put, List.setIfInBounds_toArray, List.set_cons_zero, List.set_cons_succ]
                  refine wpAnyH_take (i := 9) (oi := { dst := some 70, op := Op.move (Operand.tmp 69), type := 4, pos := "law.go:211", after := #[{ on := 8, ground := Ground.data }, { on := 5, ground := Ground.chain }, { on := 5, ground := Ground.guard }], guard := some (5, false) }) (v := ?_) rfl (by kernel_rfl) (by kernel_rfl) (by kernel_rfl) (fun _ _ _ h => h) (Or.inl ⟨by kernel_rfl, ?_⟩) (by assumption) ?_
                  rotate_left
                  · (intro w hSw; (try dsimp only at hSw); go_simp; (try with_reducible rfl))
                  try simp only [Act.put, List.setIfInBounds_toArray, List.set_cons_zero, List.set_cons_succ]
                  refine wpAnyH_take (i := 10) (oi := { dst := some 71, op := Op.move (Operand.tmp 8), type := 3, pos := "law.go:211", after := #[{ on := 9, ground := Ground.guard }], guard := some (9, true) }) (v := ?_) rfl (by kernel_rfl) (by kernel_rfl) (by kernel_rfl) (fun _ _ _ h => h) (Or.inl ⟨by kernel_rfl, ?_⟩) (by assumption) ?_
                  rotate_left
                  · (intro w hSw; (try dsimp only at hSw); go_simp; (try with_reducible rfl))
                  try simp only [Act.put, List.setIfInBounds_toArray, List.set_cons_zero, List.set_cons_succ]
                  refine wpAnyH_take (i := 11) (oi := { dst := some 72, op := Op.move (Operand.tmp 11), type := 21, pos := "law.go:211", after := #[{ on := 9, ground := Ground.guard }], guard := some (9, true) }) (v := ?_) rfl (by kernel_rfl) (by kernel_rfl) (by kernel_rfl) (fun _ _ _ h => h) (Or.inl ⟨by kernel_rfl, ?_⟩) (by assumption) ?_
                  rotate_left
                  · (intro w hSw; (try dsimp only at hSw); go_simp; (try with_reducible rfl))
                  try simp only [Act.put, List.setIfInBounds_toArray, List.set_cons_zero, List.set_cons_succ]
                  refine wpAnyH_ready (rs := [12]) (by kernel_rfl) (by simp) ?_
                  refine AllReadyH.cons (o := { dst := some 73, op := Op.call { callee := Callee.value (Operand.func 12), args := #[Operand.tmp 71, Operand.tmp 72], argTypes := #[3, 21] }, type := 25, pos := "law.go:211", after := #[{ on := 10, ground := Ground.data }, { on := 11, ground := Ground.data }, { on := 9, ground := Ground.chain }, { on := 9, ground := Ground.guard }], guard := some (9, true) }) rfl (fun K hK => ?_) AllReadyH.nil
                  go_simp
                  (go_at_call 12; refine (un_y0 k a hHeld.2.2 ra HU.out).mono ?_; rintro e w' ⟨rfl, hyz'⟩)
                  try go_wp2_with fail
                  refine hK.out _ _ ?_ (fun hHeld => ?_)
                  · (try dsimp only); (refine YZ.sx ?_; first | assumption | (with_reducible apply YZ.drew; assumption))
                  clear hK K
                  try simp only [Act.put, List.setIfInBounds_toArray, List.set_cons_zero, List.set_cons_succ]
                  refine wpAnyH_take (i := 13) (oi := { dst := some 74, op := Op.field 25 (Operand.tmp 73) 1, type := 23, pos := "law.go:211", after := #[{ on := 12, ground := Ground.data }, { on := 9, ground := Ground.guard }], guard := some (9, true) }) (v := ?_) rfl (by kernel_rfl) (by kernel_rfl) (by kernel_rfl) (fun _ _ _ h => h) (Or.inl ⟨by kernel_rfl, ?_⟩) (by assumption) ?_
                  rotate_left
                  · (intro w hSw; (try dsimp only at hSw); go_simp; (try with_reducible rfl))
                  try simp only [Act.put, List.setIfInBounds_toArray, List.set_cons_zero, List.set_cons_succ]
                  refine wpAnyH_take (i := 14) (oi := { dst := some 75, op := Op.binOp BinOp.neq 23 (Operand.tmp 74) (Operand.const (Value.int IntKind.i64 0)) 23, type := 4, pos := "law.go:211", after := #[{ on := 13, ground := Ground.data }, { on := 9, ground := Ground.guard }], guard := some (9, true) }) (v := ?_) rfl (by kernel_rfl) (by kernel_rfl) (by kernel_rfl) (fun _ _ _ h => h) (Or.inl ⟨by kernel_rfl, ?_⟩) (by assumption) ?_
                  rotate_left
                  · (intro w hSw; (try dsimp only at hSw); go_simp; (try with_reducible rfl))
                  try simp only [Act.put, List.setIfInBounds_toArray, List.set_cons_zero, List.set_cons_succ]
                  refine wpAnyH_take (i := 15) (oi := { dst := some 76, op := Op.move (Operand.tmp 75), type := 4, pos := "law.go:211", after := #[{ on := 14, ground := Ground.data }, { on := 12, ground := Ground.chain }, { on := 9, ground := Ground.guard }], guard := some (9, true) }) (v := ?_) rfl (by kernel_rfl) (by kernel_rfl) (by kernel_rfl) (fun _ _ _ h => h) (Or.inl ⟨by kernel_rfl, ?_⟩) (by assumption) ?_
                  rotate_left
                  · (intro w hSw; (try dsimp only at hSw); go_simp; (try with_reducible rfl))
                  try simp only [Act.put, List.setIfInBounds_toArray, List.set_cons_zero, List.set_cons_succ]
                  refine wpAnyH_take (i := 16) (oi := { dst := some 77, op := Op.fieldAddr 44 (Operand.tmp 10) 0, type := 0, pos := "law.go:211", after := #[{ on := 15, ground := Ground.guard }], guard := some (15, false) }) (v := ?_) rfl (by kernel_rfl) (by kernel_rfl) (by kernel_rfl) (fun _ _ _ h => h) (Or.inl ⟨by kernel_rfl, ?_⟩) (by assumption) ?_
                  rotate_left
                  · (intro w hSw; (try dsimp only at hSw); go_simp; (try with_reducible rfl))
                  try simp only [Act.put, List.setIfInBounds_toArray, List.set_cons_zero, List.set_cons_succ]
                  refine wpAnyH_take (i := 17) (oi := { dst := some 78, op := Op.load 3 (Operand.tmp 77), type := 3, pos := "law.go:211", after := #[{ on := 16, ground := Ground.data }, { on := 15, ground := Ground.guard }], guard := some (15, false) }) (v := ?_) rfl (by kernel_rfl) (by kernel_rfl) (by kernel_rfl) (fun _ _ _ h => h) (Or.inl ⟨by kernel_rfl, ?_⟩) (by assumption) ?_
                  rotate_left
                  · (intro w hSw; (try dsimp only at hSw); go_simp; (try with_reducible rfl))
                  try simp only [Act.put, List.setIfInBounds_toArray, List.set_cons_zero, List.set_cons_succ]
                  refine wpAnyH_take (i := 18) (oi := { dst := some 79, op := Op.binOp BinOp.eql 3 (Operand.tmp 78) (Operand.const (Value.int IntKind.i64 3)) 3, type := 4, pos := "law.go:211", after := #[{ on := 17, ground := Ground.data }, { on := 15, ground := Ground.guard }], guard := some (15, false) }) (v := ?_) rfl (by kernel_rfl) (by kernel_rfl) (by kernel_rfl) (fun _ _ _ h => h) (Or.inl ⟨by kernel_rfl, ?_⟩) (by assumption) ?_
                  rotate_left
                  · (intro w hSw; (try dsimp only at hSw); go_simp; (try with_reducible rfl))
                  try simp only [Act.put, List.setIfInBounds_toArray, List.set_cons_zero, List.set_cons_succ]
                  refine wpAnyH_take (i := 19) (oi := { dst := some 80, op := Op.move (Operand.tmp 79), type := 4, pos := "law.go:211", after := #[{ on := 18, ground := Ground.data }, { on := 15, ground := Ground.chain }, { on := 15, ground := Ground.guard }], guard := some (15, false) }) (v := ?_) rfl (by kernel_rfl) (by kernel_rfl) (by kernel_rfl) (fun _ _ _ h => h) (Or.inl ⟨by kernel_rfl, ?_⟩) (by assumption) ?_
                  rotate_left
                  · (intro w hSw; (try dsimp only at hSw); go_simp; (try with_reducible rfl))
                  try simp only [Act.put, List.setIfInBounds_toArray, List.set_cons_zero, List.set_cons_succ]
                  refine wpAnyH_take (i := 20) (oi := { dst := some 81, op := Op.move (Operand.tmp 9), type := 3, pos := "law.go:211", after := #[{ on := 19, ground := Ground.guard }], guard := some (19, true) }) (v := ?_) rfl (by kernel_rfl) (by kernel_rfl) (by kernel_rfl) (fun _ _ _ h => h) (Or.inl ⟨by kernel_rfl, ?_⟩) (by assumption) ?_
                  rotate_left
                  · (intro w hSw; (try dsimp only at hSw); go_simp; (try with_reducible rfl))
                  try simp only [Act.put, List.setIfInBounds_toArray, List.set_cons_zero, List.set_cons_succ]
                  refine wpAnyH_take (i := 21) (oi := { dst := some 82, op := Op.binOp BinOp.neq 3 (Operand.tmp 81) (Operand.const (Value.int IntKind.i64 3)) 3, type := 4, pos := "law.go:211", after := #[{ on := 20, ground := Ground.data }, { on := 19, ground := Ground.guard }], guard := some (19, true) }) (v := ?_) rfl (by kernel_rfl) (by kernel_rfl) (by kernel_rfl) (fun _ _ _ h => h) (Or.inl ⟨by kernel_rfl, ?_⟩) (by assumption) ?_
                  rotate_left
                  · (intro w hSw; (try dsimp only at hSw); go_simp; (try with_reducible rfl))
                  try simp only [Act.put, List.setIfInBounds_toArray, List.set_cons_zero, List.set_cons_succ]
                  refine wpAnyH_take (i := 22) (oi := { dst := some 83, op := Op.pick (Operand.tmp 80) (Operand.tmp 82) (Operand.const (Value.bool false)), type := 4, pos := "law.go:211", after := #[{ on := 19, ground := Ground.data }, { on := 21, ground := Ground.data }, { on := 15, ground := Ground.guard }], guard := some (15, false) }) (v := ?_) rfl (by kernel_rfl) (by kernel_rfl) (by kernel_rfl) (fun _ _ _ h => h) (Or.inl ⟨by kernel_rfl, ?_⟩) (by assumption) ?_
                  rotate_left
                  · (intro w hSw; (try dsimp only at hSw); go_simp; (try with_reducible rfl))
                  try simp only [Act.put, List.setIfInBounds_toArray, List.set_cons_zero, List.set_cons_succ]
                  refine wpAnyH_take (i := 23) (oi := { dst := some 84, op := Op.pick (Operand.tmp 76) (Operand.const (Value.bool true)) (Operand.tmp 83), type := 4, pos := "law.go:211", after := #[{ on := 15, ground := Ground.data }, { on := 22, ground := Ground.data }, { on := 9, ground := Ground.guard }], guard := some (9, true) }) (v := ?_) rfl (by kernel_rfl) (by kernel_rfl) (by kernel_rfl) (fun _ _ _ h => h) (Or.inl ⟨by kernel_rfl, ?_⟩) (by assumption) ?_
                  rotate_left
                  · (intro w hSw; (try dsimp only at hSw); go_simp; (try with_reducible rfl))
                  try simp only [Act.put, List.setIfInBounds_toArray, List.set_cons_zero, List.set_cons_succ]
                  refine wpAnyH_take (i := 24) (oi := { dst := some 85, op := Op.pick (Operand.tmp 70) (Operand.tmp 84) (Operand.const (Value.bool false)), type := 4, pos := "law.go:211", after := #[{ on := 9, ground := Ground.data }, { on := 23, ground := Ground.data }, { on := 5, ground := Ground.guard }], guard := some (5, false) }) (v := ?_) rfl (by kernel_rfl) (by kernel_rfl) (by kernel_rfl) (fun _ _ _ h => h) (Or.inl ⟨by kernel_rfl, ?_⟩) (by assumption) ?_
                  rotate_left
                  · (intro w hSw; (try dsimp only at hSw); go_simp; (try with_reducible rfl))
                  try simp only [Act.put, List.setIfInBounds_toArray, List.set_cons_zero, List.set_cons_succ]
                  refine wpAnyH_take (i := 25) (oi := { dst := some 86, op := Op.pick (Operand.tmp 66) (Operand.const (Value.bool true)) (Operand.tmp 85), type := 4, pos := "law.go:211", after := #[{ on := 5, ground := Ground.data }, { on := 24, ground := Ground.data }], guard := none }) (v := ?_) rfl (by kernel_rfl) (by kernel_rfl) (by kernel_rfl) (fun _ _ _ h => h) (Or.inl ⟨by kernel_rfl, ?_⟩) (by assumption) ?_
                  rotate_left
                  · (intro w hSw; (try dsimp only at hSw); go_simp; (try with_reducible rfl))
                  try simp only [Act.put, List.setIfInBounds_toArray, List.set_cons_zero, List.set_cons_succ]
                  refine wpAnyH_done (by kernel_rfl) ?_ _
                  have hbx := hHeld.2.2
                  go_wp2_with fail
                  go_meet
                  exact ⟨rfl, hbx.box⟩
              case rest =>
                obtain ⟨rfl, hx⟩ := hcut
                go_wp2
                go_loopw [12] (fun ji wr => ∃ j : Int, 0 ≤ j ∧ j ≤ 5 ∧ ji = .int .i64 j ∧ Box w t0 t1 v0 v1 wr) (fun ji _ => (5 - intOf ji).toNat)
                case atStart => exact ⟨0, by omega, by omega, rfl, hx⟩
                case round =>
                  obtain ⟨j, hj0, hj1, rfl, hx⟩ := hrel
                  by_cases hlj : j ≤ 4
                  · go_upto_if 98 with (go_at_call 23; refine (binType_b (w := w) (t0 := t0) (t1 := t1) (v0 := v0) (v1 := v1) k i j hx).mono ?_; rintro e w1 ⟨rfl, hx1⟩; have d1 := hx1.d1; have hsz1 := hx1.size)
                    have hyb := YB.start (.int .i64 (binTV k i j)) (.int .i64 (binTE k i j)) hx1
                    revert hyb
                    generalize (w1.alloc (.cells #[.int .i64 (binTV k i j), .int .i64 (binTE k i j)] 44)) = wq
                    generalize w1.heap.size = Y
                    intro hyb
                    have d1q := hyb.box.d1
                    go_cut [14] from 87 to 136 (fun s14 wx => ∃ b : Int, s14 = .int .i32 b ∧ I32 b ∧ (j = 3 → b = 0 ∨ b = 1) ∧ wx = wq)
                    case first =>
                      by_cases hj3 : j = 3
                      · have hj3b : (j == 3) = true := by simpa using hj3
                        have H3 := Lib.hid hj3
                        clear hj3
                        go_wp2_with fail
                        go_meet
                        exact ⟨_, rfl, bits_rng _ _ _, fun _ => and1 v1, rfl⟩
                      · have hj3b : (j == 3) = false := by simpa using hj3
                        go_wp2_with fail
                        go_meet
                        exact ⟨_, rfl, rv1, fun h => absurd h hj3, rfl⟩
                    case rest =>
                      obtain ⟨b, rfl, rb, hb01, hwc2⟩ := hcut
                      subst hwc2
                      go_wp2_with (go_at_call 14; refine (bin_yb k a b hyb ra rb).mono ?_; rintro e w3 ⟨rfl, hyb3⟩)
                      have hyz2 := YB.alloc (.int .i32 (binV k a b)) (.int .i64 (binE k)) hyb3
                      revert hyz2
                      generalize (w3.alloc (.cells #[.int .i32 (binV k a b), .int .i64 (binE k)] 25)) = wz
                      generalize w3.heap.size = Z
                      intro hyz2
                      have hyz2d := hyz2.drew
                      rcases (show ¬ binTE k i j = 0 ∨ (binTE k i j = 0 ∧ ¬ binTV k i j = 3) ∨ (binTE k i j = 0 ∧ binTV k i j = 3) by omega) with hE | ⟨hE, hT⟩ | ⟨hE, hT⟩
                      · skip
                        have te : (binTE k i j == 0) = false := by simpa using hE
                        clear hE
                        refine wp_region_held_drew (S := (fun w' => w'.cell? ⟨Y, 0, none⟩ = some (.int .i64 (binTV k i j)) ∧ w'.cell? ⟨Y, 1, none⟩ = some (.int .i64 (binTE k i j)) ∧ w'.cell? ⟨Z, 0, none⟩ = some (.int .i32 (binV k a b)) ∧ w'.cell? ⟨Z, 1, none⟩ = some (.int .i64 (binE k)) ∧ (YZ w t0 t1 v0 v1 Y Z (.int .i64 (binTV k i j)) (.int .i64 (binTE k i j)) (.int .i32 (binV k a b)) (.int .i64 (binE k)) w'))) (by kernel_rfl) ?_ (fun hHeld => ?_)
                        · (try dsimp only); (refine YZ.sy ?_; first | assumption | (with_reducible apply YZ.drew; assumption))
                        refine wpAnyH_take (i := 0) (oi := { dst := some 106, op := Op.load 44 (Operand.tmp 13), type := 44, pos := "law.go:221", after := #[], guard := none }) (v := ?_) rfl (by kernel_rfl) (by kernel_rfl) (by kernel_rfl) (fun _ _ _ h => h) (Or.inl ⟨by kernel_rfl, ?_⟩) (by assumption) ?_
                        rotate_left
                        · (intro w hSw; (try dsimp only at hSw); go_simp; (try with_reducible rfl))
                        try simp only [Act.put, List.setIfInBounds_toArray, List.set_cons_zero, List.set_cons_succ]
                        refine wpAnyH_take (i := 1) (oi := { dst := some 107, op := Op.move (Operand.tmp 8), type := 3, pos := "law.go:221", after := #[], guard := none }) (v := ?_) rfl (by kernel_rfl) (by kernel_rfl) (by kernel_rfl) (fun _ _ _ h => h) (Or.inl ⟨by kernel_rfl, ?_⟩) (by assumption) ?_
                        rotate_left
                        · (intro w hSw; (try dsimp only at hSw); go_simp; (try with_reducible rfl))
                        try simp only [Act.put, List.setIfInBounds_toArray, List.set_cons_zero, List.set_cons_succ]
                        refine wpAnyH_take (i := 2) (oi := { dst := some 108, op := Op.move (Operand.tmp 9), type := 3, pos := "law.go:221", after := #[], guard := none }) (v := ?_) rfl (by kernel_rfl) (by kernel_rfl) (by kernel_rfl) (fun _ _ _ h => h) (Or.inl ⟨by kernel_rfl, ?_⟩) (by assumption) ?_
                        rotate_left
                        · (intro w hSw; (try dsimp only at hSw); go_simp; (try with_reducible rfl))
                        try simp only [Act.put, List.setIfInBounds_toArray, List.set_cons_zero, List.set_cons_succ]
                        refine wpAnyH_take (i := 3) (oi := { dst := some 109, op := Op.move (Operand.tmp 12), type := 3, pos := "law.go:221", after := #[], guard := none }) (v := ?_) rfl (by kernel_rfl) (by kernel_rfl) (by kernel_rfl) (fun _ _ _ h => h) (Or.inl ⟨by kernel_rfl, ?_⟩) (by assumption) ?_
                        rotate_left
                        · (intro w hSw; (try dsimp only at hSw); go_simp; (try with_reducible rfl))
                        try simp only [Act.put, List.setIfInBounds_toArray, List.set_cons_zero, List.set_cons_succ]
                        refine wpAnyH_ready (rs := [4]) (by kernel_rfl) (by simp) ?_
                        refine AllReadyH.cons (o := { dst := some 110, op := Op.call { callee := Callee.value (Operand.func 24), args := #[Operand.tmp 107, Operand.tmp 108, Operand.tmp 109], argTypes := #[3, 3, 3] }, type := 44, pos := "law.go:221", after := #[{ on := 1, ground := Ground.data }, { on := 2, ground := Ground.data }, { on := 3, ground := Ground.data }], guard := none }) rfl (fun K hK => ?_) AllReadyH.nil
                        go_simp
                        (go_at_call 24; refine (BinTypeIn_y k i j hHeld.2.2.2.2).mono ?_; rintro e w' ⟨rfl, hyz'⟩)
                        try go_wp2_with fail
                        refine hK.out _ _ ?_ (fun hHeld => ?_)
                        · (try dsimp only); (refine YZ.sy ?_; first | assumption | (with_reducible apply YZ.drew; assumption))
                        clear hK K
                        try simp only [Act.put, List.setIfInBounds_toArray, List.set_cons_zero, List.set_cons_succ]
                        refine wpAnyH_take (i := 5) (oi := { dst := some 111, op := Op.binOp BinOp.neq 44 (Operand.tmp 106) (Operand.tmp 110) 44, type := 4, pos := "law.go:221", after := #[{ on := 0, ground := Ground.data }, { on := 4, ground := Ground.data }], guard := none }) (v := ?_) rfl (by kernel_rfl) (by kernel_rfl) (by kernel_rfl) (fun _ _ _ h => h) (Or.inl ⟨by kernel_rfl, ?_⟩) (by assumption) ?_
                        rotate_left
                        · (intro w hSw; (try dsimp only at hSw); go_simp; (try with_reducible rfl))
                        try simp only [Act.put, List.setIfInBounds_toArray, List.set_cons_zero, List.set_cons_succ]
                        refine wpAnyH_take (i := 6) (oi := { dst := some 112, op := Op.move (Operand.tmp 111), type := 4, pos := "law.go:221", after := #[{ on := 5, ground := Ground.data }, { on := 4, ground := Ground.chain }], guard := none }) (v := ?_) rfl (by kernel_rfl) (by kernel_rfl) (by kernel_rfl) (fun _ _ _ h => h) (Or.inl ⟨by kernel_rfl, ?_⟩) (by assumption) ?_
                        rotate_left
                        · (intro w hSw; (try dsimp only at hSw); go_simp; (try with_reducible rfl))
                        try simp only [Act.put, List.setIfInBounds_toArray, List.set_cons_zero, List.set_cons_succ]
                        refine wpAnyH_take (i := 7) (oi := { dst := some 113, op := Op.fieldAddr 44 (Operand.tmp 13) 1, type := 0, pos := "law.go:221", after := #[{ on := 6, ground := Ground.guard }], guard := some (6, false) }) (v := ?_) rfl (by kernel_rfl) (by kernel_rfl) (by kernel_rfl) (fun _ _ _ h => h) (Or.inl ⟨by kernel_rfl, ?_⟩) (by assumption) ?_
                        rotate_left
                        · (intro w hSw; (try dsimp only at hSw); go_simp; (try with_reducible rfl))
                        try simp only [Act.put, List.setIfInBounds_toArray, List.set_cons_zero, List.set_cons_succ]
                        refine wpAnyH_take (i := 8) (oi := { dst := some 114, op := Op.load 23 (Operand.tmp 113), type := 23, pos := "law.go:221", after := #[{ on := 7, ground := Ground.data }, { on := 6, ground := Ground.guard }], guard := some (6, false) }) (v := ?_) rfl (by kernel_rfl) (by kernel_rfl) (by kernel_rfl) (fun _ _ _ h => h) (Or.inl ⟨by kernel_rfl, ?_⟩) (by assumption) ?_
                        rotate_left
                        · (intro w hSw; (try dsimp only at hSw); go_simp; (try with_reducible rfl))
                        try simp only [Act.put, List.setIfInBounds_toArray, List.set_cons_zero, List.set_cons_succ]
                        refine wpAnyH_take (i := 9) (oi := { dst := some 115, op := Op.binOp BinOp.eql 23 (Operand.tmp 114) (Operand.const (Value.int IntKind.i64 0)) 23, type := 4, pos := "law.go:221", after := #[{ on := 8, ground := Ground.data }, { on := 6, ground := Ground.guard }], guard := some (6, false) }) (v := ?_) rfl (by kernel_rfl) (by kernel_rfl) (by kernel_rfl) (fun _ _ _ h => h) (Or.inl ⟨by kernel_rfl, ?_⟩) (by assumption) ?_
                        rotate_left
                        · (intro w hSw; (try dsimp only at hSw); go_simp; (try with_reducible rfl))
                        try simp only [Act.put, List.setIfInBounds_toArray, List.set_cons_zero, List.set_cons_succ]
                        refine wpAnyH_take (i := 10) (oi := { dst := some 116, op := Op.move (Operand.tmp 115), type := 4, pos := "law.go:221", after := #[{ on := 9, ground := Ground.data }, { on := 6, ground := Ground.chain }, { on := 6, ground := Ground.guard }], guard := some (6, false) }) (v := ?_) rfl (by kernel_rfl) (by kernel_rfl) (by kernel_rfl) (fun _ _ _ h => h) (Or.inl ⟨by kernel_rfl, ?_⟩) (by assumption) ?_
                        rotate_left
                        · (intro w hSw; (try dsimp only at hSw); go_simp; (try with_reducible rfl))
                        try simp only [Act.put, List.setIfInBounds_toArray, List.set_cons_zero, List.set_cons_succ]
                        refine wpAnyH_take (i := 11) (oi := { dst := some 117, op := Op.fieldAddr 25 (Operand.tmp 15) 1, type := 0, pos := "law.go:221", after := #[{ on := 10, ground := Ground.guard }], guard := some (10, true) }) (v := undef) rfl (by kernel_rfl) (by kernel_rfl) (by kernel_rfl) (fun _ _ _ h => h) (Or.inr ⟨by kernel_rfl, rfl⟩) (by assumption) ?_
                        try simp only [Act.put, List.setIfInBounds_toArray, List.set_cons_zero, List.set_cons_succ]
                        refine wpAnyH_take (i := 12) (oi := { dst := some 118, op := Op.load 23 (Operand.tmp 117), type := 23, pos := "law.go:221", after := #[{ on := 11, ground := Ground.data }, { on := 10, ground := Ground.guard }], guard := some (10, true) }) (v := undef) rfl (by kernel_rfl) (by kernel_rfl) (by kernel_rfl) (fun _ _ _ h => h) (Or.inr ⟨by kernel_rfl, rfl⟩) (by assumption) ?_
                        try simp only [Act.put, List.setIfInBounds_toArray, List.set_cons_zero, List.set_cons_succ]
                        refine wpAnyH_take (i := 13) (oi := { dst := some 119, op := Op.binOp BinOp.neq 23 (Operand.tmp 118) (Operand.const (Value.int IntKind.i64 0)) 23, type := 4, pos := "law.go:221", after := #[{ on := 12, ground := Ground.data }, { on := 10, ground := Ground.guard }], guard := some (10, true) }) (v := undef) rfl (by kernel_rfl) (by kernel_rfl) (by kernel_rfl) (fun _ _ _ h => h) (Or.inr ⟨by kernel_rfl, rfl⟩) (by assumption) ?_
                        try simp only [Act.put, List.setIfInBounds_toArray, List.set_cons_zero, List.set_cons_succ]
                        refine wpAnyH_take (i := 14) (oi := { dst := some 120, op := Op.move (Operand.tmp 119), type := 4, pos := "law.go:221", after := #[{ on := 13, ground := Ground.data }, { on := 10, ground := Ground.chain }, { on := 10, ground := Ground.guard }], guard := some (10, true) }) (v := undef) rfl (by kernel_rfl) (by kernel_rfl) (by kernel_rfl) (fun _ _ _ h => h) (Or.inr ⟨by kernel_rfl, rfl⟩) (by assumption) ?_
                        try simp only [Act.put, List.setIfInBounds_toArray, List.set_cons_zero, List.set_cons_succ]
                        refine wpAnyH_take (i := 15) (oi := { dst := some 121, op := Op.fieldAddr 44 (Operand.tmp 13) 0, type := 0, pos := "law.go:221", after := #[{ on := 14, ground := Ground.guard }], guard := some (14, false) }) (v := undef) rfl (by kernel_rfl) (by kernel_rfl) (by kernel_rfl) (fun _ _ _ h => h) (Or.inr ⟨by kernel_rfl, rfl⟩) (by assumption) ?_
                        try simp only [Act.put, List.setIfInBounds_toArray, List.set_cons_zero, List.set_cons_succ]
                        refine wpAnyH_take (i := 16) (oi := { dst := some 122, op := Op.load 3 (Operand.tmp 121), type := 3, pos := "law.go:221", after := #[{ on := 15, ground := Ground.data }, { on := 14, ground := Ground.guard }], guard := some (14, false) }) (v := undef) rfl (by kernel_rfl) (by kernel_rfl) (by kernel_rfl) (fun _ _ _ h => h) (Or.inr ⟨by kernel_rfl, rfl⟩) (by assumption) ?_
                        try simp only [Act.put, List.setIfInBounds_toArray, List.set_cons_zero, List.set_cons_succ]
                        refine wpAnyH_take (i := 17) (oi := { dst := some 123, op := Op.binOp BinOp.eql 3 (Operand.tmp 122) (Operand.const (Value.int IntKind.i64 3)) 3, type := 4, pos := "law.go:221", after := #[{ on := 16, ground := Ground.data }, { on := 14, ground := Ground.guard }], guard := some (14, false) }) (v := undef) rfl (by kernel_rfl) (by kernel_rfl) (by kernel_rfl) (fun _ _ _ h => h) (Or.inr ⟨by kernel_rfl, rfl⟩) (by assumption) ?_
                        try simp only [Act.put, List.setIfInBounds_toArray, List.set_cons_zero, List.set_cons_succ]
                        refine wpAnyH_take (i := 18) (oi := { dst := some 124, op := Op.move (Operand.tmp 123), type := 4, pos := "law.go:221", after := #[{ on := 17, ground := Ground.data }, { on := 14, ground := Ground.chain }, { on := 14, ground := Ground.guard }], guard := some (14, false) }) (v := undef) rfl (by kernel_rfl) (by kernel_rfl) (by kernel_rfl) (fun _ _ _ h => h) (Or.inr ⟨by kernel_rfl, rfl⟩) (by assumption) ?_
                        try simp only [Act.put, List.setIfInBounds_toArray, List.set_cons_zero, List.set_cons_succ]
                        refine wpAnyH_take (i := 19) (oi := { dst := some 125, op := Op.fieldAddr 25 (Operand.tmp 15) 0, type := 0, pos := "law.go:221", after := #[{ on := 18, ground := Ground.guard }], guard := some (18, true) }) (v := undef) rfl (by kernel_rfl) (by kernel_rfl) (by kernel_rfl) (fun _ _ _ h => h) (Or.inr ⟨by kernel_rfl, rfl⟩) (by assumption) ?_
                        try simp only [Act.put, List.setIfInBounds_toArray, List.set_cons_zero, List.set_cons_succ]
                        refine wpAnyH_take (i := 20) (oi := { dst := some 126, op := Op.load 21 (Operand.tmp 125), type := 21, pos := "law.go:221", after := #[{ on := 19, ground := Ground.data }, { on := 18, ground := Ground.guard }], guard := some (18, true) }) (v := undef) rfl (by kernel_rfl) (by kernel_rfl) (by kernel_rfl) (fun _ _ _ h => h) (Or.inr ⟨by kernel_rfl, rfl⟩) (by assumption) ?_
                        try simp only [Act.put, List.setIfInBounds_toArray, List.set_cons_zero, List.set_cons_succ]
                        refine wpAnyH_take (i := 21) (oi := { dst := some 127, op := Op.binOp BinOp.neq 21 (Operand.tmp 126) (Operand.const (Value.int IntKind.i32 0)) 21, type := 4, pos := "law.go:221", after := #[{ on := 20, ground := Ground.data }, { on := 18, ground := Ground.guard }], guard := some (18, true) }) (v := undef) rfl (by kernel_rfl) (by kernel_rfl) (by kernel_rfl) (fun _ _ _ h => h) (Or.inr ⟨by kernel_rfl, rfl⟩) (by assumption) ?_
                        try simp only [Act.put, List.setIfInBounds_toArray, List.set_cons_zero, List.set_cons_succ]
                        refine wpAnyH_take (i := 22) (oi := { dst := some 128, op := Op.pick (Operand.tmp 124) (Operand.tmp 127) (Operand.const (Value.bool false)), type := 4, pos := "law.go:221", after := #[{ on := 18, ground := Ground.data }, { on := 21, ground := Ground.data }, { on := 14, ground := Ground.guard }], guard := some (14, false) }) (v := undef) rfl (by kernel_rfl) (by kernel_rfl) (by kernel_rfl) (fun _ _ _ h => h) (Or.inr ⟨by kernel_rfl, rfl⟩) (by assumption) ?_
                        try simp only [Act.put, List.setIfInBounds_toArray, List.set_cons_zero, List.set_cons_succ]
                        refine wpAnyH_take (i := 23) (oi := { dst := some 129, op := Op.move (Operand.tmp 128), type := 4, pos := "law.go:221", after := #[{ on := 22, ground := Ground.data }, { on := 18, ground := Ground.chain }, { on := 14, ground := Ground.guard }], guard := some (14, false) }) (v := undef) rfl (by kernel_rfl) (by kernel_rfl) (by kernel_rfl) (fun _ _ _ h => h) (Or.inr ⟨by kernel_rfl, rfl⟩) (by assumption) ?_
                        try simp only [Act.put, List.setIfInBounds_toArray, List.set_cons_zero, List.set_cons_succ]
                        refine wpAnyH_take (i := 24) (oi := { dst := some 130, op := Op.fieldAddr 25 (Operand.tmp 15) 0, type := 0, pos := "law.go:221", after := #[{ on := 23, ground := Ground.guard }], guard := some (23, true) }) (v := undef) rfl (by kernel_rfl) (by kernel_rfl) (by kernel_rfl) (fun _ _ _ h => h) (Or.inr ⟨by kernel_rfl, rfl⟩) (by assumption) ?_
                        try simp only [Act.put, List.setIfInBounds_toArray, List.set_cons_zero, List.set_cons_succ]
                        refine wpAnyH_take (i := 25) (oi := { dst := some 131, op := Op.load 21 (Operand.tmp 130), type := 21, pos := "law.go:221", after := #[{ on := 24, ground := Ground.data }, { on := 23, ground := Ground.guard }], guard := some (23, true) }) (v := undef) rfl (by kernel_rfl) (by kernel_rfl) (by kernel_rfl) (fun _ _ _ h => h) (Or.inr ⟨by kernel_rfl, rfl⟩) (by assumption) ?_
                        try simp only [Act.put, List.setIfInBounds_toArray, List.set_cons_zero, List.set_cons_succ]
                        refine wpAnyH_take (i := 26) (oi := { dst := some 132, op := Op.binOp BinOp.neq 21 (Operand.tmp 131) (Operand.const (Value.int IntKind.i32 1)) 21, type := 4, pos := "law.go:221", after := #[{ on := 25, ground := Ground.data }, { on := 23, ground := Ground.guard }], guard := some (23, true) }) (v := undef) rfl (by kernel_rfl) (by kernel_rfl) (by kernel_rfl) (fun _ _ _ h => h) (Or.inr ⟨by kernel_rfl, rfl⟩) (by assumption) ?_
                        try simp only [Act.put, List.setIfInBounds_toArray, List.set_cons_zero, List.set_cons_succ]
                        refine wpAnyH_take (i := 27) (oi := { dst := some 133, op := Op.pick (Operand.tmp 129) (Operand.tmp 132) (Operand.const (Value.bool false)), type := 4, pos := "law.go:221", after := #[{ on := 23, ground := Ground.data }, { on := 26, ground := Ground.data }, { on := 14, ground := Ground.guard }], guard := some (14, false) }) (v := undef) rfl (by kernel_rfl) (by kernel_rfl) (by kernel_rfl) (fun _ _ _ h => h) (Or.inr ⟨by kernel_rfl, rfl⟩) (by assumption) ?_
                        try simp only [Act.put, List.setIfInBounds_toArray, List.set_cons_zero, List.set_cons_succ]
                        refine wpAnyH_take (i := 28) (oi := { dst := some 134, op := Op.pick (Operand.tmp 120) (Operand.const (Value.bool true)) (Operand.tmp 133), type := 4, pos := "law.go:221", after := #[{ on := 14, ground := Ground.data }, { on := 27, ground := Ground.data }, { on := 10, ground := Ground.guard }], guard := some (10, true) }) (v := undef) rfl (by kernel_rfl) (by kernel_rfl) (by kernel_rfl) (fun _ _ _ h => h) (Or.inr ⟨by kernel_rfl, rfl⟩) (by assumption) ?_
                        try simp only [Act.put, List.setIfInBounds_toArray, List.set_cons_zero, List.set_cons_succ]
                        refine wpAnyH_take (i := 29) (oi := { dst := some 135, op := Op.pick (Operand.tmp 116) (Operand.tmp 134) (Operand.const (Value.bool false)), type := 4, pos := "law.go:221", after := #[{ on := 10, ground := Ground.data }, { on := 28, ground := Ground.data }, { on := 6, ground := Ground.guard }], guard := some (6, false) }) (v := ?_) rfl (by kernel_rfl) (by kernel_rfl) (by kernel_rfl) (fun _ _ _ h => h) (Or.inl ⟨by kernel_rfl, ?_⟩) (by assumption) ?_
                        rotate_left
                        · (intro w hSw; (try dsimp only at hSw); go_simp; (try with_reducible rfl))
                        try simp only [Act.put, List.setIfInBounds_toArray, List.set_cons_zero, List.set_cons_succ]
                        refine wpAnyH_take (i := 30) (oi := { dst := some 136, op := Op.pick (Operand.tmp 112) (Operand.const (Value.bool true)) (Operand.tmp 135), type := 4, pos := "law.go:221", after := #[{ on := 6, ground := Ground.data }, { on := 29, ground := Ground.data }], guard := none }) (v := ?_) rfl (by kernel_rfl) (by kernel_rfl) (by kernel_rfl) (fun _ _ _ h => h) (Or.inl ⟨by kernel_rfl, ?_⟩) (by assumption) ?_
                        rotate_left
                        · (intro w hSw; (try dsimp only at hSw); go_simp; (try with_reducible rfl))
                        try simp only [Act.put, List.setIfInBounds_toArray, List.set_cons_zero, List.set_cons_succ]
                        refine wpAnyH_done (by kernel_rfl) ?_ _
                        have hbx2 := hHeld.2.2.2.2.box
                        go_wp2
                        go_roundw
                        case rel => exact ⟨j + 1, by omega, by omega, rfl, hbx2⟩
                        case measure => simp [intOf]; omega
                      · skip
                        have te : (binTE k i j == 0) = true := by simpa using hE
                        have eu : (binE k != 0) = false := by simpa using binE_of hE
                        have tv : (binTV k i j == 3) = false := by simpa using hT
                        clear hE hT
                        refine wp_region_held_drew (S := (fun w' => w'.cell? ⟨Y, 0, none⟩ = some (.int .i64 (binTV k i j)) ∧ w'.cell? ⟨Y, 1, none⟩ = some (.int .i64 (binTE k i j)) ∧ w'.cell? ⟨Z, 0, none⟩ = some (.int .i32 (binV k a b)) ∧ w'.cell? ⟨Z, 1, none⟩ = some (.int .i64 (binE k)) ∧ (YZ w t0 t1 v0 v1 Y Z (.int .i64 (binTV k i j)) (.int .i64 (binTE k i j)) (.int .i32 (binV k a b)) (.int .i64 (binE k)) w'))) (by kernel_rfl) ?_ (fun hHeld => ?_)
                        · (try dsimp only); (refine YZ.sy ?_; first | assumption | (with_reducible apply YZ.drew; assumption))
                        refine wpAnyH_take (i := 0) (oi := { dst := some 106, op := Op.load 44 (Operand.tmp 13), type := 44, pos := "law.go:221", after := #[], guard := none }) (v := ?_) rfl (by kernel_rfl) (by kernel_rfl) (by kernel_rfl) (fun _ _ _ h => h) (Or.inl ⟨by kernel_rfl, ?_⟩) (by assumption) ?_
                        rotate_left
                        · (intro w hSw; (try dsimp only at hSw); go_simp; (try with_reducible rfl))
                        try simp only [Act.put, List.setIfInBounds_toArray, List.set_cons_zero, List.set_cons_succ]
                        refine wpAnyH_take (i := 1) (oi := { dst := some 107, op := Op.move (Operand.tmp 8), type := 3, pos := "law.go:221", after := #[], guard := none }) (v := ?_) rfl (by kernel_rfl) (by kernel_rfl) (by kernel_rfl) (fun _ _ _ h => h) (Or.inl ⟨by kernel_rfl, ?_⟩) (by assumption) ?_
                        rotate_left
                        · (intro w hSw; (try dsimp only at hSw); go_simp; (try with_reducible rfl))
                        try simp only [Act.put, List.setIfInBounds_toArray, List.set_cons_zero, List.set_cons_succ]
                        refine wpAnyH_take (i := 2) (oi := { dst := some 108, op := Op.move (Operand.tmp 9), type := 3, pos := "law.go:221", after := #[], guard := none }) (v := ?_) rfl (by kernel_rfl) (by kernel_rfl) (by kernel_rfl) (fun _ _ _ h => h) (Or.inl ⟨by kernel_rfl, ?_⟩) (by assumption) ?_
                        rotate_left
                        · (intro w hSw; (try dsimp only at hSw); go_simp; (try with_reducible rfl))
                        try simp only [Act.put, List.setIfInBounds_toArray, List.set_cons_zero, List.set_cons_succ]
                        refine wpAnyH_take (i := 3) (oi := { dst := some 109, op := Op.move (Operand.tmp 12), type := 3, pos := "law.go:221", after := #[], guard := none }) (v := ?_) rfl (by kernel_rfl) (by kernel_rfl) (by kernel_rfl) (fun _ _ _ h => h) (Or.inl ⟨by kernel_rfl, ?_⟩) (by assumption) ?_
                        rotate_left
                        · (intro w hSw; (try dsimp only at hSw); go_simp; (try with_reducible rfl))
                        try simp only [Act.put, List.setIfInBounds_toArray, List.set_cons_zero, List.set_cons_succ]
                        refine wpAnyH_ready (rs := [4]) (by kernel_rfl) (by simp) ?_
                        refine AllReadyH.cons (o := { dst := some 110, op := Op.call { callee := Callee.value (Operand.func 24), args := #[Operand.tmp 107, Operand.tmp 108, Operand.tmp 109], argTypes := #[3, 3, 3] }, type := 44, pos := "law.go:221", after := #[{ on := 1, ground := Ground.data }, { on := 2, ground := Ground.data }, { on := 3, ground := Ground.data }], guard := none }) rfl (fun K hK => ?_) AllReadyH.nil
                        go_simp
                        (go_at_call 24; refine (BinTypeIn_y k i j hHeld.2.2.2.2).mono ?_; rintro e w' ⟨rfl, hyz'⟩)
                        try go_wp2_with fail
                        refine hK.out _ _ ?_ (fun hHeld => ?_)
                        · (try dsimp only); (refine YZ.sy ?_; first | assumption | (with_reducible apply YZ.drew; assumption))
                        clear hK K
                        try simp only [Act.put, List.setIfInBounds_toArray, List.set_cons_zero, List.set_cons_succ]
                        refine wpAnyH_take (i := 5) (oi := { dst := some 111, op := Op.binOp BinOp.neq 44 (Operand.tmp 106) (Operand.tmp 110) 44, type := 4, pos := "law.go:221", after := #[{ on := 0, ground := Ground.data }, { on := 4, ground := Ground.data }], guard := none }) (v := ?_) rfl (by kernel_rfl) (by kernel_rfl) (by kernel_rfl) (fun _ _ _ h => h) (Or.inl ⟨by kernel_rfl, ?_⟩) (by assumption) ?_
                        rotate_left
                        · (intro w hSw; (try dsimp only at hSw); go_simp; (try with_reducible rfl))
                        try simp only [Act.put, List.setIfInBounds_toArray, List.set_cons_zero, List.set_cons_succ]
                        refine wpAnyH_take (i := 6) (oi := { dst := some 112, op := Op.move (Operand.tmp 111), type := 4, pos := "law.go:221", after := #[{ on := 5, ground := Ground.data }, { on := 4, ground := Ground.chain }], guard := none }) (v := ?_) rfl (by kernel_rfl) (by kernel_rfl) (by kernel_rfl) (fun _ _ _ h => h) (Or.inl ⟨by kernel_rfl, ?_⟩) (by assumption) ?_
                        rotate_left
                        · (intro w hSw; (try dsimp only at hSw); go_simp; (try with_reducible rfl))
                        try simp only [Act.put, List.setIfInBounds_toArray, List.set_cons_zero, List.set_cons_succ]
                        refine wpAnyH_take (i := 7) (oi := { dst := some 113, op := Op.fieldAddr 44 (Operand.tmp 13) 1, type := 0, pos := "law.go:221", after := #[{ on := 6, ground := Ground.guard }], guard := some (6, false) }) (v := ?_) rfl (by kernel_rfl) (by kernel_rfl) (by kernel_rfl) (fun _ _ _ h => h) (Or.inl ⟨by kernel_rfl, ?_⟩) (by assumption) ?_
                        rotate_left
                        · (intro w hSw; (try dsimp only at hSw); go_simp; (try with_reducible rfl))
                        try simp only [Act.put, List.setIfInBounds_toArray, List.set_cons_zero, List.set_cons_succ]
                        refine wpAnyH_take (i := 8) (oi := { dst := some 114, op := Op.load 23 (Operand.tmp 113), type := 23, pos := "law.go:221", after := #[{ on := 7, ground := Ground.data }, { on := 6, ground := Ground.guard }], guard := some (6, false) }) (v := ?_) rfl (by kernel_rfl) (by kernel_rfl) (by kernel_rfl) (fun _ _ _ h => h) (Or.inl ⟨by kernel_rfl, ?_⟩) (by assumption) ?_
                        rotate_left
                        · (intro w hSw; (try dsimp only at hSw); go_simp; (try with_reducible rfl))
                        try simp only [Act.put, List.setIfInBounds_toArray, List.set_cons_zero, List.set_cons_succ]
                        refine wpAnyH_take (i := 9) (oi := { dst := some 115, op := Op.binOp BinOp.eql 23 (Operand.tmp 114) (Operand.const (Value.int IntKind.i64 0)) 23, type := 4, pos := "law.go:221", after := #[{ on := 8, ground := Ground.data }, { on := 6, ground := Ground.guard }], guard := some (6, false) }) (v := ?_) rfl (by kernel_rfl) (by kernel_rfl) (by kernel_rfl) (fun _ _ _ h => h) (Or.inl ⟨by kernel_rfl, ?_⟩) (by assumption) ?_
                        rotate_left
                        · (intro w hSw; (try dsimp only at hSw); go_simp; (try with_reducible rfl))
                        try simp only [Act.put, List.setIfInBounds_toArray, List.set_cons_zero, List.set_cons_succ]
                        refine wpAnyH_take (i := 10) (oi := { dst := some 116, op := Op.move (Operand.tmp 115), type := 4, pos := "law.go:221", after := #[{ on := 9, ground := Ground.data }, { on := 6, ground := Ground.chain }, { on := 6, ground := Ground.guard }], guard := some (6, false) }) (v := ?_) rfl (by kernel_rfl) (by kernel_rfl) (by kernel_rfl) (fun _ _ _ h => h) (Or.inl ⟨by kernel_rfl, ?_⟩) (by assumption) ?_
                        rotate_left
                        · (intro w hSw; (try dsimp only at hSw); go_simp; (try with_reducible rfl))
                        try simp only [Act.put, List.setIfInBounds_toArray, List.set_cons_zero, List.set_cons_succ]
                        refine wpAnyH_take (i := 11) (oi := { dst := some 117, op := Op.fieldAddr 25 (Operand.tmp 15) 1, type := 0, pos := "law.go:221", after := #[{ on := 10, ground := Ground.guard }], guard := some (10, true) }) (v := ?_) rfl (by kernel_rfl) (by kernel_rfl) (by kernel_rfl) (fun _ _ _ h => h) (Or.inl ⟨by kernel_rfl, ?_⟩) (by assumption) ?_
                        rotate_left
                        · (intro w hSw; (try dsimp only at hSw); go_simp; (try with_reducible rfl))
                        try simp only [Act.put, List.setIfInBounds_toArray, List.set_cons_zero, List.set_cons_succ]
                        refine wpAnyH_take (i := 12) (oi := { dst := some 118, op := Op.load 23 (Operand.tmp 117), type := 23, pos := "law.go:221", after := #[{ on := 11, ground := Ground.data }, { on := 10, ground := Ground.guard }], guard := some (10, true) }) (v := ?_) rfl (by kernel_rfl) (by kernel_rfl) (by kernel_rfl) (fun _ _ _ h => h) (Or.inl ⟨by kernel_rfl, ?_⟩) (by assumption) ?_
                        rotate_left
                        · (intro w hSw; (try dsimp only at hSw); go_simp; (try with_reducible rfl))
                        try simp only [Act.put, List.setIfInBounds_toArray, List.set_cons_zero, List.set_cons_succ]
                        refine wpAnyH_take (i := 13) (oi := { dst := some 119, op := Op.binOp BinOp.neq 23 (Operand.tmp 118) (Operand.const (Value.int IntKind.i64 0)) 23, type := 4, pos := "law.go:221", after := #[{ on := 12, ground := Ground.data }, { on := 10, ground := Ground.guard }], guard := some (10, true) }) (v := ?_) rfl (by kernel_rfl) (by kernel_rfl) (by kernel_rfl) (fun _ _ _ h => h) (Or.inl ⟨by kernel_rfl, ?_⟩) (by assumption) ?_
                        rotate_left
                        · (intro w hSw; (try dsimp only at hSw); go_simp; (try with_reducible rfl))
                        try simp only [Act.put, List.setIfInBounds_toArray, List.set_cons_zero, List.set_cons_succ]
                        refine wpAnyH_take (i := 14) (oi := { dst := some 120, op := Op.move (Operand.tmp 119), type := 4, pos := "law.go:221", after := #[{ on := 13, ground := Ground.data }, { on := 10, ground := Ground.chain }, { on := 10, ground := Ground.guard }], guard := some (10, true) }) (v := ?_) rfl (by kernel_rfl) (by kernel_rfl) (by kernel_rfl) (fun _ _ _ h => h) (Or.inl ⟨by kernel_rfl, ?_⟩) (by assumption) ?_
                        rotate_left
                        · (intro w hSw; (try dsimp only at hSw); go_simp; (try with_reducible rfl))
                        try simp only [Act.put, List.setIfInBounds_toArray, List.set_cons_zero, List.set_cons_succ]
                        refine wpAnyH_take (i := 15) (oi := { dst := some 121, op := Op.fieldAddr 44 (Operand.tmp 13) 0, type := 0, pos := "law.go:221", after := #[{ on := 14, ground := Ground.guard }], guard := some (14, false) }) (v := ?_) rfl (by kernel_rfl) (by kernel_rfl) (by kernel_rfl) (fun _ _ _ h => h) (Or.inl ⟨by kernel_rfl, ?_⟩) (by assumption) ?_
                        rotate_left
                        · (intro w hSw; (try dsimp only at hSw); go_simp; (try with_reducible rfl))
                        try simp only [Act.put, List.setIfInBounds_toArray, List.set_cons_zero, List.set_cons_succ]
                        refine wpAnyH_take (i := 16) (oi := { dst := some 122, op := Op.load 3 (Operand.tmp 121), type := 3, pos := "law.go:221", after := #[{ on := 15, ground := Ground.data }, { on := 14, ground := Ground.guard }], guard := some (14, false) }) (v := ?_) rfl (by kernel_rfl) (by kernel_rfl) (by kernel_rfl) (fun _ _ _ h => h) (Or.inl ⟨by kernel_rfl, ?_⟩) (by assumption) ?_
                        rotate_left
                        · (intro w hSw; (try dsimp only at hSw); go_simp; (try with_reducible rfl))
                        try simp only [Act.put, List.setIfInBounds_toArray, List.set_cons_zero, List.set_cons_succ]
                        refine wpAnyH_take (i := 17) (oi := { dst := some 123, op := Op.binOp BinOp.eql 3 (Operand.tmp 122) (Operand.const (Value.int IntKind.i64 3)) 3, type := 4, pos := "law.go:221", after := #[{ on := 16, ground := Ground.data }, { on := 14, ground := Ground.guard }], guard := some (14, false) }) (v := ?_) rfl (by kernel_rfl) (by kernel_rfl) (by kernel_rfl) (fun _ _ _ h => h) (Or.inl ⟨by kernel_rfl, ?_⟩) (by assumption) ?_
                        rotate_left
                        · (intro w hSw; (try dsimp only at hSw); go_simp; (try with_reducible rfl))
                        try simp only [Act.put, List.setIfInBounds_toArray, List.set_cons_zero, List.set_cons_succ]
                        refine wpAnyH_take (i := 18) (oi := { dst := some 124, op := Op.move (Operand.tmp 123), type := 4, pos := "law.go:221", after := #[{ on := 17, ground := Ground.data }, { on := 14, ground := Ground.chain }, { on := 14, ground := Ground.guard }], guard := some (14, false) }) (v := ?_) rfl (by kernel_rfl) (by kernel_rfl) (by kernel_rfl) (fun _ _ _ h => h) (Or.inl ⟨by kernel_rfl, ?_⟩) (by assumption) ?_
                        rotate_left
                        · (intro w hSw; (try dsimp only at hSw); go_simp; (try with_reducible rfl))
                        try simp only [Act.put, List.setIfInBounds_toArray, List.set_cons_zero, List.set_cons_succ]
                        refine wpAnyH_take (i := 19) (oi := { dst := some 125, op := Op.fieldAddr 25 (Operand.tmp 15) 0, type := 0, pos := "law.go:221", after := #[{ on := 18, ground := Ground.guard }], guard := some (18, true) }) (v := undef) rfl (by kernel_rfl) (by kernel_rfl) (by kernel_rfl) (fun _ _ _ h => h) (Or.inr ⟨by kernel_rfl, rfl⟩) (by assumption) ?_
                        try simp only [Act.put, List.setIfInBounds_toArray, List.set_cons_zero, List.set_cons_succ]
                        refine wpAnyH_take (i := 20) (oi := { dst := some 126, op := Op.load 21 (Operand.tmp 125), type := 21, pos := "law.go:221", after := #[{ on := 19, ground := Ground.data }, { on := 18, ground := Ground.guard }], guard := some (18, true) }) (v := undef) rfl (by kernel_rfl) (by kernel_rfl) (by kernel_rfl) (fun _ _ _ h => h) (Or.inr ⟨by kernel_rfl, rfl⟩) (by assumption) ?_
                        try simp only [Act.put, List.setIfInBounds_toArray, List.set_cons_zero, List.set_cons_succ]
                        refine wpAnyH_take (i := 21) (oi := { dst := some 127, op := Op.binOp BinOp.neq 21 (Operand.tmp 126) (Operand.const (Value.int IntKind.i32 0)) 21, type := 4, pos := "law.go:221", after := #[{ on := 20, ground := Ground.data }, { on := 18, ground := Ground.guard }], guard := some (18, true) }) (v := undef) rfl (by kernel_rfl) (by kernel_rfl) (by kernel_rfl) (fun _ _ _ h => h) (Or.inr ⟨by kernel_rfl, rfl⟩) (by assumption) ?_
                        try simp only [Act.put, List.setIfInBounds_toArray, List.set_cons_zero, List.set_cons_succ]
                        refine wpAnyH_take (i := 22) (oi := { dst := some 128, op := Op.pick (Operand.tmp 124) (Operand.tmp 127) (Operand.const (Value.bool false)), type := 4, pos := "law.go:221", after := #[{ on := 18, ground := Ground.data }, { on := 21, ground := Ground.data }, { on := 14, ground := Ground.guard }], guard := some (14, false) }) (v := ?_) rfl (by kernel_rfl) (by kernel_rfl) (by kernel_rfl) (fun _ _ _ h => h) (Or.inl ⟨by kernel_rfl, ?_⟩) (by assumption) ?_
                        rotate_left
                        · (intro w hSw; (try dsimp only at hSw); go_simp; (try with_reducible rfl))
                        try simp only [Act.put, List.setIfInBounds_toArray, List.set_cons_zero, List.set_cons_succ]
                        refine wpAnyH_take (i := 23) (oi := { dst := some 129, op := Op.move (Operand.tmp 128), type := 4, pos := "law.go:221", after := #[{ on := 22, ground := Ground.data }, { on := 18, ground := Ground.chain }, { on := 14, ground := Ground.guard }], guard := some (14, false) }) (v := ?_) rfl (by kernel_rfl) (by kernel_rfl) (by kernel_rfl) (fun _ _ _ h => h) (Or.inl ⟨by kernel_rfl, ?_⟩) (by assumption) ?_
                        rotate_left
                        · (intro w hSw; (try dsimp only at hSw); go_simp; (try with_reducible rfl))
                        try simp only [Act.put, List.setIfInBounds_toArray, List.set_cons_zero, List.set_cons_succ]
                        refine wpAnyH_take (i := 24) (oi := { dst := some 130, op := Op.fieldAddr 25 (Operand.tmp 15) 0, type := 0, pos := "law.go:221", after := #[{ on := 23, ground := Ground.guard }], guard := some (23, true) }) (v := undef) rfl (by kernel_rfl) (by kernel_rfl) (by kernel_rfl) (fun _ _ _ h => h) (Or.inr ⟨by kernel_rfl, rfl⟩) (by assumption) ?_
                        try simp only [Act.put, List.setIfInBounds_toArray, List.set_cons_zero, List.set_cons_succ]
                        refine wpAnyH_take (i := 25) (oi := { dst := some 131, op := Op.load 21 (Operand.tmp 130), type := 21, pos := "law.go:221", after := #[{ on := 24, ground := Ground.data }, { on := 23, ground := Ground.guard }], guard := some (23, true) }) (v := undef) rfl (by kernel_rfl) (by kernel_rfl) (by kernel_rfl) (fun _ _ _ h => h) (Or.inr ⟨by kernel_rfl, rfl⟩) (by assumption) ?_
                        try simp only [Act.put, List.setIfInBounds_toArray, List.set_cons_zero, List.set_cons_succ]
                        refine wpAnyH_take (i := 26) (oi := { dst := some 132, op := Op.binOp BinOp.neq 21 (Operand.tmp 131) (Operand.const (Value.int IntKind.i32 1)) 21, type := 4, pos := "law.go:221", after := #[{ on := 25, ground := Ground.data }, { on := 23, ground := Ground.guard }], guard := some (23, true) }) (v := undef) rfl (by kernel_rfl) (by kernel_rfl) (by kernel_rfl) (fun _ _ _ h => h) (Or.inr ⟨by kernel_rfl, rfl⟩) (by assumption) ?_
                        try simp only [Act.put, List.setIfInBounds_toArray, List.set_cons_zero, List.set_cons_succ]
                        refine wpAnyH_take (i := 27) (oi := { dst := some 133, op := Op.pick (Operand.tmp 129) (Operand.tmp 132) (Operand.const (Value.bool false)), type := 4, pos := "law.go:221", after := #[{ on := 23, ground := Ground.data }, { on := 26, ground := Ground.data }, { on := 14, ground := Ground.guard }], guard := some (14, false) }) (v := ?_) rfl (by kernel_rfl) (by kernel_rfl) (by kernel_rfl) (fun _ _ _ h => h) (Or.inl ⟨by kernel_rfl, ?_⟩) (by assumption) ?_
                        rotate_left
                        · (intro w hSw; (try dsimp only at hSw); go_simp; (try with_reducible rfl))
                        try simp only [Act.put, List.setIfInBounds_toArray, List.set_cons_zero, List.set_cons_succ]
                        refine wpAnyH_take (i := 28) (oi := { dst := some 134, op := Op.pick (Operand.tmp 120) (Operand.const (Value.bool true)) (Operand.tmp 133), type := 4, pos := "law.go:221", after := #[{ on := 14, ground := Ground.data }, { on := 27, ground := Ground.data }, { on := 10, ground := Ground.guard }], guard := some (10, true) }) (v := ?_) rfl (by kernel_rfl) (by kernel_rfl) (by kernel_rfl) (fun _ _ _ h => h) (Or.inl ⟨by kernel_rfl, ?_⟩) (by assumption) ?_
                        rotate_left
                        · (intro w hSw; (try dsimp only at hSw); go_simp; (try with_reducible rfl))
                        try simp only [Act.put, List.setIfInBounds_toArray, List.set_cons_zero, List.set_cons_succ]
                        refine wpAnyH_take (i := 29) (oi := { dst := some 135, op := Op.pick (Operand.tmp 116) (Operand.tmp 134) (Operand.const (Value.bool false)), type := 4, pos := "law.go:221", after := #[{ on := 10, ground := Ground.data }, { on := 28, ground := Ground.data }, { on := 6, ground := Ground.guard }], guard := some (6, false) }) (v := ?_) rfl (by kernel_rfl) (by kernel_rfl) (by kernel_rfl) (fun _ _ _ h => h) (Or.inl ⟨by kernel_rfl, ?_⟩) (by assumption) ?_
                        rotate_left
                        · (intro w hSw; (try dsimp only at hSw); go_simp; (try with_reducible rfl))
                        try simp only [Act.put, List.setIfInBounds_toArray, List.set_cons_zero, List.set_cons_succ]
                        refine wpAnyH_take (i := 30) (oi := { dst := some 136, op := Op.pick (Operand.tmp 112) (Operand.const (Value.bool true)) (Operand.tmp 135), type := 4, pos := "law.go:221", after := #[{ on := 6, ground := Ground.data }, { on := 29, ground := Ground.data }], guard := none }) (v := ?_) rfl (by kernel_rfl) (by kernel_rfl) (by kernel_rfl) (fun _ _ _ h => h) (Or.inl ⟨by kernel_rfl, ?_⟩) (by assumption) ?_
                        rotate_left
                        · (intro w hSw; (try dsimp only at hSw); go_simp; (try with_reducible rfl))
                        try simp only [Act.put, List.setIfInBounds_toArray, List.set_cons_zero, List.set_cons_succ]
                        refine wpAnyH_done (by kernel_rfl) ?_ _
                        have hbx2 := hHeld.2.2.2.2.box
                        go_wp2
                        go_roundw
                        case rel => exact ⟨j + 1, by omega, by omega, rfl, hbx2⟩
                        case measure => simp [intOf]; omega
                      · rcases bin01 hE hT ha01 hb01 with hV | hV
                        · skip
                          have te : (binTE k i j == 0) = true := by simpa using hE
                          have eu : (binE k != 0) = false := by simpa using binE_of hE
                          have tv : (binTV k i j == 3) = true := by simpa using hT
                          have q0 : (binV k a b != 0) = false := by rw [hV]; rfl
                          have q1 : (binV k a b != 1) = true := by rw [hV]; rfl
                          clear hE hT hV
                          refine wp_region_held_drew (S := (fun w' => w'.cell? ⟨Y, 0, none⟩ = some (.int .i64 (binTV k i j)) ∧ w'.cell? ⟨Y, 1, none⟩ = some (.int .i64 (binTE k i j)) ∧ w'.cell? ⟨Z, 0, none⟩ = some (.int .i32 (binV k a b)) ∧ w'.cell? ⟨Z, 1, none⟩ = some (.int .i64 (binE k)) ∧ (YZ w t0 t1 v0 v1 Y Z (.int .i64 (binTV k i j)) (.int .i64 (binTE k i j)) (.int .i32 (binV k a b)) (.int .i64 (binE k)) w'))) (by kernel_rfl) ?_ (fun hHeld => ?_)
                          · (try dsimp only); (refine YZ.sy ?_; first | assumption | (with_reducible apply YZ.drew; assumption))
                          refine wpAnyH_take (i := 0) (oi := { dst := some 106, op := Op.load 44 (Operand.tmp 13), type := 44, pos := "law.go:221", after := #[], guard := none }) (v := ?_) rfl (by kernel_rfl) (by kernel_rfl) (by kernel_rfl) (fun _ _ _ h => h) (Or.inl ⟨by kernel_rfl, ?_⟩) (by assumption) ?_
                          rotate_left
                          · (intro w hSw; (try dsimp only at hSw); go_simp; (try with_reducible rfl))
                          try simp only [Act.put, List.setIfInBounds_toArray, List.set_cons_zero, List.set_cons_succ]
                          refine wpAnyH_take (i := 1) (oi := { dst := some 107, op := Op.move (Operand.tmp 8), type := 3, pos := "law.go:221", after := #[], guard := none }) (v := ?_) rfl (by kernel_rfl) (by kernel_rfl) (by kernel_rfl) (fun _ _ _ h => h) (Or.inl ⟨by kernel_rfl, ?_⟩) (by assumption) ?_
                          rotate_left
                          · (intro w hSw; (try dsimp only at hSw); go_simp; (try with_reducible rfl))
                          try simp only [Act.put, List.setIfInBounds_toArray, List.set_cons_zero, List.set_cons_succ]
                          refine wpAnyH_take (i := 2) (oi := { dst := some 108, op := Op.move (Operand.tmp 9), type := 3, pos := "law.go:221", after := #[], guard := none }) (v := ?_) rfl (by kernel_rfl) (by kernel_rfl) (by kernel_rfl) (fun _ _ _ h => h) (Or.inl ⟨by kernel_rfl, ?_⟩) (by assumption) ?_
                          rotate_left
                          · (intro w hSw; (try dsimp only at hSw); go_simp; (try with_reducible rfl))
                          try simp only [Act.put, List.setIfInBounds_toArray, List.set_cons_zero, List.set_cons_succ]
                          refine wpAnyH_take (i := 3) (oi := { dst := some 109, op := Op.move (Operand.tmp 12), type := 3, pos := "law.go:221", after := #[], guard := none }) (v := ?_) rfl (by kernel_rfl) (by kernel_rfl) (by kernel_rfl) (fun _ _ _ h => h) (Or.inl ⟨by kernel_rfl, ?_⟩) (by assumption) ?_
                          rotate_left
                          · (intro w hSw; (try dsimp only at hSw); go_simp; (try with_reducible rfl))
                          try simp only [Act.put, List.setIfInBounds_toArray, List.set_cons_zero, List.set_cons_succ]
                          refine wpAnyH_ready (rs := [4]) (by kernel_rfl) (by simp) ?_
                          refine AllReadyH.cons (o := { dst := some 110, op := Op.call { callee := Callee.value (Operand.func 24), args := #[Operand.tmp 107, Operand.tmp 108, Operand.tmp 109], argTypes := #[3, 3, 3] }, type := 44, pos := "law.go:221", after := #[{ on := 1, ground := Ground.data }, { on := 2, ground := Ground.data }, { on := 3, ground := Ground.data }], guard := none }) rfl (fun K hK => ?_) AllReadyH.nil
                          go_simp
                          (go_at_call 24; refine (BinTypeIn_y k i j hHeld.2.2.2.2).mono ?_; rintro e w' ⟨rfl, hyz'⟩)
                          try go_wp2_with fail
                          refine hK.out _ _ ?_ (fun hHeld => ?_)
                          · (try dsimp only); (refine YZ.sy ?_; first | assumption | (with_reducible apply YZ.drew; assumption))
                          clear hK K
                          try simp only [Act.put, List.setIfInBounds_toArray, List.set_cons_zero, List.set_cons_succ]
                          refine wpAnyH_take (i := 5) (oi := { dst := some 111, op := Op.binOp BinOp.neq 44 (Operand.tmp 106) (Operand.tmp 110) 44, type := 4, pos := "law.go:221", after := #[{ on := 0, ground := Ground.data }, { on := 4, ground := Ground.data }], guard := none }) (v := ?_) rfl (by kernel_rfl) (by kernel_rfl) (by kernel_rfl) (fun _ _ _ h => h) (Or.inl ⟨by kernel_rfl, ?_⟩) (by assumption) ?_
                          rotate_left
                          · (intro w hSw; (try dsimp only at hSw); go_simp; (try with_reducible rfl))
                          try simp only [Act.put, List.setIfInBounds_toArray, List.set_cons_zero, List.set_cons_succ]
                          refine wpAnyH_take (i := 6) (oi := { dst := some 112, op := Op.move (Operand.tmp 111), type := 4, pos := "law.go:221", after := #[{ on := 5, ground := Ground.data }, { on := 4, ground := Ground.chain }], guard := none }) (v := ?_) rfl (by kernel_rfl) (by kernel_rfl) (by kernel_rfl) (fun _ _ _ h => h) (Or.inl ⟨by kernel_rfl, ?_⟩) (by assumption) ?_
                          rotate_left
                          · (intro w hSw; (try dsimp only at hSw); go_simp; (try with_reducible rfl))
                          try simp only [Act.put, List.setIfInBounds_toArray, List.set_cons_zero, List.set_cons_succ]
                          refine wpAnyH_take (i := 7) (oi := { dst := some 113, op := Op.fieldAddr 44 (Operand.tmp 13) 1, type := 0, pos := "law.go:221", after := #[{ on := 6, ground := Ground.guard }], guard := some (6, false) }) (v := ?_) rfl (by kernel_rfl) (by kernel_rfl) (by kernel_rfl) (fun _ _ _ h => h) (Or.inl ⟨by kernel_rfl, ?_⟩) (by assumption) ?_
                          rotate_left
                          · (intro w hSw; (try dsimp only at hSw); go_simp; (try with_reducible rfl))
                          try simp only [Act.put, List.setIfInBounds_toArray, List.set_cons_zero, List.set_cons_succ]
                          refine wpAnyH_take (i := 8) (oi := { dst := some 114, op := Op.load 23 (Operand.tmp 113), type := 23, pos := "law.go:221", after := #[{ on := 7, ground := Ground.data }, { on := 6, ground := Ground.guard }], guard := some (6, false) }) (v := ?_) rfl (by kernel_rfl) (by kernel_rfl) (by kernel_rfl) (fun _ _ _ h => h) (Or.inl ⟨by kernel_rfl, ?_⟩) (by assumption) ?_
                          rotate_left
                          · (intro w hSw; (try dsimp only at hSw); go_simp; (try with_reducible rfl))
                          try simp only [Act.put, List.setIfInBounds_toArray, List.set_cons_zero, List.set_cons_succ]
                          refine wpAnyH_take (i := 9) (oi := { dst := some 115, op := Op.binOp BinOp.eql 23 (Operand.tmp 114) (Operand.const (Value.int IntKind.i64 0)) 23, type := 4, pos := "law.go:221", after := #[{ on := 8, ground := Ground.data }, { on := 6, ground := Ground.guard }], guard := some (6, false) }) (v := ?_) rfl (by kernel_rfl) (by kernel_rfl) (by kernel_rfl) (fun _ _ _ h => h) (Or.inl ⟨by kernel_rfl, ?_⟩) (by assumption) ?_
                          rotate_left
                          · (intro w hSw; (try dsimp only at hSw); go_simp; (try with_reducible rfl))
                          try simp only [Act.put, List.setIfInBounds_toArray, List.set_cons_zero, List.set_cons_succ]
                          refine wpAnyH_take (i := 10) (oi := { dst := some 116, op := Op.move (Operand.tmp 115), type := 4, pos := "law.go:221", after := #[{ on := 9, ground := Ground.data }, { on := 6, ground := Ground.chain }, { on := 6, ground := Ground.guard }], guard := some (6, false) }) (v := ?_) rfl (by kernel_rfl) (by kernel_rfl) (by kernel_rfl) (fun _ _ _ h => h) (Or.inl ⟨by kernel_rfl, ?_⟩) (by assumption) ?_
                          rotate_left
                          · (intro w hSw; (try dsimp only at hSw); go_simp; (try with_reducible rfl))
                          try simp only [Act.put, List.setIfInBounds_toArray, List.set_cons_zero, List.set_cons_succ]
                          refine wpAnyH_take (i := 11) (oi := { dst := some 117, op := Op.fieldAddr 25 (Operand.tmp 15) 1, type := 0, pos := "law.go:221", after := #[{ on := 10, ground := Ground.guard }], guard := some (10, true) }) (v := ?_) rfl (by kernel_rfl) (by kernel_rfl) (by kernel_rfl) (fun _ _ _ h => h) (Or.inl ⟨by kernel_rfl, ?_⟩) (by assumption) ?_
                          rotate_left
                          · (intro w hSw; (try dsimp only at hSw); go_simp; (try with_reducible rfl))
                          try simp only [Act.put, List.setIfInBounds_toArray, List.set_cons_zero, List.set_cons_succ]
                          refine wpAnyH_take (i := 12) (oi := { dst := some 118, op := Op.load 23 (Operand.tmp 117), type := 23, pos := "law.go:221", after := #[{ on := 11, ground := Ground.data }, { on := 10, ground := Ground.guard }], guard := some (10, true) }) (v := ?_) rfl (by kernel_rfl) (by kernel_rfl) (by kernel_rfl) (fun _ _ _ h => h) (Or.inl ⟨by kernel_rfl, ?_⟩) (by assumption) ?_
                          rotate_left
                          · (intro w hSw; (try dsimp only at hSw); go_simp; (try with_reducible rfl))
                          try simp only [Act.put, List.setIfInBounds_toArray, List.set_cons_zero, List.set_cons_succ]
                          refine wpAnyH_take (i := 13) (oi := { dst := some 119, op := Op.binOp BinOp.neq 23 (Operand.tmp 118) (Operand.const (Value.int IntKind.i64 0)) 23, type := 4, pos := "law.go:221", after := #[{ on := 12, ground := Ground.data }, { on := 10, ground := Ground.guard }], guard := some (10, true) }) (v := ?_) rfl (by kernel_rfl) (by kernel_rfl) (by kernel_rfl) (fun _ _ _ h => h) (Or.inl ⟨by kernel_rfl, ?_⟩) (by assumption) ?_
                          rotate_left
                          · (intro w hSw; (try dsimp only at hSw); go_simp; (try with_reducible rfl))
                          try simp only [Act.put, List.setIfInBounds_toArray, List.set_cons_zero, List.set_cons_succ]
                          refine wpAnyH_take (i := 14) (oi := { dst := some 120, op := Op.move (Operand.tmp 119), type := 4, pos := "law.go:221", after := #[{ on := 13, ground := Ground.data }, { on := 10, ground := Ground.chain }, { on := 10, ground := Ground.guard }], guard := some (10, true) }) (v := ?_) rfl (by kernel_rfl) (by kernel_rfl) (by kernel_rfl) (fun _ _ _ h => h) (Or.inl ⟨by kernel_rfl, ?_⟩) (by assumption) ?_
                          rotate_left
                          · (intro w hSw; (try dsimp only at hSw); go_simp; (try with_reducible rfl))
                          try simp only [Act.put, List.setIfInBounds_toArray, List.set_cons_zero, List.set_cons_succ]
                          refine wpAnyH_take (i := 15) (oi := { dst := some 121, op := Op.fieldAddr 44 (Operand.tmp 13) 0, type := 0, pos := "law.go:221", after := #[{ on := 14, ground := Ground.guard }], guard := some (14, false) }) (v := ?_) rfl (by kernel_rfl) (by kernel_rfl) (by kernel_rfl) (fun _ _ _ h => h) (Or.inl ⟨by kernel_rfl, ?_⟩) (by assumption) ?_
                          rotate_left
                          · (intro w hSw; (try dsimp only at hSw); go_simp; (try with_reducible rfl))
                          try simp only [Act.put, List.setIfInBounds_toArray, List.set_cons_zero, List.set_cons_succ]
                          refine wpAnyH_take (i := 16) (oi := { dst := some 122, op := Op.load 3 (Operand.tmp 121), type := 3, pos := "law.go:221", after := #[{ on := 15, ground := Ground.data }, { on := 14, ground := Ground.guard }], guard := some (14, false) }) (v := ?_) rfl (by kernel_rfl) (by kernel_rfl) (by kernel_rfl) (fun _ _ _ h => h) (Or.inl ⟨by kernel_rfl, ?_⟩) (by assumption) ?_
                          rotate_left
                          · (intro w hSw; (try dsimp only at hSw); go_simp; (try with_reducible rfl))
                          try simp only [Act.put, List.setIfInBounds_toArray, List.set_cons_zero, List.set_cons_succ]
                          refine wpAnyH_take (i := 17) (oi := { dst := some 123, op := Op.binOp BinOp.eql 3 (Operand.tmp 122) (Operand.const (Value.int IntKind.i64 3)) 3, type := 4, pos := "law.go:221", after := #[{ on := 16, ground := Ground.data }, { on := 14, ground := Ground.guard }], guard := some (14, false) }) (v := ?_) rfl (by kernel_rfl) (by kernel_rfl) (by kernel_rfl) (fun _ _ _ h => h) (Or.inl ⟨by kernel_rfl, ?_⟩) (by assumption) ?_
                          rotate_left
                          · (intro w hSw; (try dsimp only at hSw); go_simp; (try with_reducible rfl))
                          try simp only [Act.put, List.setIfInBounds_toArray, List.set_cons_zero, List.set_cons_succ]
                          refine wpAnyH_take (i := 18) (oi := { dst := some 124, op := Op.move (Operand.tmp 123), type := 4, pos := "law.go:221", after := #[{ on := 17, ground := Ground.data }, { on := 14, ground := Ground.chain }, { on := 14, ground := Ground.guard }], guard := some (14, false) }) (v := ?_) rfl (by kernel_rfl) (by kernel_rfl) (by kernel_rfl) (fun _ _ _ h => h) (Or.inl ⟨by kernel_rfl, ?_⟩) (by assumption) ?_
                          rotate_left
                          · (intro w hSw; (try dsimp only at hSw); go_simp; (try with_reducible rfl))
                          try simp only [Act.put, List.setIfInBounds_toArray, List.set_cons_zero, List.set_cons_succ]
                          refine wpAnyH_take (i := 19) (oi := { dst := some 125, op := Op.fieldAddr 25 (Operand.tmp 15) 0, type := 0, pos := "law.go:221", after := #[{ on := 18, ground := Ground.guard }], guard := some (18, true) }) (v := ?_) rfl (by kernel_rfl) (by kernel_rfl) (by kernel_rfl) (fun _ _ _ h => h) (Or.inl ⟨by kernel_rfl, ?_⟩) (by assumption) ?_
                          rotate_left
                          · (intro w hSw; (try dsimp only at hSw); go_simp; (try with_reducible rfl))
                          try simp only [Act.put, List.setIfInBounds_toArray, List.set_cons_zero, List.set_cons_succ]
                          refine wpAnyH_take (i := 20) (oi := { dst := some 126, op := Op.load 21 (Operand.tmp 125), type := 21, pos := "law.go:221", after := #[{ on := 19, ground := Ground.data }, { on := 18, ground := Ground.guard }], guard := some (18, true) }) (v := ?_) rfl (by kernel_rfl) (by kernel_rfl) (by kernel_rfl) (fun _ _ _ h => h) (Or.inl ⟨by kernel_rfl, ?_⟩) (by assumption) ?_
                          rotate_left
                          · (intro w hSw; (try dsimp only at hSw); go_simp; (try with_reducible rfl))
                          try simp only [Act.put, List.setIfInBounds_toArray, List.set_cons_zero, List.set_cons_succ]
                          refine wpAnyH_take (i := 21) (oi := { dst := some 127, op := Op.binOp BinOp.neq 21 (Operand.tmp 126) (Operand.const (Value.int IntKind.i32 0)) 21, type := 4, pos := "law.go:221", after := #[{ on := 20, ground := Ground.data }, { on := 18, ground := Ground.guard }], guard := some (18, true) }) (v := ?_) rfl (by kernel_rfl) (by kernel_rfl) (by kernel_rfl) (fun _ _ _ h => h) (Or.inl ⟨by kernel_rfl, ?_⟩) (by assumption) ?_
                          rotate_left
                          · (intro w hSw; (try dsimp only at hSw); go_simp; (try with_reducible rfl))
                          try simp only [Act.put, List.setIfInBounds_toArray, List.set_cons_zero, List.set_cons_succ]
                          refine wpAnyH_take (i := 22) (oi := { dst := some 128, op := Op.pick (Operand.tmp 124) (Operand.tmp 127) (Operand.const (Value.bool false)), type := 4, pos := "law.go:221", after := #[{ on := 18, ground := Ground.data }, { on := 21, ground := Ground.data }, { on := 14, ground := Ground.guard }], guard := some (14, false) }) (v := ?_) rfl (by kernel_rfl) (by kernel_rfl) (by kernel_rfl) (fun _ _ _ h => h) (Or.inl ⟨by kernel_rfl, ?_⟩) (by assumption) ?_
                          rotate_left
                          · (intro w hSw; (try dsimp only at hSw); go_simp; (try with_reducible rfl))
                          try simp only [Act.put, List.setIfInBounds_toArray, List.set_cons_zero, List.set_cons_succ]
                          refine wpAnyH_take (i := 23) (oi := { dst := some 129, op := Op.move (Operand.tmp 128), type := 4, pos := "law.go:221", after := #[{ on := 22, ground := Ground.data }, { on := 18, ground := Ground.chain }, { on := 14, ground := Ground.guard }], guard := some (14, false) }) (v := ?_) rfl (by kernel_rfl) (by kernel_rfl) (by kernel_rfl) (fun _ _ _ h => h) (Or.inl ⟨by kernel_rfl, ?_⟩) (by assumption) ?_
                          rotate_left
                          · (intro w hSw; (try dsimp only at hSw); go_simp; (try with_reducible rfl))
                          try simp only [Act.put, List.setIfInBounds_toArray, List.set_cons_zero, List.set_cons_succ]
                          refine wpAnyH_take (i := 24) (oi := { dst := some 130, op := Op.fieldAddr 25 (Operand.tmp 15) 0, type := 0, pos := "law.go:221", after := #[{ on := 23, ground := Ground.guard }], guard := some (23, true) }) (v := undef) rfl (by kernel_rfl) (by kernel_rfl) (by kernel_rfl) (fun _ _ _ h => h) (Or.inr ⟨by kernel_rfl, rfl⟩) (by assumption) ?_
                          try simp only [Act.put, List.setIfInBounds_toArray, List.set_cons_zero, List.set_cons_succ]
                          refine wpAnyH_take (i := 25) (oi := { dst := some 131, op := Op.load 21 (Operand.tmp 130), type := 21, pos := "law.go:221", after := #[{ on := 24, ground := Ground.data }, { on := 23, ground := Ground.guard }], guard := some (23, true) }) (v := undef) rfl (by kernel_rfl) (by kernel_rfl) (by kernel_rfl) (fun _ _ _ h => h) (Or.inr ⟨by kernel_rfl, rfl⟩) (by assumption) ?_
                          try simp only [Act.put, List.setIfInBounds_toArray, List.set_cons_zero, List.set_cons_succ]
                          refine wpAnyH_take (i := 26) (oi := { dst := some 132, op := Op.binOp BinOp.neq 21 (Operand.tmp 131) (Operand.const (Value.int IntKind.i32 1)) 21, type := 4, pos := "law.go:221", after := #[{ on := 25, ground := Ground.data }, { on := 23, ground := Ground.guard }], guard := some (23, true) }) (v := undef) rfl (by kernel_rfl) (by kernel_rfl) (by kernel_rfl) (fun _ _ _ h => h) (Or.inr ⟨by kernel_rfl, rfl⟩) (by assumption) ?_
                          try simp only [Act.put, List.setIfInBounds_toArray, List.set_cons_zero, List.set_cons_succ]
                          refine wpAnyH_take (i := 27) (oi := { dst := some 133, op := Op.pick (Operand.tmp 129) (Operand.tmp 132) (Operand.const (Value.bool false)), type := 4, pos := "law.go:221", after := #[{ on := 23, ground := Ground.data }, { on := 26, ground := Ground.data }, { on := 14, ground := Ground.guard }], guard := some (14, false) }) (v := ?_) rfl (by kernel_rfl) (by kernel_rfl) (by kernel_rfl) (fun _ _ _ h => h) (Or.inl ⟨by kernel_rfl, ?_⟩) (by assumption) ?_
                          rotate_left
                          · (intro w hSw; (try dsimp only at hSw); go_simp; (try with_reducible rfl))
                          try simp only [Act.put, List.setIfInBounds_toArray, List.set_cons_zero, List.set_cons_succ]
                          refine wpAnyH_take (i := 28) (oi := { dst := some 134, op := Op.pick (Operand.tmp 120) (Operand.const (Value.bool true)) (Operand.tmp 133), type := 4, pos := "law.go:221", after := #[{ on := 14, ground := Ground.data }, { on := 27, ground := Ground.data }, { on := 10, ground := Ground.guard }], guard := some (10, true) }) (v := ?_) rfl (by kernel_rfl) (by kernel_rfl) (by kernel_rfl) (fun _ _ _ h => h) (Or.inl ⟨by kernel_rfl, ?_⟩) (by assumption) ?_
                          rotate_left
                          · (intro w hSw; (try dsimp only at hSw); go_simp; (try with_reducible rfl))
                          try simp only [Act.put, List.setIfInBounds_toArray, List.set_cons_zero, List.set_cons_succ]
                          refine wpAnyH_take (i := 29) (oi := { dst := some 135, op := Op.pick (Operand.tmp 116) (Operand.tmp 134) (Operand.const (Value.bool false)), type := 4, pos := "law.go:221", after := #[{ on := 10, ground := Ground.data }, { on := 28, ground := Ground.data }, { on := 6, ground := Ground.guard }], guard := some (6, false) }) (v := ?_) rfl (by kernel_rfl) (by kernel_rfl) (by kernel_rfl) (fun _ _ _ h => h) (Or.inl ⟨by kernel_rfl, ?_⟩) (by assumption) ?_
                          rotate_left
                          · (intro w hSw; (try dsimp only at hSw); go_simp; (try with_reducible rfl))
                          try simp only [Act.put, List.setIfInBounds_toArray, List.set_cons_zero, List.set_cons_succ]
                          refine wpAnyH_take (i := 30) (oi := { dst := some 136, op := Op.pick (Operand.tmp 112) (Operand.const (Value.bool true)) (Operand.tmp 135), type := 4, pos := "law.go:221", after := #[{ on := 6, ground := Ground.data }, { on := 29, ground := Ground.data }], guard := none }) (v := ?_) rfl (by kernel_rfl) (by kernel_rfl) (by kernel_rfl) (fun _ _ _ h => h) (Or.inl ⟨by kernel_rfl, ?_⟩) (by assumption) ?_
                          rotate_left
                          · (intro w hSw; (try dsimp only at hSw); go_simp; (try with_reducible rfl))
                          try simp only [Act.put, List.setIfInBounds_toArray, List.set_cons_zero, List.set_cons_succ]
                          refine wpAnyH_done (by kernel_rfl) ?_ _
                          have hbx2 := hHeld.2.2.2.2.box
                          go_wp2
                          go_roundw
                          case rel => exact ⟨j + 1, by omega, by omega, rfl, hbx2⟩
                          case measure => simp [intOf]; omega
                        · skip
                          have te : (binTE k i j == 0) = true := by simpa using hE
                          have eu : (binE k != 0) = false := by simpa using binE_of hE
                          have tv : (binTV k i j == 3) = true := by simpa using hT
                          have q0 : (binV k a b != 0) = true := by rw [hV]; rfl
                          have q1 : (binV k a b != 1) = false := by rw [hV]; rfl
                          clear hE hT hV
                          refine wp_region_held_drew (S := (fun w' => w'.cell? ⟨Y, 0, none⟩ = some (.int .i64 (binTV k i j)) ∧ w'.cell? ⟨Y, 1, none⟩ = some (.int .i64 (binTE k i j)) ∧ w'.cell? ⟨Z, 0, none⟩ = some (.int .i32 (binV k a b)) ∧ w'.cell? ⟨Z, 1, none⟩ = some (.int .i64 (binE k)) ∧ (YZ w t0 t1 v0 v1 Y Z (.int .i64 (binTV k i j)) (.int .i64 (binTE k i j)) (.int .i32 (binV k a b)) (.int .i64 (binE k)) w'))) (by kernel_rfl) ?_ (fun hHeld => ?_)
                          · (try dsimp only); (refine YZ.sy ?_; first | assumption | (with_reducible apply YZ.drew; assumption))
                          refine wpAnyH_take (i := 0) (oi := { dst := some 106, op := Op.load 44 (Operand.tmp 13), type := 44, pos := "law.go:221", after := #[], guard := none }) (v := ?_) rfl (by kernel_rfl) (by kernel_rfl) (by kernel_rfl) (fun _ _ _ h => h) (Or.inl ⟨by kernel_rfl, ?_⟩) (by assumption) ?_
                          rotate_left
                          · (intro w hSw; (try dsimp only at hSw); go_simp; (try with_reducible rfl))
                          try simp only [Act.put, List.setIfInBounds_toArray, List.set_cons_zero, List.set_cons_succ]
                          refine wpAnyH_take (i := 1) (oi := { dst := some 107, op := Op.move (Operand.tmp 8), type := 3, pos := "law.go:221", after := #[], guard := none }) (v := ?_) rfl (by kernel_rfl) (by kernel_rfl) (by kernel_rfl) (fun _ _ _ h => h) (Or.inl ⟨by kernel_rfl, ?_⟩) (by assumption) ?_
                          rotate_left
                          · (intro w hSw; (try dsimp only at hSw); go_simp; (try with_reducible rfl))
                          try simp only [Act.put, List.setIfInBounds_toArray, List.set_cons_zero, List.set_cons_succ]
                          refine wpAnyH_take (i := 2) (oi := { dst := some 108, op := Op.move (Operand.tmp 9), type := 3, pos := "law.go:221", after := #[], guard := none }) (v := ?_) rfl (by kernel_rfl) (by kernel_rfl) (by kernel_rfl) (fun _ _ _ h => h) (Or.inl ⟨by kernel_rfl, ?_⟩) (by assumption) ?_
                          rotate_left
                          · (intro w hSw; (try dsimp only at hSw); go_simp; (try with_reducible rfl))
                          try simp only [Act.put, List.setIfInBounds_toArray, List.set_cons_zero, List.set_cons_succ]
                          refine wpAnyH_take (i := 3) (oi := { dst := some 109, op := Op.move (Operand.tmp 12), type := 3, pos := "law.go:221", after := #[], guard := none }) (v := ?_) rfl (by kernel_rfl) (by kernel_rfl) (by kernel_rfl) (fun _ _ _ h => h) (Or.inl ⟨by kernel_rfl, ?_⟩) (by assumption) ?_
                          rotate_left
                          · (intro w hSw; (try dsimp only at hSw); go_simp; (try with_reducible rfl))
                          try simp only [Act.put, List.setIfInBounds_toArray, List.set_cons_zero, List.set_cons_succ]
                          refine wpAnyH_ready (rs := [4]) (by kernel_rfl) (by simp) ?_
                          refine AllReadyH.cons (o := { dst := some 110, op := Op.call { callee := Callee.value (Operand.func 24), args := #[Operand.tmp 107, Operand.tmp 108, Operand.tmp 109], argTypes := #[3, 3, 3] }, type := 44, pos := "law.go:221", after := #[{ on := 1, ground := Ground.data }, { on := 2, ground := Ground.data }, { on := 3, ground := Ground.data }], guard := none }) rfl (fun K hK => ?_) AllReadyH.nil
                          go_simp
                          (go_at_call 24; refine (BinTypeIn_y k i j hHeld.2.2.2.2).mono ?_; rintro e w' ⟨rfl, hyz'⟩)
                          try go_wp2_with fail
                          refine hK.out _ _ ?_ (fun hHeld => ?_)
                          · (try dsimp only); (refine YZ.sy ?_; first | assumption | (with_reducible apply YZ.drew; assumption))
                          clear hK K
                          try simp only [Act.put, List.setIfInBounds_toArray, List.set_cons_zero, List.set_cons_succ]
                          refine wpAnyH_take (i := 5) (oi := { dst := some 111, op := Op.binOp BinOp.neq 44 (Operand.tmp 106) (Operand.tmp 110) 44, type := 4, pos := "law.go:221", after := #[{ on := 0, ground := Ground.data }, { on := 4, ground := Ground.data }], guard := none }) (v := ?_) rfl (by kernel_rfl) (by kernel_rfl) (by kernel_rfl) (fun _ _ _ h => h) (Or.inl ⟨by kernel_rfl, ?_⟩) (by assumption) ?_
                          rotate_left
                          · (intro w hSw; (try dsimp only at hSw); go_simp; (try with_reducible rfl))
                          try simp only [Act.put, List.setIfInBounds_toArray, List.set_cons_zero, List.set_cons_succ]
                          refine wpAnyH_take (i := 6) (oi := { dst := some 112, op := Op.move (Operand.tmp 111), type := 4, pos := "law.go:221", after := #[{ on := 5, ground := Ground.data }, { on := 4, ground := Ground.chain }], guard := none }) (v := ?_) rfl (by kernel_rfl) (by kernel_rfl) (by kernel_rfl) (fun _ _ _ h => h) (Or.inl ⟨by kernel_rfl, ?_⟩) (by assumption) ?_
                          rotate_left
                          · (intro w hSw; (try dsimp only at hSw); go_simp; (try with_reducible rfl))
                          try simp only [Act.put, List.setIfInBounds_toArray, List.set_cons_zero, List.set_cons_succ]
                          refine wpAnyH_take (i := 7) (oi := { dst := some 113, op := Op.fieldAddr 44 (Operand.tmp 13) 1, type := 0, pos := "law.go:221", after := #[{ on := 6, ground := Ground.guard }], guard := some (6, false) }) (v := ?_) rfl (by kernel_rfl) (by kernel_rfl) (by kernel_rfl) (fun _ _ _ h => h) (Or.inl ⟨by kernel_rfl, ?_⟩) (by assumption) ?_
                          rotate_left
                          · (intro w hSw; (try dsimp only at hSw); go_simp; (try with_reducible rfl))
                          try simp only [Act.put, List.setIfInBounds_toArray, List.set_cons_zero, List.set_cons_succ]
                          refine wpAnyH_take (i := 8) (oi := { dst := some 114, op := Op.load 23 (Operand.tmp 113), type := 23, pos := "law.go:221", after := #[{ on := 7, ground := Ground.data }, { on := 6, ground := Ground.guard }], guard := some (6, false) }) (v := ?_) rfl (by kernel_rfl) (by kernel_rfl) (by kernel_rfl) (fun _ _ _ h => h) (Or.inl ⟨by kernel_rfl, ?_⟩) (by assumption) ?_
                          rotate_left
                          · (intro w hSw; (try dsimp only at hSw); go_simp; (try with_reducible rfl))
                          try simp only [Act.put, List.setIfInBounds_toArray, List.set_cons_zero, List.set_cons_succ]
                          refine wpAnyH_take (i := 9) (oi := { dst := some 115, op := Op.binOp BinOp.eql 23 (Operand.tmp 114) (Operand.const (Value.int IntKind.i64 0)) 23, type := 4, pos := "law.go:221", after := #[{ on := 8, ground := Ground.data }, { on := 6, ground := Ground.guard }], guard := some (6, false) }) (v := ?_) rfl (by kernel_rfl) (by kernel_rfl) (by kernel_rfl) (fun _ _ _ h => h) (Or.inl ⟨by kernel_rfl, ?_⟩) (by assumption) ?_
                          rotate_left
                          · (intro w hSw; (try dsimp only at hSw); go_simp; (try with_reducible rfl))
                          try simp only [Act.put, List.setIfInBounds_toArray, List.set_cons_zero, List.set_cons_succ]
                          refine wpAnyH_take (i := 10) (oi := { dst := some 116, op := Op.move (Operand.tmp 115), type := 4, pos := "law.go:221", after := #[{ on := 9, ground := Ground.data }, { on := 6, ground := Ground.chain }, { on := 6, ground := Ground.guard }], guard := some (6, false) }) (v := ?_) rfl (by kernel_rfl) (by kernel_rfl) (by kernel_rfl) (fun _ _ _ h => h) (Or.inl ⟨by kernel_rfl, ?_⟩) (by assumption) ?_
                          rotate_left
                          · (intro w hSw; (try dsimp only at hSw); go_simp; (try with_reducible rfl))
                          try simp only [Act.put, List.setIfInBounds_toArray, List.set_cons_zero, List.set_cons_succ]
                          refine wpAnyH_take (i := 11) (oi := { dst := some 117, op := Op.fieldAddr 25 (Operand.tmp 15) 1, type := 0, pos := "law.go:221", after := #[{ on := 10, ground := Ground.guard }], guard := some (10, true) }) (v := ?_) rfl (by kernel_rfl) (by kernel_rfl) (by kernel_rfl) (fun _ _ _ h => h) (Or.inl ⟨by kernel_rfl, ?_⟩) (by assumption) ?_
                          rotate_left
                          · (intro w hSw; (try dsimp only at hSw); go_simp; (try with_reducible rfl))
                          try simp only [Act.put, List.setIfInBounds_toArray, List.set_cons_zero, List.set_cons_succ]
                          refine wpAnyH_take (i := 12) (oi := { dst := some 118, op := Op.load 23 (Operand.tmp 117), type := 23, pos := "law.go:221", after := #[{ on := 11, ground := Ground.data }, { on := 10, ground := Ground.guard }], guard := some (10, true) }) (v := ?_) rfl (by kernel_rfl) (by kernel_rfl) (by kernel_rfl) (fun _ _ _ h => h) (Or.inl ⟨by kernel_rfl, ?_⟩) (by assumption) ?_
                          rotate_left
                          · (intro w hSw; (try dsimp only at hSw); go_simp; (try with_reducible rfl))
                          try simp only [Act.put, List.setIfInBounds_toArray, List.set_cons_zero, List.set_cons_succ]
                          refine wpAnyH_take (i := 13) (oi := { dst := some 119, op := Op.binOp BinOp.neq 23 (Operand.tmp 118) (Operand.const (Value.int IntKind.i64 0)) 23, type := 4, pos := "law.go:221", after := #[{ on := 12, ground := Ground.data }, { on := 10, ground := Ground.guard }], guard := some (10, true) }) (v := ?_) rfl (by kernel_rfl) (by kernel_rfl) (by kernel_rfl) (fun _ _ _ h => h) (Or.inl ⟨by kernel_rfl, ?_⟩) (by assumption) ?_
                          rotate_left
                          · (intro w hSw; (try dsimp only at hSw); go_simp; (try with_reducible rfl))
                          try simp only [Act.put, List.setIfInBounds_toArray, List.set_cons_zero, List.set_cons_succ]
                          refine wpAnyH_take (i := 14) (oi := { dst := some 120, op := Op.move (Operand.tmp 119), type := 4, pos := "law.go:221", after := #[{ on := 13, ground := Ground.data }, { on := 10, ground := Ground.chain }, { on := 10, ground := Ground.guard }], guard := some (10, true) }) (v := ?_) rfl (by kernel_rfl) (by kernel_rfl) (by kernel_rfl) (fun _ _ _ h => h) (Or.inl ⟨by kernel_rfl, ?_⟩) (by assumption) ?_
                          rotate_left
                          · (intro w hSw; (try dsimp only at hSw); go_simp; (try with_reducible rfl))
                          try simp only [Act.put, List.setIfInBounds_toArray, List.set_cons_zero, List.set_cons_succ]
                          refine wpAnyH_take (i := 15) (oi := { dst := some 121, op := Op.fieldAddr 44 (Operand.tmp 13) 0, type := 0, pos := "law.go:221", after := #[{ on := 14, ground := Ground.guard }], guard := some (14, false) }) (v := ?_) rfl (by kernel_rfl) (by kernel_rfl) (by kernel_rfl) (fun _ _ _ h => h) (Or.inl ⟨by kernel_rfl, ?_⟩) (by assumption) ?_
                          rotate_left
                          · (intro w hSw; (try dsimp only at hSw); go_simp; (try with_reducible rfl))
                          try simp only [Act.put, List.setIfInBounds_toArray, List.set_cons_zero, List.set_cons_succ]
                          refine wpAnyH_take (i := 16) (oi := { dst := some 122, op := Op.load 3 (Operand.tmp 121), type := 3, pos := "law.go:221", after := #[{ on := 15, ground := Ground.data }, { on := 14, ground := Ground.guard }], guard := some (14, false) }) (v := ?_) rfl (by kernel_rfl) (by kernel_rfl) (by kernel_rfl) (fun _ _ _ h => h) (Or.inl ⟨by kernel_rfl, ?_⟩) (by assumption) ?_
                          rotate_left
                          · (intro w hSw; (try dsimp only at hSw); go_simp; (try with_reducible rfl))
                          try simp only [Act.put, List.setIfInBounds_toArray, List.set_cons_zero, List.set_cons_succ]
                          refine wpAnyH_take (i := 17) (oi := { dst := some 123, op := Op.binOp BinOp.eql 3 (Operand.tmp 122) (Operand.const (Value.int IntKind.i64 3)) 3, type := 4, pos := "law.go:221", after := #[{ on := 16, ground := Ground.data }, { on := 14, ground := Ground.guard }], guard := some (14, false) }) (v := ?_) rfl (by kernel_rfl) (by kernel_rfl) (by kernel_rfl) (fun _ _ _ h => h) (Or.inl ⟨by kernel_rfl, ?_⟩) (by assumption) ?_
                          rotate_left
                          · (intro w hSw; (try dsimp only at hSw); go_simp; (try with_reducible rfl))
                          try simp only [Act.put, List.setIfInBounds_toArray, List.set_cons_zero, List.set_cons_succ]
                          refine wpAnyH_take (i := 18) (oi := { dst := some 124, op := Op.move (Operand.tmp 123), type := 4, pos := "law.go:221", after := #[{ on := 17, ground := Ground.data }, { on := 14, ground := Ground.chain }, { on := 14, ground := Ground.guard }], guard := some (14, false) }) (v := ?_) rfl (by kernel_rfl) (by kernel_rfl) (by kernel_rfl) (fun _ _ _ h => h) (Or.inl ⟨by kernel_rfl, ?_⟩) (by assumption) ?_
                          rotate_left
                          · (intro w hSw; (try dsimp only at hSw); go_simp; (try with_reducible rfl))
                          try simp only [Act.put, List.setIfInBounds_toArray, List.set_cons_zero, List.set_cons_succ]
                          refine wpAnyH_take (i := 19) (oi := { dst := some 125, op := Op.fieldAddr 25 (Operand.tmp 15) 0, type := 0, pos := "law.go:221", after := #[{ on := 18, ground := Ground.guard }], guard := some (18, true) }) (v := ?_) rfl (by kernel_rfl) (by kernel_rfl) (by kernel_rfl) (fun _ _ _ h => h) (Or.inl ⟨by kernel_rfl, ?_⟩) (by assumption) ?_
                          rotate_left
                          · (intro w hSw; (try dsimp only at hSw); go_simp; (try with_reducible rfl))
                          try simp only [Act.put, List.setIfInBounds_toArray, List.set_cons_zero, List.set_cons_succ]
                          refine wpAnyH_take (i := 20) (oi := { dst := some 126, op := Op.load 21 (Operand.tmp 125), type := 21, pos := "law.go:221", after := #[{ on := 19, ground := Ground.data }, { on := 18, ground := Ground.guard }], guard := some (18, true) }) (v := ?_) rfl (by kernel_rfl) (by kernel_rfl) (by kernel_rfl) (fun _ _ _ h => h) (Or.inl ⟨by kernel_rfl, ?_⟩) (by assumption) ?_
                          rotate_left
                          · (intro w hSw; (try dsimp only at hSw); go_simp; (try with_reducible rfl))
                          try simp only [Act.put, List.setIfInBounds_toArray, List.set_cons_zero, List.set_cons_succ]
                          refine wpAnyH_take (i := 21) (oi := { dst := some 127, op := Op.binOp BinOp.neq 21 (Operand.tmp 126) (Operand.const (Value.int IntKind.i32 0)) 21, type := 4, pos := "law.go:221", after := #[{ on := 20, ground := Ground.data }, { on := 18, ground := Ground.guard }], guard := some (18, true) }) (v := ?_) rfl (by kernel_rfl) (by kernel_rfl) (by kernel_rfl) (fun _ _ _ h => h) (Or.inl ⟨by kernel_rfl, ?_⟩) (by assumption) ?_
                          rotate_left
                          · (intro w hSw; (try dsimp only at hSw); go_simp; (try with_reducible rfl))
                          try simp only [Act.put, List.setIfInBounds_toArray, List.set_cons_zero, List.set_cons_succ]
                          refine wpAnyH_take (i := 22) (oi := { dst := some 128, op := Op.pick (Operand.tmp 124) (Operand.tmp 127) (Operand.const (Value.bool false)), type := 4, pos := "law.go:221", after := #[{ on := 18, ground := Ground.data }, { on := 21, ground := Ground.data }, { on := 14, ground := Ground.guard }], guard := some (14, false) }) (v := ?_) rfl (by kernel_rfl) (by kernel_rfl) (by kernel_rfl) (fun _ _ _ h => h) (Or.inl ⟨by kernel_rfl, ?_⟩) (by assumption) ?_
                          rotate_left
                          · (intro w hSw; (try dsimp only at hSw); go_simp; (try with_reducible rfl))
                          try simp only [Act.put, List.setIfInBounds_toArray, List.set_cons_zero, List.set_cons_succ]
                          refine wpAnyH_take (i := 23) (oi := { dst := some 129, op := Op.move (Operand.tmp 128), type := 4, pos := "law.go:221", after := #[{ on := 22, ground := Ground.data }, { on := 18, ground := Ground.chain }, { on := 14, ground := Ground.guard }], guard := some (14, false) }) (v := ?_) rfl (by kernel_rfl) (by kernel_rfl) (by kernel_rfl) (fun _ _ _ h => h) (Or.inl ⟨by kernel_rfl, ?_⟩) (by assumption) ?_
                          rotate_left
                          · (intro w hSw; (try dsimp only at hSw); go_simp; (try with_reducible rfl))
                          try simp only [Act.put, List.setIfInBounds_toArray, List.set_cons_zero, List.set_cons_succ]
                          refine wpAnyH_take (i := 24) (oi := { dst := some 130, op := Op.fieldAddr 25 (Operand.tmp 15) 0, type := 0, pos := "law.go:221", after := #[{ on := 23, ground := Ground.guard }], guard := some (23, true) }) (v := ?_) rfl (by kernel_rfl) (by kernel_rfl) (by kernel_rfl) (fun _ _ _ h => h) (Or.inl ⟨by kernel_rfl, ?_⟩) (by assumption) ?_
                          rotate_left
                          · (intro w hSw; (try dsimp only at hSw); go_simp; (try with_reducible rfl))
                          try simp only [Act.put, List.setIfInBounds_toArray, List.set_cons_zero, List.set_cons_succ]
                          refine wpAnyH_take (i := 25) (oi := { dst := some 131, op := Op.load 21 (Operand.tmp 130), type := 21, pos := "law.go:221", after := #[{ on := 24, ground := Ground.data }, { on := 23, ground := Ground.guard }], guard := some (23, true) }) (v := ?_) rfl (by kernel_rfl) (by kernel_rfl) (by kernel_rfl) (fun _ _ _ h => h) (Or.inl ⟨by kernel_rfl, ?_⟩) (by assumption) ?_
                          rotate_left
                          · (intro w hSw; (try dsimp only at hSw); go_simp; (try with_reducible rfl))
                          try simp only [Act.put, List.setIfInBounds_toArray, List.set_cons_zero, List.set_cons_succ]
                          refine wpAnyH_take (i := 26) (oi := { dst := some 132, op := Op.binOp BinOp.neq 21 (Operand.tmp 131) (Operand.const (Value.int IntKind.i32 1)) 21, type := 4, pos := "law.go:221", after := #[{ on := 25, ground := Ground.data }, { on := 23, ground := Ground.guard }], guard := some (23, true) }) (v := ?_) rfl (by kernel_rfl) (by kernel_rfl) (by kernel_rfl) (fun _ _ _ h => h) (Or.inl ⟨by kernel_rfl, ?_⟩) (by assumption) ?_
                          rotate_left
                          · (intro w hSw; (try dsimp only at hSw); go_simp; (try with_reducible rfl))
                          try simp only [Act.put, List.setIfInBounds_toArray, List.set_cons_zero, List.set_cons_succ]
                          refine wpAnyH_take (i := 27) (oi := { dst := some 133, op := Op.pick (Operand.tmp 129) (Operand.tmp 132) (Operand.const (Value.bool false)), type := 4, pos := "law.go:221", after := #[{ on := 23, ground := Ground.data }, { on := 26, ground := Ground.data }, { on := 14, ground := Ground.guard }], guard := some (14, false) }) (v := ?_) rfl (by kernel_rfl) (by kernel_rfl) (by kernel_rfl) (fun _ _ _ h => h) (Or.inl ⟨by kernel_rfl, ?_⟩) (by assumption) ?_
                          rotate_left
                          · (intro w hSw; (try dsimp only at hSw); go_simp; (try with_reducible rfl))
                          try simp only [Act.put, List.setIfInBounds_toArray, List.set_cons_zero, List.set_cons_succ]
                          refine wpAnyH_take (i := 28) (oi := { dst := some 134, op := Op.pick (Operand.tmp 120) (Operand.const (Value.bool true)) (Operand.tmp 133), type := 4, pos := "law.go:221", after := #[{ on := 14, ground := Ground.data }, { on := 27, ground := Ground.data }, { on := 10, ground := Ground.guard }], guard := some (10, true) }) (v := ?_) rfl (by kernel_rfl) (by kernel_rfl) (by kernel_rfl) (fun _ _ _ h => h) (Or.inl ⟨by kernel_rfl, ?_⟩) (by assumption) ?_
                          rotate_left
                          · (intro w hSw; (try dsimp only at hSw); go_simp; (try with_reducible rfl))
                          try simp only [Act.put, List.setIfInBounds_toArray, List.set_cons_zero, List.set_cons_succ]
                          refine wpAnyH_take (i := 29) (oi := { dst := some 135, op := Op.pick (Operand.tmp 116) (Operand.tmp 134) (Operand.const (Value.bool false)), type := 4, pos := "law.go:221", after := #[{ on := 10, ground := Ground.data }, { on := 28, ground := Ground.data }, { on := 6, ground := Ground.guard }], guard := some (6, false) }) (v := ?_) rfl (by kernel_rfl) (by kernel_rfl) (by kernel_rfl) (fun _ _ _ h => h) (Or.inl ⟨by kernel_rfl, ?_⟩) (by assumption) ?_
                          rotate_left
                          · (intro w hSw; (try dsimp only at hSw); go_simp; (try with_reducible rfl))
                          try simp only [Act.put, List.setIfInBounds_toArray, List.set_cons_zero, List.set_cons_succ]
                          refine wpAnyH_take (i := 30) (oi := { dst := some 136, op := Op.pick (Operand.tmp 112) (Operand.const (Value.bool true)) (Operand.tmp 135), type := 4, pos := "law.go:221", after := #[{ on := 6, ground := Ground.data }, { on := 29, ground := Ground.data }], guard := none }) (v := ?_) rfl (by kernel_rfl) (by kernel_rfl) (by kernel_rfl) (fun _ _ _ h => h) (Or.inl ⟨by kernel_rfl, ?_⟩) (by assumption) ?_
                          rotate_left
                          · (intro w hSw; (try dsimp only at hSw); go_simp; (try with_reducible rfl))
                          try simp only [Act.put, List.setIfInBounds_toArray, List.set_cons_zero, List.set_cons_succ]
                          refine wpAnyH_done (by kernel_rfl) ?_ _
                          have hbx2 := hHeld.2.2.2.2.box
                          go_wp2
                          go_roundw
                          case rel => exact ⟨j + 1, by omega, by omega, rfl, hbx2⟩
                          case measure => simp [intOf]; omega
                  · have hgj : 4 < j := by omega
                    go_wp2
                    go_roundw
                    case rel => exact ⟨i + 1, by omega, by omega, rfl, hx⟩
                    case measure => simp [intOf]; omega
        · have hgi : 4 < i := by omega
          go_wp2
          go_roundw
          case rel => exact ⟨k + 1, by omega, by omega, rfl, hx⟩
          case measure => simp [intOf]; omega
    · have hgt : 30 < k := by omega
      go_wp2
      go_ret
      exact ⟨rfl, hx.run⟩
end Go.Proofs.YtikkmcgbmiddaaaDoor
