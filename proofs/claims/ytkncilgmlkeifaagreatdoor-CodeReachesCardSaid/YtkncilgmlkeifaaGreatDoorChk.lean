import Derived.Test.YtkncilgmlkeifaaGreatDoorBase
import Derived.Test.YtkncilgmlkeifaaGreatDoorIns
import Derived.Test.YtkncilgmlkeifaaGreatDoorAll
/-
  Package code: the contract of sized.
-/
set_option linter.unusedVariables false
set_option linter.unusedSimpArgs false
namespace Go.Proofs.YtkncilgmlkeifaaGreatDoor
open Go.ChangeShapes Go.WideShapes Go.ChangeAt Go.RowKit

section
variable (g s r sl p : Int) (n1 c1 n2 c2 n3 c3 : Nat) (A1 A2 A3 : Option Addr)
def sizB (g s r sl p : Int) : Bool := wthB g 1 256 && (wthB s 1 32 && ((bits BinOp.and IntKind.i64 s (s - 1) == 0) && ((g % s == 0) && (decide (0 ≤ r) && (decide (0 ≤ sl) && decide (0 ≤ p))))))
set_option maxRecDepth 100000 in
set_option maxHeartbeats 2000000 in
theorem sized_any (w : World) :
    Calls Tryz.prog 95 #[.agg #[.int .i64 g, .int .i64 s, .int .i64 r, .int .i64 sl, .int .i64 p, .slice A1 n1 c1, .slice A2 n2 c2, .slice A3 n3 c3]] w fun e w' => e = .returned (.bool (sizB g s r sl p)) ∧ Below w.heap.size w w' := by
  have hb : ∀ o, Below w.heap.size w (w.alloc o) := fun o => (Below.refl _ _).alloc (Nat.le_refl _) o
  have HB := Lib.hid hb
  have H1 := fun W => within_any g 1 256 W
  have H2 := fun W => within_any s 1 32 W
  clear hb
  unfold sizB
  cases h : wthB g 1 256
  · rw [h] at H1; rw [Bool.false_and]
    have G1 := Lib.hid H1; clear H1 H2 h
    go_enter Tryz.func95, Tryz.ntmps95
    go_wp2_with (go_at_call 56; (with_reducible refine (G1.out _).mono ?_); rintro e w' ⟨rfl, rfl⟩)
    go_ret
    exact ⟨rfl, HB.out _⟩
  · have hg := h
    rw [h] at H1; rw [Bool.true_and]
    cases h2 : wthB s 1 32
    · rw [h2] at H2; rw [Bool.false_and]
      have G1 := Lib.hid H1; have G2 := Lib.hid H2; clear H1 H2 h h2 hg
      go_enter Tryz.func95, Tryz.ntmps95
      go_wp2_with (first | (go_at_call 56; (with_reducible refine (G1.out _).mono ?_); rintro e w' ⟨rfl, rfl⟩) | (go_at_call 56; (with_reducible refine (G2.out _).mono ?_); rintro e w' ⟨rfl, rfl⟩))
      go_ret
      exact ⟨rfl, HB.out _⟩
    · have hs := h2
      rw [h2] at H2; rw [Bool.true_and]
      unfold wthB at hg hs
      simp only [Bool.and_eq_true, decide_eq_true_eq] at hg hs
      obtain ⟨g1, g2⟩ := hg
      obtain ⟨s1, s2⟩ := hs
      have h0 : ¬ s = 0 := by omega
      have G1 := Lib.hid H1; have G2 := Lib.hid H2; clear H1 H2 h h2
      cases hb : (bits BinOp.and IntKind.i64 s (s - 1) == 0)
      · rw [Bool.false_and]
        go_enter Tryz.func95, Tryz.ntmps95
        go_wp2_with (first | (go_at_call 56; (with_reducible refine (G1.out _).mono ?_); rintro e w' ⟨rfl, rfl⟩) | (go_at_call 56; (with_reducible refine (G2.out _).mono ?_); rintro e w' ⟨rfl, rfl⟩))
        go_ret
        exact ⟨rfl, HB.out _⟩
      · rw [Bool.true_and]
        cases hm : (g % s == 0)
        · rw [Bool.false_and]
          go_enter Tryz.func95, Tryz.ntmps95
          go_wp2_with (first | (go_at_call 56; (with_reducible refine (G1.out _).mono ?_); rintro e w' ⟨rfl, rfl⟩) | (go_at_call 56; (with_reducible refine (G2.out _).mono ?_); rintro e w' ⟨rfl, rfl⟩))
          go_ret
          exact ⟨rfl, HB.out _⟩
        · rw [Bool.true_and]
          by_cases q1 : 0 ≤ r
          · rw [decide_eq_true q1, Bool.true_and]
            by_cases q2 : 0 ≤ sl
            · rw [decide_eq_true q2, Bool.true_and]
              go_enter Tryz.func95, Tryz.ntmps95
              go_wp2_with (first | (go_at_call 56; (with_reducible refine (G1.out _).mono ?_); rintro e w' ⟨rfl, rfl⟩) | (go_at_call 56; (with_reducible refine (G2.out _).mono ?_); rintro e w' ⟨rfl, rfl⟩))
              go_ret
              exact ⟨rfl, HB.out _⟩
            · rw [decide_eq_false q2, Bool.false_and]
              go_enter Tryz.func95, Tryz.ntmps95
              go_wp2_with (first | (go_at_call 56; (with_reducible refine (G1.out _).mono ?_); rintro e w' ⟨rfl, rfl⟩) | (go_at_call 56; (with_reducible refine (G2.out _).mono ?_); rintro e w' ⟨rfl, rfl⟩))
              go_ret
              exact ⟨rfl, HB.out _⟩
          · rw [decide_eq_false q1, Bool.false_and]
            go_enter Tryz.func95, Tryz.ntmps95
            go_wp2_with (first | (go_at_call 56; (with_reducible refine (G1.out _).mono ?_); rintro e w' ⟨rfl, rfl⟩) | (go_at_call 56; (with_reducible refine (G2.out _).mono ?_); rintro e w' ⟨rfl, rfl⟩))
            go_ret
            exact ⟨rfl, HB.out _⟩
end
end Go.Proofs.YtkncilgmlkeifaaGreatDoor
/-
  Package code: the contracts of isBlock, formed, Check.
-/
set_option linter.unusedVariables false
set_option linter.unusedSimpArgs false
namespace Go.Proofs.YtkncilgmlkeifaaGreatDoor
open Go.ChangeShapes Go.WideShapes Go.ChangeAt Go.RowKit Go.Shelf

theorem RIn.at {w W : World} {A : Option Addr} {n : Nat} {I : Nat → InstV} (h : RIn w w.heap.size A n I) (hW : Below w.heap.size w W) : RIn W W.heap.size A n I := fun hn => by
  obtain ⟨b, off, e, hlt, hc⟩ := (h.below hW) hn
  exact ⟨b, off, e, by have := hW.size; omega, hc⟩
theorem RLo.at {w W : World} {A : Option Addr} {n : Nat} {hd rg bd : Nat → Int} (h : RLo w w.heap.size A n hd rg bd) (hW : Below w.heap.size w W) : RLo W W.heap.size A n hd rg bd := fun hn => by
  obtain ⟨b, off, e, hlt, hc⟩ := (h.below hW) hn
  exact ⟨b, off, e, by have := hW.size; omega, hc⟩
theorem RBl.at {w W : World} {A : Option Addr} {n : Nat} {IA : Nat → Option Addr} {IL IC : Nat → Nat} {T : Nat → TermV} (h : RBl w w.heap.size A n IA IL IC T) (hW : Below w.heap.size w W) : RBl W W.heap.size A n IA IL IC T := fun hn => by
  obtain ⟨b, off, e, hlt, hc⟩ := (h.below hW) hn
  exact ⟨b, off, e, by have := hW.size; omega, hc⟩
/-- One box: the checker, or a code. -/
structure OneK (w : World) (T : TypeId) (K : Array Value) (wx : World) : Prop where
  on : Below (w.heap.size + 1) (w.alloc (.cells K T)) wx
section
variable {w wx : World} {T : TypeId} {K : Array Value}
theorem OneK.start : OneK w T K (w.alloc (.cells K T)) := ⟨Below.refl _ _⟩
theorem OneK.size (h : OneK w T K wx) : w.heap.size + 1 ≤ wx.heap.size := by
  have := h.on.size
  simp only [World.size_alloc] at this
  omega
theorem OneK.step {w' : World} (h : OneK w T K wx) (hb : Below wx.heap.size wx w') : OneK w T K w' := ⟨h.on.trans (hb.mono h.size)⟩
theorem OneK.below (h : OneK w T K wx) : Below w.heap.size w wx := ((Below.refl _ _).alloc (Nat.le_refl _) _).trans (h.on.mono (by omega))
theorem OneK.ck (h : OneK w T K wx) (o : Nat) : wx.cell? ⟨w.heap.size, o, none⟩ = K[o]? := by
  rw [h.on.cell (p := ⟨w.heap.size, o, none⟩) (by simp), World.cell?_alloc_at _ _ _ _ rfl]
end
section
variable (g s r sl p : Int) (n1 c1 n2 c2 n3 c3 : Nat) (A1 A2 A3 : Option Addr) (nm : Nat → ByteArray) (sp ty ln : Nat → Int)
def blockB (p sl r : Int) (n1 n3 : Nat) (sp : Nat → Int) (n : Nat) (I : Nat → InstV) (t : TermV) : Bool := ((List.range n).all fun j => instB p sl r n1 n3 sp (I j)) && endB p sl r n1 n3 sp t
set_option maxRecDepth 100000 in
set_option maxHeartbeats 4000000 in
theorem isBlock_any (IA : Option Addr) (IL IC : Nat) (I : Nat → InstV) (t : TermV) (w : World) (hr : RAr w w.heap.size A1 n1 nm sp ty ln) (r0 : 0 ≤ r) (r1 : r ≤ 9223372036854775807) (p0 : 0 ≤ p) (p1 : p ≤ 9223372036854775807) (s0 : 0 ≤ sl) (s1 : sl ≤ 9223372036854775807) (hn1 : n1 ≤ 65536) (hn3 : n3 ≤ 65536) (hI : RIn w w.heap.size IA IL I) (hIL : IL ≤ 65536) :
    Calls Tryz.prog 100 #[.agg #[.int .i64 g, .int .i64 s, .int .i64 r, .int .i64 sl, .int .i64 p, .slice A1 n1 c1, .slice A2 n2 c2, .slice A3 n3 c3], .agg #[.slice IA IL IC, .int .i64 t.kind, .int .i64 t.sub, .int .i64 t.d.k, .int .i64 t.d.n, .int .i32 t.d.v, .int .i64 t.a.k, .int .i64 t.a.n, .int .i32 t.a.v, .int .i64 t.b.k, .int .i64 t.b.n, .int .i32 t.b.v, .int .i64 t.t0, .int .i64 t.t1]] w fun e w' => e = .returned (.bool (blockB p sl r n1 n3 sp IL I t)) ∧ Below w.heap.size w w' := by
  have HA := Lib.hid (fun (W : World) (hW : IsK w 55 #[.int .i64 g, .int .i64 s, .int .i64 r, .int .i64 sl, .int .i64 p, .slice A1 n1 c1, .slice A2 n2 c2, .slice A3 n3 c3] #[.slice IA IL IC, .int .i64 t.kind, .int .i64 t.sub, .int .i64 t.d.k, .int .i64 t.d.n, .int .i32 t.d.v, .int .i64 t.a.k, .int .i64 t.a.n, .int .i32 t.a.v, .int .i64 t.b.k, .int .i64 t.b.n, .int .i32 t.b.v, .int .i64 t.t0, .int .i64 t.t1] W) => allIn_any IL IC 131 (.agg #[.int .i64 g, .int .i64 s, .int .i64 r, .int .i64 sl, .int .i64 p, .slice A1 n1 c1, .slice A2 n2 c2, .slice A3 n3 c3]) IA I (fun j => instB p sl r n1 n3 sp (I j)) W hIL (hI.at hW.below) (enters_of Tryz.func131 (by kernel_rfl) rfl)
    (fun j V hj hV => isInst_any g s r sl p n1 c1 n2 c2 n3 c3 A1 A2 A3 nm sp ty ln (I j) V (hr.at (hW.below.trans (hV.mono hW.below.size))) r0 r1 p0 p1 s0 s1 hn1 hn3))
  have HE := Lib.hid (fun (W : World) (hW : IsK w 55 #[.int .i64 g, .int .i64 s, .int .i64 r, .int .i64 sl, .int .i64 p, .slice A1 n1 c1, .slice A2 n2 c2, .slice A3 n3 c3] #[.slice IA IL IC, .int .i64 t.kind, .int .i64 t.sub, .int .i64 t.d.k, .int .i64 t.d.n, .int .i32 t.d.v, .int .i64 t.a.k, .int .i64 t.a.n, .int .i32 t.a.v, .int .i64 t.b.k, .int .i64 t.b.n, .int .i32 t.b.v, .int .i64 t.t0, .int .i64 t.t1] W) => isEnd_any g s r sl p n1 c1 n2 c2 n3 c3 A1 A2 A3 nm sp ty ln t W (hr.at hW.below) r0 r1 p0 p1 s0 s1 hn1 hn3)
  simp only [TermV.val] at HE
  unfold blockB
  obtain ⟨ba, hba⟩ : ∃ ba, ((List.range IL).all fun j => instB p sl r n1 n3 sp (I j)) = ba := ⟨_, rfl⟩
  rw [hba] at HA ⊢
  obtain ⟨be, hbe⟩ : ∃ be, endB p sl r n1 n3 sp t = be := ⟨_, rfl⟩
  rw [hbe] at HE ⊢
  clear hba hbe hr hI
  have HB := Lib.hid (IsK.start (w := w) (T := 55) (K := #[.int .i64 g, .int .i64 s, .int .i64 r, .int .i64 sl, .int .i64 p, .slice A1 n1 c1, .slice A2 n2 c2, .slice A3 n3 c3]) (I := #[.slice IA IL IC, .int .i64 t.kind, .int .i64 t.sub, .int .i64 t.d.k, .int .i64 t.d.n, .int .i32 t.d.v, .int .i64 t.a.k, .int .i64 t.a.n, .int .i32 t.a.v, .int .i64 t.b.k, .int .i64 t.b.n, .int .i32 t.b.v, .int .i64 t.t0, .int .i64 t.t1]))
  cases ba
  · go_enter Tryz.func100, Tryz.ntmps100
    go_wp2_with (first | (go_at_call 130; (with_reducible refine (HA.out _ HB.out).mono ?_); rintro e w1 ⟨rfl, hb1⟩; have HX := Lib.hid (HB.out.step hb1); have ck := HX.out.ck; have ci := HX.out.ci; clear hb1))
    go_ret
    exact ⟨rfl, HX.out.below⟩
  · rw [Bool.true_and]
    go_enter Tryz.func100, Tryz.ntmps100
    go_wp2_with (first | (go_at_call 130; (with_reducible refine (HA.out _ HB.out).mono ?_); rintro e w1 ⟨rfl, hb1⟩; have HX := Lib.hid (HB.out.step hb1); have ck := HX.out.ck; have ci := HX.out.ci; clear hb1) | (go_at_call 132; (with_reducible refine (HE.out _ HX.out).mono ?_); rintro e w1 ⟨rfl, hb1⟩; have HY := Lib.hid (HX.out.step hb1); clear hb1))
    go_ret
    exact ⟨rfl, HY.out.below⟩
variable (hd rg bd : Nat → Int) (IA : Nat → Option Addr) (IL IC : Nat → Nat) (I : Nat → Nat → InstV) (T : Nat → TermV)
/-- The parts of a code in memory, all below block B. -/
structure CodeM (w : World) (B : Nat) : Prop where
  arr : RAr w B A1 n1 nm sp ty ln
  loops : RLo w B A2 n2 hd rg bd
  blocks : RBl w B A3 n3 IA IL IC T
  insts : ∀ j, j < n3 → RIn w B (IA j) (IL j) (I j)
  lens : ∀ j, j < n3 → IL j ≤ 65536
  names : ∀ j, (nm j).size ≤ 9223372036854775807
theorem CodeM.at {n1 n2 n3 : Nat} {A1 A2 A3 : Option Addr} {nm : Nat → ByteArray} {sp ty ln hd rg bd : Nat → Int} {IA : Nat → Option Addr} {IL IC : Nat → Nat} {I : Nat → Nat → InstV} {T : Nat → TermV} {w W : World}
    (h : CodeM n1 n2 n3 A1 A2 A3 nm sp ty ln hd rg bd IA IL IC I T w w.heap.size) (hW : Below w.heap.size w W) : CodeM n1 n2 n3 A1 A2 A3 nm sp ty ln hd rg bd IA IL IC I T W W.heap.size :=
  ⟨h.arr.at hW, h.loops.at hW, h.blocks.at hW, fun j hj => (h.insts j hj).at hW, h.lens, h.names⟩
def formB (g s r sl p : Int) (n1 n2 n3 : Nat) (nm : Nat → ByteArray) (sp ty ln hd rg bd : Nat → Int) (IL : Nat → Nat) (I : Nat → Nat → InstV) (T : Nat → TermV) : Bool :=
  sizB g s r sl p && (((List.range n1).all fun j => arrB (nm j) (sp j) (ty j) (ln j)) && (((List.range n2).all fun j => loopB r n3 (hd j) (rg j) (bd j)) && (decide (0 < n3) && (List.range n3).all fun j => blockB p sl r n1 n3 sp (IL j) (I j) (T j))))
theorem sizB_pos {g s r sl p : Int} (h : sizB g s r sl p = true) : 0 ≤ r ∧ 0 ≤ sl ∧ 0 ≤ p := by
  unfold sizB at h
  simp only [Bool.and_eq_true, decide_eq_true_eq] at h
  exact ⟨h.2.2.2.2.1, h.2.2.2.2.2.1, h.2.2.2.2.2.2⟩
set_option maxRecDepth 100000 in
set_option maxHeartbeats 8000000 in
theorem formed_any (w : World) (hc : CodeM n1 n2 n3 A1 A2 A3 nm sp ty ln hd rg bd IA IL IC I T w w.heap.size) (r1 : r ≤ 9223372036854775807) (p1 : p ≤ 9223372036854775807) (s1 : sl ≤ 9223372036854775807) (hn1 : n1 ≤ 65536) (hn2 : n2 ≤ 65536) (hn3 : n3 ≤ 65536) :
    Calls Tryz.prog 55 #[.agg #[.int .i64 g, .int .i64 s, .int .i64 r, .int .i64 sl, .int .i64 p, .slice A1 n1 c1, .slice A2 n2 c2, .slice A3 n3 c3]] w fun e w' => e = .returned (.bool (formB g s r sl p n1 n2 n3 nm sp ty ln hd rg bd IL I T)) ∧ Below w.heap.size w w' := by
  have HS := Lib.hid (fun (W : World) => sized_any g s r sl p n1 c1 n2 c2 n3 c3 A1 A2 A3 W)
  have HA := Lib.hid (fun (W : World) (hW : OneK w 110 #[.int .i64 g, .int .i64 s, .int .i64 r, .int .i64 sl, .int .i64 p, .slice A1 n1 c1, .slice A2 n2 c2, .slice A3 n3 c3] W) => allArr_any n1 c1 96 A1 nm sp ty ln (fun j => arrB (nm j) (sp j) (ty j) (ln j)) W hn1 (hc.arr.at hW.below) (enters_of Tryz.func96 (by kernel_rfl) rfl) (fun j V _ => isArray_any (nm j) (sp j) (ty j) (ln j) V (hc.names j)))
  have HL := Lib.hid (fun (W : World) (hW : OneK w 110 #[.int .i64 g, .int .i64 s, .int .i64 r, .int .i64 sl, .int .i64 p, .slice A1 n1 c1, .slice A2 n2 c2, .slice A3 n3 c3] W) (r0 : 0 ≤ r) => allLo_any n2 c2 98 (.agg #[.int .i64 g, .int .i64 s, .int .i64 r, .int .i64 sl, .int .i64 p, .slice A1 n1 c1, .slice A2 n2 c2, .slice A3 n3 c3]) A2 hd rg bd (fun j => loopB r n3 (hd j) (rg j) (bd j)) W hn2 (hc.loops.at hW.below) (enters_of Tryz.func98 (by kernel_rfl) rfl) (fun j V _ _ => isLoop_any g s r sl p n1 c1 n2 c2 n3 c3 A1 A2 A3 (hd j) (rg j) (bd j) V hn3 r0 r1))
  have HB := Lib.hid (fun (W : World) (hW : OneK w 110 #[.int .i64 g, .int .i64 s, .int .i64 r, .int .i64 sl, .int .i64 p, .slice A1 n1 c1, .slice A2 n2 c2, .slice A3 n3 c3] W) (hp : 0 ≤ r ∧ 0 ≤ sl ∧ 0 ≤ p) => allBl_any n3 c3 100 (.agg #[.int .i64 g, .int .i64 s, .int .i64 r, .int .i64 sl, .int .i64 p, .slice A1 n1 c1, .slice A2 n2 c2, .slice A3 n3 c3]) A3 IA IL IC T (fun j => blockB p sl r n1 n3 sp (IL j) (I j) (T j)) W hn3 (hc.blocks.at hW.below) (enters_of Tryz.func100 (by kernel_rfl) rfl)
    (fun j V hj hV => isBlock_any g s r sl p n1 c1 n2 c2 n3 c3 A1 A2 A3 nm sp ty ln (IA j) (IL j) (IC j) (I j) (T j) V (hc.arr.at (hW.below.trans (hV.mono hW.below.size))) hp.1 r1 hp.2.2 p1 hp.2.1 s1 hn1 hn3 ((hc.insts j hj).at (hW.below.trans (hV.mono hW.below.size))) (hc.lens j hj)))
  have HP := Lib.hid (fun h => sizB_pos (g := g) (s := s) (r := r) (sl := sl) (p := p) h)
  unfold formB
  obtain ⟨z1, hz1⟩ : ∃ z, sizB g s r sl p = z := ⟨_, rfl⟩
  rw [hz1] at HS HP ⊢
  obtain ⟨z2, hz2⟩ : ∃ z, ((List.range n1).all fun j => arrB (nm j) (sp j) (ty j) (ln j)) = z := ⟨_, rfl⟩
  rw [hz2] at HA ⊢
  obtain ⟨z3, hz3⟩ : ∃ z, ((List.range n2).all fun j => loopB r n3 (hd j) (rg j) (bd j)) = z := ⟨_, rfl⟩
  rw [hz3] at HL ⊢
  obtain ⟨z5, hz5⟩ : ∃ z, ((List.range n3).all fun j => blockB p sl r n1 n3 sp (IL j) (I j) (T j)) = z := ⟨_, rfl⟩
  rw [hz5] at HB ⊢
  clear hz1 hz2 hz3 hz5 hc
  have HK0 := Lib.hid (OneK.start (w := w) (T := 110) (K := #[.int .i64 g, .int .i64 s, .int .i64 r, .int .i64 sl, .int .i64 p, .slice A1 n1 c1, .slice A2 n2 c2, .slice A3 n3 c3]))
  cases z1
  · go_enter Tryz.func55, Tryz.ntmps55
    go_wp2_with (first | (go_at_call 95; (with_reducible refine (HS.out _).mono ?_); rintro e w1 ⟨rfl, hb1⟩; have HK2 := Lib.hid (HK0.out.step hb1); clear HK0; clear hb1; have HK := HK2; clear HK2; have ck := HK.out.ck))
    go_ret
    exact ⟨rfl, HK.out.below⟩
  · have HP1 := Lib.hid (HP.out rfl)
    clear HP
    rw [Bool.true_and]
    cases z2
    · go_enter Tryz.func55, Tryz.ntmps55
      go_wp2_with (first | (go_at_call 95; (with_reducible refine (HS.out _).mono ?_); rintro e w1 ⟨rfl, hb1⟩; have HK2 := Lib.hid (HK0.out.step hb1); clear HK0; clear hb1; have HK := HK2; clear HK2; have ck := HK.out.ck) | (go_at_call 93; (with_reducible refine (HA.out _ HK.out).mono ?_); rintro e w1 ⟨rfl, hb1⟩; have HK2 := Lib.hid (HK.out.step hb1); clear HK ck; clear hb1; have HK := HK2; clear HK2; have ck := HK.out.ck))
      go_ret
      exact ⟨rfl, HK.out.below⟩
    · rw [Bool.true_and]
      cases z3
      · go_enter Tryz.func55, Tryz.ntmps55
        go_wp2_with (first | (go_at_call 95; (with_reducible refine (HS.out _).mono ?_); rintro e w1 ⟨rfl, hb1⟩; have HK2 := Lib.hid (HK0.out.step hb1); clear HK0; clear hb1; have HK := HK2; clear HK2; have ck := HK.out.ck) | (go_at_call 93; (with_reducible refine (HA.out _ HK.out).mono ?_); rintro e w1 ⟨rfl, hb1⟩; have HK2 := Lib.hid (HK.out.step hb1); clear HK ck; clear hb1; have HK := HK2; clear HK2; have ck := HK.out.ck) | (go_at_call 97; (with_reducible refine (HL.out _ HK.out HP1.out.1).mono ?_); rintro e w1 ⟨rfl, hb1⟩; have HK2 := Lib.hid (HK.out.step hb1); clear HK ck; clear hb1; have HK := HK2; clear HK2; have ck := HK.out.ck))
        go_ret
        exact ⟨rfl, HK.out.below⟩
      · rw [Bool.true_and]
        by_cases h0 : 0 < n3
        · rw [decide_eq_true h0, Bool.true_and]
          go_enter Tryz.func55, Tryz.ntmps55
          go_wp2_with (first | (go_at_call 95; (with_reducible refine (HS.out _).mono ?_); rintro e w1 ⟨rfl, hb1⟩; have HK2 := Lib.hid (HK0.out.step hb1); clear HK0; clear hb1; have HK := HK2; clear HK2; have ck := HK.out.ck) | (go_at_call 93; (with_reducible refine (HA.out _ HK.out).mono ?_); rintro e w1 ⟨rfl, hb1⟩; have HK2 := Lib.hid (HK.out.step hb1); clear HK ck; clear hb1; have HK := HK2; clear HK2; have ck := HK.out.ck) | (go_at_call 97; (with_reducible refine (HL.out _ HK.out HP1.out.1).mono ?_); rintro e w1 ⟨rfl, hb1⟩; have HK2 := Lib.hid (HK.out.step hb1); clear HK ck; clear hb1; have HK := HK2; clear HK2; have ck := HK.out.ck) | (go_at_call 99; (with_reducible refine (HB.out _ HK.out HP1.out).mono ?_); rintro e w1 ⟨rfl, hb1⟩; have HK2 := Lib.hid (HK.out.step hb1); clear HK ck; clear hb1; have HK := HK2; clear HK2; have ck := HK.out.ck))
          go_ret
          exact ⟨rfl, HK.out.below⟩
        · rw [decide_eq_false h0, Bool.false_and]
          have h00 : n3 = 0 := by omega
          subst h00
          go_enter Tryz.func55, Tryz.ntmps55
          go_wp2_with (first | (go_at_call 95; (with_reducible refine (HS.out _).mono ?_); rintro e w1 ⟨rfl, hb1⟩; have HK2 := Lib.hid (HK0.out.step hb1); clear HK0; clear hb1; have HK := HK2; clear HK2; have ck := HK.out.ck) | (go_at_call 93; (with_reducible refine (HA.out _ HK.out).mono ?_); rintro e w1 ⟨rfl, hb1⟩; have HK2 := Lib.hid (HK.out.step hb1); clear HK ck; clear hb1; have HK := HK2; clear HK2; have ck := HK.out.ck) | (go_at_call 97; (with_reducible refine (HL.out _ HK.out HP1.out.1).mono ?_); rintro e w1 ⟨rfl, hb1⟩; have HK2 := Lib.hid (HK.out.step hb1); clear HK ck; clear hb1; have HK := HK2; clear HK2; have ck := HK.out.ck))
          go_ret
          exact ⟨rfl, HK.out.below⟩
/-- The error that Check returns. -/
def checkE (g s r sl p : Int) (n1 n2 n3 : Nat) (nm : Nat → ByteArray) (sp ty ln hd rg bd : Nat → Int) (IL : Nat → Nat) (I : Nat → Nat → InstV) (T : Nat → TermV) : Int :=
  if limB r sl p n1 n2 n3 IL nm = true then (if formB g s r sl p n1 n2 n3 nm sp ty ln hd rg bd IL I T = true then 0 else 50) else 2
theorem limB_bounds {r sl p : Int} {n1 n2 n3 : Nat} {IL : Nat → Nat} {nm : Nat → ByteArray} (h : limB r sl p n1 n2 n3 IL nm = true) : n1 ≤ 8 ∧ n2 ≤ 400 ∧ n3 ≤ 400 ∧ r ≤ 256 ∧ sl ≤ 256 ∧ p ≤ 8 := by
  unfold limB at h
  simp only [Bool.and_eq_true, decide_eq_true_eq] at h
  exact ⟨h.1, h.2.1, h.2.2.1, h.2.2.2.1, h.2.2.2.2.1, h.2.2.2.2.2.1⟩
set_option maxRecDepth 100000 in
set_option maxHeartbeats 4000000 in
theorem Check_any (w : World) (hc : CodeM n1 n2 n3 A1 A2 A3 nm sp ty ln hd rg bd IA IL IC I T w w.heap.size) (hm1 : n1 ≤ 9223372036854775807) (hm2 : n2 ≤ 9223372036854775807) (hm3 : n3 ≤ 9223372036854775807) :
    Calls Tryz.prog 17 #[.agg #[.int .i64 g, .int .i64 s, .int .i64 r, .int .i64 sl, .int .i64 p, .slice A1 n1 c1, .slice A2 n2 c2, .slice A3 n3 c3]] w fun e w' => e = .returned (.int .i64 (checkE g s r sl p n1 n2 n3 nm sp ty ln hd rg bd IL I T)) ∧ Below w.heap.size w w' := by
  have HL := Lib.hid (fun (W : World) (hW : OneK w 36 #[.int .i64 g, .int .i64 s, .int .i64 r, .int .i64 sl, .int .i64 p, .slice A1 n1 c1, .slice A2 n2 c2, .slice A3 n3 c3] W) => limited_any g s r sl p n1 c1 n2 c2 n3 c3 A1 A2 A3 nm sp ty ln IA IL IC T W (hc.arr.at hW.below) (hc.blocks.at hW.below) hc.lens hm2 hm1 hm3)
  have HF := Lib.hid (fun (W : World) (hW : OneK w 36 #[.int .i64 g, .int .i64 s, .int .i64 r, .int .i64 sl, .int .i64 p, .slice A1 n1 c1, .slice A2 n2 c2, .slice A3 n3 c3] W) (hb : n1 ≤ 8 ∧ n2 ≤ 400 ∧ n3 ≤ 400 ∧ r ≤ 256 ∧ sl ≤ 256 ∧ p ≤ 8) => formed_any g s r sl p n1 c1 n2 c2 n3 c3 A1 A2 A3 nm sp ty ln hd rg bd IA IL IC I T W (hc.at hW.below) (by omega) (by omega) (by omega) (by omega) (by omega) (by omega))
  have HBD := Lib.hid (fun h => limB_bounds (r := r) (sl := sl) (p := p) (n1 := n1) (n2 := n2) (n3 := n3) (IL := IL) (nm := nm) h)
  unfold checkE
  obtain ⟨zl, hzl⟩ : ∃ z, limB r sl p n1 n2 n3 IL nm = z := ⟨_, rfl⟩
  rw [hzl] at HL HBD ⊢
  obtain ⟨zf, hzf⟩ : ∃ z, formB g s r sl p n1 n2 n3 nm sp ty ln hd rg bd IL I T = z := ⟨_, rfl⟩
  rw [hzf] at HF ⊢
  clear hzl hzf hc
  have HK0 := Lib.hid (OneK.start (w := w) (T := 36) (K := #[.int .i64 g, .int .i64 s, .int .i64 r, .int .i64 sl, .int .i64 p, .slice A1 n1 c1, .slice A2 n2 c2, .slice A3 n3 c3]))
  cases zl
  · rw [if_neg (by decide)]
    go_enter Tryz.func17, Tryz.ntmps17
    go_wp2_with (first | (go_at_call 54; (with_reducible refine (HL.out _ HK0.out).mono ?_); rintro e w1 ⟨rfl, hb1⟩; have HK2 := Lib.hid (HK0.out.step hb1); clear HK0; clear hb1; have HK := HK2; clear HK2; have ck := HK.out.ck))
    go_ret
    exact ⟨rfl, HK.out.below⟩
  · have HB1 := Lib.hid (HBD.out rfl)
    clear HBD
    rw [if_pos rfl]
    cases zf
    · rw [if_neg (by decide)]
      go_enter Tryz.func17, Tryz.ntmps17
      go_wp2_with (first | (go_at_call 54; (with_reducible refine (HL.out _ HK0.out).mono ?_); rintro e w1 ⟨rfl, hb1⟩; have HK2 := Lib.hid (HK0.out.step hb1); clear HK0; clear hb1; have HK := HK2; clear HK2; have ck := HK.out.ck) | (go_at_call 55; (with_reducible refine (HF.out _ HK.out HB1.out).mono ?_); rintro e w1 ⟨rfl, hb1⟩; have HK2 := Lib.hid (HK.out.step hb1); clear HK ck; clear hb1; have HK := HK2; clear HK2; have ck := HK.out.ck))
      go_ret
      exact ⟨rfl, HK.out.below⟩
    · rw [if_pos rfl]
      go_enter Tryz.func17, Tryz.ntmps17
      go_wp2_with (first | (go_at_call 54; (with_reducible refine (HL.out _ HK0.out).mono ?_); rintro e w1 ⟨rfl, hb1⟩; have HK2 := Lib.hid (HK0.out.step hb1); clear HK0; clear hb1; have HK := HK2; clear HK2; have ck := HK.out.ck) | (go_at_call 55; (with_reducible refine (HF.out _ HK.out HB1.out).mono ?_); rintro e w1 ⟨rfl, hb1⟩; have HK2 := Lib.hid (HK.out.step hb1); clear HK ck; clear hb1; have HK := HK2; clear HK2; have ck := HK.out.ck))
      go_ret
      exact ⟨rfl, HK.out.below⟩
end
end Go.Proofs.YtkncilgmlkeifaaGreatDoor
