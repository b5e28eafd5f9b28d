/-
  The walk of LaunchMatchesReference.
-/
import Derived.Test.YtjknmancnfeifaaMatL
import Derived.Deep.DeepCutAuto
set_option linter.unusedVariables false
set_option linter.unusedSimpArgs false
namespace Go.Proofs.Ytjknmancnfeifaa
open Go.ChangeShapes Go.WideShapes Go.ChangeAt Go.RowKit
attribute [local go_sem ↓] Go.wp_at_zero Go.wp_at_succ

set_option maxRecDepth 100000 in
set_option maxHeartbeats 8000000 in
theorem matches_walk (a c d gl x0 y0 : Int) (nx cx nl cl : Nat) (AX AL : Option Addr) (x : Nat → Int) (w : World) (a0 : 0 ≤ a) (a1 : a ≤ 255) (c0 : 0 ≤ c) (c1 : c ≤ 255) (d0 : 0 ≤ d) (d1 : d ≤ 255) (hx0 : ∀ j, 0 ≤ x j ∧ x j ≤ 255)
    (hr : RF w w.heap.size .u8 AX nx x) :
    Calls Try.prog 3 #[.agg #[.int .u8 a, .int .u8 c, .int .u8 d, .slice AX nx cx], .agg #[.int .i64 gl, .slice AL nl cl], .agg #[.int .i64 x0, .int .i64 y0]] w fun e w' => e = .returned (.bool true) ∧ Below w.heap.size w w' := by
  have hb41 := fun n W => build41 n W
  obtain ⟨n, n0, n1, hbn⟩ := andK x0 3 (by omega)
  obtain ⟨x2, x20, x21, hbx⟩ := andK x0 255 (by omega)
  obtain ⟨y2, y20, y21, hby⟩ := andK y0 7 (by omega)
  have hbn : bits BinOp.and IntKind.i64 x0 3 = n := hbn
  have hbx : bits BinOp.and IntKind.i64 x0 255 = x2 := hbx
  have hby : bits BinOp.and IntKind.i64 y0 7 = y2 := hby
  have wn256 : n % 256 = n := by omega
  have wn : IntKind.u8.wrap n = n := by
    have : n = 0 ∨ n = 1 ∨ n = 2 ∨ n = 3 := by omega
    rcases this with rfl | rfl | rfl | rfl <;> decide +kernel
  obtain ⟨p, hp⟩ : ∃ p : Nat, d % 4 = (p : Int) := ⟨(d % 4).toNat, by omega⟩
  have hp3 : p ≤ 3 := by omega
  have hchk := chk_shape a c n p a0 c0 hp3
  obtain ⟨_, hg1, hg2⟩ := shape_ok a c a0 c0
  have HX := Lib.hid hx0
  have HR := Lib.hid hr
  have HC := Lib.hid (fun (W : World) hW => Code_any a c d nx cx AX x W a0 a1 c0 c1 d0 d1 HX.out (HR.out.on (w' := W) hW))
  rw [hp] at HC
  obtain ⟨nA, hnA⟩ : ∃ nA, min nx 8 = nA := ⟨_, rfl⟩
  rw [hnA] at HC
  obtain ⟨g, hg⟩ : ∃ g, grpV a c = g := ⟨_, rfl⟩
  obtain ⟨s, hs⟩ : ∃ s, subV a = s := ⟨_, rfl⟩
  obtain ⟨gr, hgr⟩ : ∃ gr, 1 + n % 3 = gr := ⟨_, rfl⟩
  rw [hg, hs] at HC
  rw [hg, hs, hgr] at hchk
  rw [hg] at hg1 hg2
  have HL := Lib.hid (fun (W : World) (na ca : Nat) AA => Launch_any g s n p na ca AA W hg1 hg2 hp3 n0 (by omega))
  rw [hgr] at HL
  have hcv : chkV g s p gr p = 0 := by unfold chkV; rw [hchk]
  have HK := Lib.hid hchk
  have HCV := Lib.hid hcv
  have HBX := Lib.hid hbx
  have HBY := Lib.hid hby
  clear hx0 hr hp hnA hg hs hgr hchk hcv hbx hby
  by_cases hn20 : 20 < nl
  · go_enter Try.func3, Try.ntmps3
    go_wp2_with (go_at_call 9; (with_reducible refine (examples_any _).mono ?_); rintro e w1 ⟨rfl, hb1⟩; obtain ⟨hcel, _⟩ := bcell hb1; have HB1 := Lib.hid (((((Below.refl w.heap.size w).alloc (Nat.le_refl _) _).alloc (by simp) _).alloc (by simp; omega) _).trans (hb1.mono (by simp; omega))); clear hb1)
    go_ret
    exact ⟨rfl, HB1.out⟩
  · go_enter Try.func3, Try.ntmps3
    go_upto_region 9 with (first
      | (go_at_call 9; (with_reducible refine (examples_any _).mono ?_); rintro e w1 ⟨rfl, hb1⟩; obtain ⟨hcel, _⟩ := bcell hb1; have HA1 := Lib.hid hb1; have HB1 := Lib.hid (((((Below.refl w.heap.size w).alloc (Nat.le_refl _) _).alloc (by simp) _).alloc (by simp; omega) _).trans (hb1.mono (by simp; omega))); have hz1 : w.heap.size + 2 < w1.heap.size := (by have := hb1.size; simp at this; omega); clear hb1)
      | (go_at_call 10; (with_reducible refine (HC.out _ HB1.out).mono ?_); rintro e w2 ⟨A2, c2, rfl, _, hb2⟩; obtain ⟨hcel2, _⟩ := bcell hb2; have HB2 := Lib.hid hb2; have hz2 : w.heap.size + 2 < w2.heap.size := (by have := hb2.size; omega); clear hb2)
      | (go_at_call 11; (with_reducible refine (HL.out _ _ _ _).mono ?_); rintro e w3 ⟨A3, c3, rfl, hb3⟩; obtain ⟨hcel3, _⟩ := bcell hb3; have HB3 := Lib.hid hb3; have hz3 : w2.heap.size < w3.heap.size := (by have := hb3.size; simp at this; omega); clear hb3))
    have hM := M0.start (gr := gr) (c3 := c3) (AR := A3) (by have := HA1.out; simp only [World.size_alloc] at this; exact this) HB2.out (by have := HB3.out; simp only [World.size_alloc] at this; exact this)
    clear hcel hcel2 hcel3 hz1 hz2 hz3 HA1 HB1 HB2 HB3 HC HL
    revert hM
    generalize (w3.alloc _).alloc _ = W
    generalize w2.heap.size = B8
    generalize w3.heap.size + 1 = B10
    generalize w3.heap.size = B9
    generalize w.heap.size + 1 + 1 = B5
    generalize w.heap.size + 1 = B4
    intro hM
    go_cut [10] (fun v10 wx => v10 = .pointer (some ⟨B10, 0, none⟩) ∧ ML w B8 B9 B4 B10 B5 g s gr gl x0 y0 p nA c2 c3 nl cl A2 A3 AL wx)
    case first =>
      have e0 := hM.at2.c0
      have e1 := hM.at2.c1
      have o0 := hM.od.c0
      have o1 := hM.od.c1
      have f0 := hM.od.free (i := 0)
      have f1 := hM.od.free (i := 1)
      have h5 := hM.n5
      have h5' : ¬ B10 = B5 := fun e => h5 e.symm
      have HM := Lib.hid hM
      clear hM
      go_region
      all_goals
        go_wp2
        go_meet
        first | exact ⟨rfl, (M0.stored HM.out).drew⟩ | exact ⟨rfl, (M0.stored' HM.out).drew⟩
    case rest =>
      obtain ⟨rfl, hM2⟩ := hcut
      clear hM
      have hcv := HCV.out
      obtain ⟨V, hVe⟩ : ∃ V, wc = V := ⟨_, rfl⟩
      rw [hVe] at hM2 ⊢
      clear hVe
      go_upto_region 10 with fail
      go_region_held3 (fun w' => w'.cell? ⟨B8, 0, none⟩ = some (.int .i64 g) ∧ w'.cell? ⟨B8, 1, none⟩ = some (.int .i64 s) ∧ w'.cell? ⟨B8, 2, none⟩ = some (.int .i64 0) ∧ w'.cell? ⟨B8, 3, none⟩ = some (.int .i64 0) ∧ w'.cell? ⟨B8, 4, none⟩ = some (.int .i64 p) ∧ w'.cell? ⟨B8, 5, none⟩ = some (.slice A2 nA c2) ∧ w'.cell? ⟨B8, 6, none⟩ = some (.slice none 0 0) ∧ w'.cell? ⟨B8, 7, none⟩ = some (.slice none 0 0) ∧ w'.cell? ⟨B9, 0, none⟩ = some (.int .i64 gr) ∧ w'.cell? ⟨B9, 1, none⟩ = some (.slice A3 p c3) ∧ w'.cell? ⟨B4, 0, none⟩ = some (.int .i64 gl) ∧ w'.cell? ⟨B4, 1, none⟩ = some (.slice AL nl cl) ∧ w'.cell? ⟨B10, 0, none⟩ = some (.int .i64 x0) ∧ w'.cell? ⟨B10, 1, none⟩ = some (.int .i64 y0) ∧ w'.cell? ⟨B10, 2, none⟩ = some (.int .i64 0) ∧ w'.cell? ⟨B10, 3, none⟩ = some (.int .i64 0) ∧ w'.cell? ⟨B10, 4, none⟩ = some (.int .i64 p) ∧ w'.cell? ⟨B10, 5, none⟩ = some (.slice A2 nA c2) ∧ w'.cell? ⟨B10, 6, none⟩ = some (.slice none 0 0) ∧ w'.cell? ⟨B10, 7, none⟩ = some (.slice none 0 0) ∧ ML w B8 B9 B4 B10 B5 g s gr gl x0 y0 p nA c2 c3 nl cl A2 A3 AL w') ((refine ML.all ?_; repeat' (first | assumption | exact ML.of (by assumption) | with_reducible apply ML.drew | with_reducible apply ML.alloc))) (first
        | (go_at_call 12; (with_reducible refine (check_M (w := w) (B8 := B8) (B9 := B9) (B4 := B4) (B10 := B10) (B5 := B5) (g := g) (s := s) (gr := gr) (gl := gl) (x := x0) (y := y0) (p := p) (na := nA) (ca := c2) (c3 := c3) (nl := nl) (cl := cl) (AA := A2) (AR := A3) (AL := AL) (by first | assumption | exact ML.of (by assumption)) _ _ _ _ _ _ _ _ _ _).mono ?_); rintro e z1 ⟨rfl, hv1⟩)
        | (go_at_call 13; (with_reducible refine (rcheck_M (w := w) (B8 := B8) (B9 := B9) (B4 := B4) (B10 := B10) (B5 := B5) (g := g) (s := s) (gr := gr) (gl := gl) (x := x0) (y := y0) (p := p) (na := nA) (ca := c2) (c3 := c3) (nl := nl) (cl := cl) (AA := A2) (AR := A3) (AL := AL) (by first | assumption | exact ML.of (by assumption)) _ _ _ _ _ _ _ _ _ _).mono ?_); rintro e z2 ⟨rfl, hv2⟩))
      all_goals
        have e0 := hv2.at2.c0
        have e1 := hv2.at2.c1
        have hbx := HBX.out
        have hby := HBY.out
        go_upto_region 13 with fail
        have hN := MN.start hv2 x2 y2
        clear e0 e1 hbx hby hv1 hv2
        revert hN
        generalize z2.alloc _ = Z
        generalize z2.heap.size = B11
        intro hN
        go_region_held3 (fun w' => w'.cell? ⟨B8, 0, none⟩ = some (.int .i64 g) ∧ w'.cell? ⟨B8, 1, none⟩ = some (.int .i64 s) ∧ w'.cell? ⟨B8, 2, none⟩ = some (.int .i64 0) ∧ w'.cell? ⟨B8, 3, none⟩ = some (.int .i64 0) ∧ w'.cell? ⟨B8, 4, none⟩ = some (.int .i64 p) ∧ w'.cell? ⟨B8, 5, none⟩ = some (.slice A2 nA c2) ∧ w'.cell? ⟨B8, 6, none⟩ = some (.slice none 0 0) ∧ w'.cell? ⟨B8, 7, none⟩ = some (.slice none 0 0) ∧ w'.cell? ⟨B9, 0, none⟩ = some (.int .i64 gr) ∧ w'.cell? ⟨B9, 1, none⟩ = some (.slice A3 p c3) ∧ w'.cell? ⟨B5, 0, none⟩ = some (.int .i64 x0) ∧ w'.cell? ⟨B5, 1, none⟩ = some (.int .i64 y0) ∧ w'.cell? ⟨B11, 0, none⟩ = some (.int .i64 x2) ∧ w'.cell? ⟨B11, 1, none⟩ = some (.int .i64 y2) ∧ MN w B8 B9 B5 B11 g s gr x0 y0 x2 y2 p nA c2 c3 A2 A3 w') ((refine MN.all ?_; repeat' (first | assumption | exact MN.of (by assumption) | with_reducible apply MN.drew | with_reducible apply MN.alloc))) (first
          | (go_at_call 14; (with_reducible refine (id_M (w := w) (B8 := B8) (B9 := B9) (B5 := B5) (B11 := B11) (g := g) (s := s) (gr := gr) (x := x0) (y := y0) (x2 := x2) (y2 := y2) (p := p) (na := nA) (ca := c2) (c3 := c3) (AA := A2) (AR := A3) (by first | assumption | exact MN.of (by assumption)) HK.out _ _).mono ?_); rintro e z3 ⟨rfl, hv3⟩)
          | (go_at_call 15; (with_reducible refine (IdIn_M (w := w) (B8 := B8) (B9 := B9) (B5 := B5) (B11 := B11) (g := g) (s := s) (gr := gr) (x := x0) (y := y0) (x2 := x2) (y2 := y2) (p := p) (na := nA) (ca := c2) (c3 := c3) (AA := A2) (AR := A3) (by first | assumption | exact MN.of (by assumption)) HK.out _ _).mono ?_); rintro e z4 ⟨rfl, hv4⟩))
        all_goals
          go_wp2
          go_ret
          exact ⟨rfl, hv4.bel⟩
end Go.Proofs.Ytjknmancnfeifaa
