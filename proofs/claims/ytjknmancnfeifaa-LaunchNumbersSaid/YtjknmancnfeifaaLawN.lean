/-
  The walk of LaunchNumbers.
-/
import Derived.Test.YtjknmancnfeifaaNumL
import Derived.Deep.QuietTactic
import Derived.BigQuiet
set_option linter.unusedVariables false
set_option linter.unusedSimpArgs false
namespace Go.Proofs.Ytjknmancnfeifaa
open Go.ChangeShapes Go.WideShapes Go.ChangeAt Go.RowKit Go.BigFrame
attribute [local go_sem ↓] Go.wp_at_zero Go.wp_at_succ

theorem news2 (w : World) (o : Obj) (x : Value) (t : TypeId) : ((w.alloc o).alloc (.cells #[x] t)).heap[w.heap.size + 1]? = some (.cells #[x] t (0, 0)) := by
  have := heap_alloc_new (w.alloc o) (.cells #[x] t)
  rw [World.size_alloc] at this
  exact this
set_option maxRecDepth 100000 in
set_option maxHeartbeats 8000000 in
theorem numbers_walk (a c d n it : Int) (nx cx : Nat) (AX : Option Addr) (x : Nat → Int) (w : World) (a0 : 0 ≤ a) (a1 : a ≤ 255) (c0 : 0 ≤ c) (c1 : c ≤ 255) (d0 : 0 ≤ d) (d1 : d ≤ 255) (n0 : 0 ≤ n) (n1 : n ≤ 255) (i0 : 0 ≤ it) (i1 : it ≤ 255) (hx0 : ∀ j, 0 ≤ x j ∧ x j ≤ 255)
    (hr : RF w w.heap.size .u8 AX nx x) :
    Calls Try.prog 4 #[.agg #[.int .u8 a, .int .u8 c, .int .u8 d, .slice AX nx cx], .int .u8 n, .int .u8 it] w fun e w' => e = .returned (.bool true) ∧ Below w.heap.size w w' := by
  obtain ⟨j0, hj, hy0, hy1, hy2⟩ := info_parts info3
  have f45 := fld45_1
  have hb41 := fun W => build41 n W
  obtain ⟨p, hp⟩ : ∃ p : Nat, d % 4 = (p : Int) := ⟨(d % 4).toNat, by omega⟩
  have hp3 : p ≤ 3 := by omega
  have hchk := chk_shape a c n p a0 c0 hp3
  obtain ⟨_, hg1, hg2⟩ := shape_ok a c a0 c0
  have HX := Lib.hid hx0
  have HR := Lib.hid hr
  have HC := Lib.hid (fun (W : World) hW => Code_any a c d nx cx AX x W a0 a1 c0 c1 d0 d1 HX.out (HR.out.on (w' := W) hW))
  rw [hp] at HC
  obtain ⟨nA, hnA⟩ : ∃ nA, min nx 8 = nA := ⟨_, rfl⟩
  rw [hnA] at HC
  obtain ⟨g, hg⟩ : ∃ g, grpV a c = g := ⟨_, rfl⟩
  obtain ⟨s, hs⟩ : ∃ s, subV a = s := ⟨_, rfl⟩
  obtain ⟨gr, hgr⟩ : ∃ gr, 1 + n % 3 = gr := ⟨_, rfl⟩
  rw [hg, hs] at HC
  rw [hg, hs, hgr] at hchk
  rw [hg] at hg1 hg2
  have HL := Lib.hid (fun (W : World) (na ca : Nat) AA => Launch_any g s n p na ca AA W hg1 hg2 hp3 n0 n1)
  rw [hgr] at HL
  clear hx0 hr hp hnA hg hs hgr
  obtain ⟨_, _, s1, s2, gr1, gg1, gg2, gr2⟩ := chk_pos hchk
  have HK := Lib.hid hchk
  clear hchk
  go_enter Try.func4, Try.ntmps4
  go_upto_region 6 with (first
    | (go_at_call 9; (with_reducible refine (examples_any _).mono ?_); rintro e w1 ⟨rfl, hb1⟩; obtain ⟨hcel, _⟩ := bcell hb1; have HB1 := Lib.hid (((Below.refl w.heap.size w).alloc (Nat.le_refl _) _).trans (hb1.mono (by simp))); have hz1 : w.heap.size < w1.heap.size := (by have := hb1.size; simp at this; omega); clear hb1)
    | (go_at_call 10; (with_reducible refine (HC.out _ HB1.out).mono ?_); rintro e w2 ⟨A2, c2, rfl, _, hb2⟩; have HB2 := Lib.hid (HB1.out.trans (hb2.mono HB1.out.size)); clear hb2)
    | (go_at_call 11; (with_reducible refine (HL.out _ _ _ _).mono ?_); rintro e w3 ⟨A3, c3, rfl, hb3⟩; have HB3 := Lib.hid hb3; clear hb3))
  have hbox := (heap_alloc_new w2 (.cells #[.int .i64 g, .int .i64 s, .int .i64 0, .int .i64 0, .int .i64 p, .slice A2 nA c2, .slice none 0 0, .slice none 0 0] 34))
  have hN : NB w w2.heap.size w3.heap.size g s gr p nA c2 p c3 A2 A3 (w3.alloc (.cells #[.int .i64 gr, .slice A3 p c3] 27)) := by
    have h3 := HB3.out
    have hc3 : Cd w3 w2.heap.size g s p (.slice A2 nA c2) := (h3.block _ (by simp)).trans hbox
    refine ⟨hc3.of_block (Below.heap_alloc _ _ _ hc3.lt), heap_alloc_new _ _, ?_⟩
    exact (HB2.out.trans ((below_alloc _ _).mono HB2.out.size)).trans ((h3.mono (by have := HB2.out.size; simp; omega)).trans ((below_alloc _ _).mono (by have := HB2.out.size; have := h3.size; simp at this; omega)))
  obtain ⟨W, hW⟩ : ∃ W, w3.alloc (.cells #[.int .i64 gr, .slice A3 p c3] 27) = W := ⟨_, rfl⟩
  obtain ⟨B8, hB8⟩ : ∃ B8, w2.heap.size = B8 := ⟨_, rfl⟩
  obtain ⟨B9, hB9⟩ : ∃ B9, w3.heap.size = B9 := ⟨_, rfl⟩
  rw [hW, hB8, hB9] at hN
  rw [hW, hB8, hB9]
  clear hW hB8 hB9 hbox hcel hz1 HB1 HB2 HB3 HC HL
  have k0 := hN.cd.c0
  have l0 := hN.lb.c0
  obtain ⟨T, hT⟩ : ∃ T, gr * g = T := ⟨_, rfl⟩
  have hT1 : 1 ≤ T ∧ T ≤ 4096 := by omega
  obtain ⟨hT1, hT2⟩ := hT1
  obtain ⟨i, hi⟩ : ∃ i, it % T = i := ⟨_, rfl⟩
  have ti : it.tmod T = i := by rw [Int.tmod_eq_emod_of_nonneg i0]; exact hi
  have hi0 : 0 ≤ i := by rw [← hi]; exact Int.emod_nonneg _ (by omega)
  have hi1 : i < T := by rw [← hi]; exact Int.emod_lt_of_pos _ (by omega)
  have wit : IntKind.i64.wrap it = it := IntWalk.i64_in _ (by omega)
  have hT0 : ¬ T = 0 := by omega
  have HT := Lib.hid hT
  have HN := Lib.hid hN
  clear hN gg1 gg2
  go_upto_region 8 with fail
  clear k0 l0 wit ti hi hT
  go_wp2
  go_loopw [12, 13] (fun v op wr => ∃ k : Nat, k ≤ 7 ∧ op = .int .i64 ((k : Int) + 1) ∧ wr.ownsRow W.heap.size 3 1 v k (cellsI (fun j => idN g s gr i ((j : Int) + 1)) k) ∧ Below W.heap.size W wr) (fun _ op _ => 8 - (intOf op).toNat)
  case atStart => exact ⟨0, by omega, rfl, World.ownsRow_lit _ #[] 0 (Nat.le_refl _) (by unfold maxLen; omega) rfl, (Below.refl _ _).alloc (Nat.le_refl _) _⟩
  case round =>
    obtain ⟨k, hk, rfl, hown, hbel⟩ := hrel
    have hN := HN.out.on hbel
    have q0 := hN.cd.c0
    have q1 := hN.cd.c1
    have q2 := hN.cd.c2
    have q3 := hN.cd.c3
    have q4 := hN.cd.c4
    have q5 := hN.cd.c5
    have q6 := hN.cd.c6
    have q7 := hN.cd.c7
    have z0 := hN.lb.c0
    have z1 := hN.lb.c1
    have HNN := Lib.hid hN
    clear hN
    by_cases hk7 : k < 7
    · have hbd := idN_bd (op := (k : Int) + 1) hg1 s1 hi0 (by rw [HT.out]; exact hi1) (by rw [HT.out]; exact hT2)
      have HY := id_yes g s 0 0 p gr nA c2 0 0 0 0 p c3 A2 none none A3 i ((k : Int) + 1) wr HK.out (by omega) (by omega) hi0 (by rw [HT.out]; exact hi1)
      have hsucc := cellsI_succ (fun j => idN g s gr i ((j : Int) + 1)) k
      obtain ⟨y, hy⟩ : ∃ y, idN g s gr i ((k : Int) + 1) = y := ⟨_, rfl⟩
      have hsucc2 : cellsI (fun j => idN g s gr i ((j : Int) + 1)) (k + 1) = cellsI (fun j => idN g s gr i ((j : Int) + 1)) k ++ [.int .i64 y] := by rw [hsucc, ← hy]
      rw [hy] at hbd HY
      have hyb : 0 ≤ y ∧ y ≤ 4096 := by omega
      obtain ⟨hy0', hy1'⟩ := hyb
      have wy : IntKind.i64.wrap y = y := IntWalk.i64_in _ (by omega)
      have HYY := Lib.hid HY
      have HS2 := Lib.hid hsucc2
      have HB := Lib.hid hbel
      have HO := Lib.hid hown
      have hzz := hbel.size
      clear hbd HY hsucc hsucc2 hy hbel hown
      go_wp2_with (first
        | (go_at_call 14; (with_reducible refine HYY.out.mono ?_); rintro e w4 ⟨rfl, hb4⟩; have HO4 := Lib.hid (own_on HO.out hb4); have HB4 := Lib.hid (HB.out.trans (hb4.mono hzz)); have hz4 := hb4.size; clear hb4)
        | (at_builtin; refine wpList_append_own_at _ rfl _ _ 49 rfl W.heap.size 3 j0 (.int .i64 0) 1 8 Try.underlying49 hj hy0 hy1 hy2 rfl (by decide) _ _ _ rfl ((HO4.out.alloc _).alloc _) ⟨w4.heap.size + 1, 0, none⟩ 1 1 [.int .i64 y] rfl rfl (World.news_of_block (cs := #[.int .i64 y]) (t := 3) (fr := (0, 0)) (news2 w4 _ _ _)) (by simp [Value.oneCell']) (by unfold maxLen; omega) (by omega) (by simp; omega) ?_; intro v' w5 hown5 hgrow _ hat))
      go_roundw
      case rel => exact ⟨k + 1, by omega, by go_num, by rw [HS2.out]; exact hown5, ((HB4.out.alloc (by omega) _).alloc (by simp; omega) _).grown hgrow (by simp; omega) (fun j hj => (HO4.out.lt j hj).1)⟩
      case measure => simp [intOf]; omega
    · obtain rfl : k = 7 := by omega
      obtain ⟨bv, cv, rfl, hbv, hbv2⟩ := hown.form (by omega)
      have hcel : ∀ j, j < 7 → wr.cell? ⟨bv, j, none⟩ = some (.int .i64 (idN g s gr i ((j : Int) + 1))) := fun j hj => by
        rw [hown.cellAt j (by omega)]; simp [cellsI, hj]
      obtain ⟨gi, hgi⟩ : ∃ gi, i / g = gi := ⟨_, rfl⟩
      obtain ⟨lo, hlo⟩ : ∃ lo, i % g = lo := ⟨_, rfl⟩
      obtain ⟨la, hla⟩ : ∃ la, lo % s = la := ⟨_, rfl⟩
      obtain ⟨su, hsu⟩ : ∃ su, lo / s = su := ⟨_, rfl⟩
      have r0 : wr.cell? ⟨bv, 0, none⟩ = some (.int .i64 i) := hcel 0 (by omega)
      have r1 : wr.cell? ⟨bv, 1, none⟩ = some (.int .i64 lo) := (hcel 1 (by omega)).trans (by rw [← hlo]; rfl)
      have r2 : wr.cell? ⟨bv, 2, none⟩ = some (.int .i64 gi) := (hcel 2 (by omega)).trans (by rw [← hgi]; rfl)
      have r3 : wr.cell? ⟨bv, 3, none⟩ = some (.int .i64 T) := (hcel 3 (by omega)).trans (by rw [← HT.out]; rfl)
      have r4 : wr.cell? ⟨bv, 4, none⟩ = some (.int .i64 g) := hcel 4 (by omega)
      have r5 : wr.cell? ⟨bv, 5, none⟩ = some (.int .i64 la) := (hcel 5 (by omega)).trans (by rw [← hla, ← hlo]; rfl)
      have r6 : wr.cell? ⟨bv, 6, none⟩ = some (.int .i64 su) := (hcel 6 (by omega)).trans (by rw [← hsu, ← hlo]; rfl)
      have g0 : 0 ≤ gi := by rw [← hgi]; exact Int.ediv_nonneg hi0 (by omega)
      have lo0 : 0 ≤ lo := by rw [← hlo]; exact Int.emod_nonneg _ (by omega)
      have lo1 : lo < g := by rw [← hlo]; exact Int.emod_lt_of_pos _ (by omega)
      have la0 : 0 ≤ la := by rw [← hla]; exact Int.emod_nonneg _ (by omega)
      have la1 : la < s := by rw [← hla]; exact Int.emod_lt_of_pos _ (by omega)
      have su0 : 0 ≤ su := by rw [← hsu]; exact Int.ediv_nonneg lo0 (by omega)
      have e1 : gi * g + lo = i := by
        rw [← hgi, ← hlo, Int.mul_comm]
        first | exact Int.mul_ediv_add_emod i g | exact Int.ediv_add_emod i g
      have e2 : su * s + la = lo := by
        rw [← hsu, ← hla, Int.mul_comm]
        first | exact Int.mul_ediv_add_emod lo s | exact Int.ediv_add_emod lo s
      have gi1 : gi < gr := by
        rw [← hgi]
        exact Int.ediv_lt_of_lt_mul (by omega) (by rw [HT.out]; exact hi1)
      have p1 : 0 ≤ gi * g := Int.mul_nonneg g0 (by omega)
      have p2 : 0 ≤ su * s := Int.mul_nonneg su0 (by omega)
      obtain ⟨P1, hP1⟩ : ∃ P1, gi * g = P1 := ⟨_, rfl⟩
      obtain ⟨P2, hP2⟩ : ∃ P2, su * s = P2 := ⟨_, rfl⟩
      rw [hP1] at e1 p1
      rw [hP2] at e2 p2
      have HOF := Lib.hid (fun (V : World) => Of_any g s 0 0 p nA c2 0 0 0 0 A2 none none i V hg1 hi0 (by omega))
      rw [hgi, hlo] at HOF
      have HB := Lib.hid hbel
      clear hcel hown hbel hgi hlo hla hsu
      go_upto_region 19 with (go_at_call 16; (with_reducible refine (HOF.out _).mono ?_); rintro e w6 ⟨rfl, hb6⟩; obtain ⟨hce, _⟩ := bcell hb6; have HB6 := Lib.hid hb6; clear hb6)
      have hN6 := HNN.out.on HB6.out
      have x0 := (hce bv 0 hbv2).trans r0
      have x1 := (hce bv 1 hbv2).trans r1
      have x2 := (hce bv 2 hbv2).trans r2
      have x3 := (hce bv 3 hbv2).trans r3
      have x4 := (hce bv 4 hbv2).trans r4
      have x5 := (hce bv 5 hbv2).trans r5
      have x6 := (hce bv 6 hbv2).trans r6
      have y0 := hN6.cd.c0
      have y1 := hN6.cd.c1
      have HN6 := Lib.hid hN6
      have wP1 : IntKind.i64.wrap P1 = P1 := IntWalk.i64_in _ (by omega)
      have wP2 : IntKind.i64.wrap P2 = P2 := IntWalk.i64_in _ (by omega)
      have wi : IntKind.i64.wrap i = i := IntWalk.i64_in _ (by omega)
      have wlo : IntKind.i64.wrap lo = lo := IntWalk.i64_in _ (by omega)
      clear hce r0 r1 r2 r3 r4 r5 r6 q0 q1 q2 q3 q4 q5 q6 q7 z0 z1 hN6
      refine wp_region_quiet_lit (by kernel_rfl) (by as_aux_lemma => kernel_rfl) ?_
      dsimp only [List.append]
      repeat (go_big_quiet_step (fail))
      refine wpQuiet_nil ?_
      intro _ hw'
      obtain ⟨nq, hw''⟩ := hw'
      subst hw''
      go_wp2
      have hV : NV w B8 B9 bv g s gr p nA c2 p c3 A2 A3 lo gi la (w6.drewN nq) := ⟨HN6.out.on (below_drewN (Below.refl _ _) nq), x1, x2, x5⟩
      have HT1 : Hid (¬ (0 ≤ T ∧ T < gr * g)) := Lib.hid (by rw [HT.out]; omega)
      have HM1 : Hid (¬ (0 ≤ (-1 : Int) ∧ (-1 : Int) < gr * g)) := Lib.hid (by omega)
      obtain ⟨V, hVe⟩ : ∃ V, w6.drewN nq = V := ⟨_, rfl⟩
      rw [hVe] at hV ⊢
      clear hVe x0 x1 x2 x3 x4 x5 x6 y0 y1 e1 e2 hP1 hP2 wP1 wP2 wi wlo HNN HN6 HB HB6
      go_region_held3 (fun w' => w'.cell? ⟨bv, 1, none⟩ = some (.int .i64 lo) ∧ w'.cell? ⟨bv, 2, none⟩ = some (.int .i64 gi) ∧ w'.cell? ⟨bv, 5, none⟩ = some (.int .i64 la) ∧ w'.cell? ⟨B8, 0, none⟩ = some (.int .i64 g) ∧ w'.cell? ⟨B8, 1, none⟩ = some (.int .i64 s) ∧ w'.cell? ⟨B8, 2, none⟩ = some (.int .i64 0) ∧ w'.cell? ⟨B8, 3, none⟩ = some (.int .i64 0) ∧ w'.cell? ⟨B8, 4, none⟩ = some (.int .i64 p) ∧ w'.cell? ⟨B8, 5, none⟩ = some (.slice A2 nA c2) ∧ w'.cell? ⟨B8, 6, none⟩ = some (.slice none 0 0) ∧ w'.cell? ⟨B8, 7, none⟩ = some (.slice none 0 0) ∧ w'.cell? ⟨B9, 0, none⟩ = some (.int .i64 gr) ∧ w'.cell? ⟨B9, 1, none⟩ = some (.slice A3 p c3) ∧ NV w B8 B9 bv g s gr p nA c2 p c3 A2 A3 lo gi la w') ((refine NV.all ?_; repeat' (first | assumption | exact NV.of (by assumption) | with_reducible apply NV.drew | with_reducible apply NV.alloc))) (first
        | (go_at_call 14; (with_reducible refine (id_noV (w := w) (B8 := B8) (B9 := B9) (bv := bv) (v1 := lo) (v2 := gi) (v5 := la) T (by first | assumption | exact NV.of (by assumption)) HK.out HT1.out).mono ?_); rintro e z1 ⟨rfl, hv1⟩)
        | (go_at_call 14; (with_reducible refine (id_noV (w := w) (B8 := B8) (B9 := B9) (bv := bv) (v1 := lo) (v2 := gi) (v5 := la) (-1) (by first | assumption | exact NV.of (by assumption)) HK.out HM1.out).mono ?_); rintro e z2 ⟨rfl, hv2⟩))
      all_goals
        go_wp2
        go_ret
        exact ⟨rfl, hv2.nb.bel⟩
end Go.Proofs.Ytjknmancnfeifaa
