/-
  CodeRenames: the law's walk.
-/
import Derived.Test.YtkncilgmlkeifaaGreatDoorRnp
import Derived.Test.YtkncilgmlkeifaaGreatDoorRnq
import Derived.Deep.Upon
set_option linter.unusedVariables false
set_option linter.unusedSimpArgs false
namespace Go.Proofs.YtkncilgmlkeifaaGreatDoor
open Go.ChangeShapes Go.WideShapes Go.ChangeAt Go.RowKit Go.Shelf

theorem term_d {W : World} {b : Nat} {t : TermV} (o : OpdV) (h : W.heap[b]? = some (.cells (termA t) 53 (0, 0))) :
    (((W.setCell ⟨b, 2, none⟩ (.int .i64 o.k)).setCell ⟨b, 3, none⟩ (.int .i64 o.n)).setCell ⟨b, 4, none⟩ (.int .i32 o.v)).heap[b]? = some (.cells (termA { t with d := o }) 53 (0, 0)) := by
  have e1 := heap_setCell_same _ b 2 _ 53 (.int .i64 o.k) h
  simp only [List.setIfInBounds_toArray, List.set_cons_zero, List.set_cons_succ] at e1
  have e2 := heap_setCell_same _ b 3 _ 53 (.int .i64 o.n) e1
  simp only [List.setIfInBounds_toArray, List.set_cons_zero, List.set_cons_succ] at e2
  have e3 := heap_setCell_same _ b 4 _ 53 (.int .i32 o.v) e2
  simp only [List.setIfInBounds_toArray, List.set_cons_zero, List.set_cons_succ] at e3
  exact e3
theorem term_a {W : World} {b : Nat} {t : TermV} (o : OpdV) (h : W.heap[b]? = some (.cells (termA t) 53 (0, 0))) :
    (((W.setCell ⟨b, 5, none⟩ (.int .i64 o.k)).setCell ⟨b, 6, none⟩ (.int .i64 o.n)).setCell ⟨b, 7, none⟩ (.int .i32 o.v)).heap[b]? = some (.cells (termA { t with a := o }) 53 (0, 0)) := by
  have e1 := heap_setCell_same _ b 5 _ 53 (.int .i64 o.k) h
  simp only [List.setIfInBounds_toArray, List.set_cons_zero, List.set_cons_succ] at e1
  have e2 := heap_setCell_same _ b 6 _ 53 (.int .i64 o.n) e1
  simp only [List.setIfInBounds_toArray, List.set_cons_zero, List.set_cons_succ] at e2
  have e3 := heap_setCell_same _ b 7 _ 53 (.int .i32 o.v) e2
  simp only [List.setIfInBounds_toArray, List.set_cons_zero, List.set_cons_succ] at e3
  exact e3
theorem term_b {W : World} {b : Nat} {t : TermV} (o : OpdV) (h : W.heap[b]? = some (.cells (termA t) 53 (0, 0))) :
    (((W.setCell ⟨b, 8, none⟩ (.int .i64 o.k)).setCell ⟨b, 9, none⟩ (.int .i64 o.n)).setCell ⟨b, 10, none⟩ (.int .i32 o.v)).heap[b]? = some (.cells (termA { t with b := o }) 53 (0, 0)) := by
  have e1 := heap_setCell_same _ b 8 _ 53 (.int .i64 o.k) h
  simp only [List.setIfInBounds_toArray, List.set_cons_zero, List.set_cons_succ] at e1
  have e2 := heap_setCell_same _ b 9 _ 53 (.int .i64 o.n) e1
  simp only [List.setIfInBounds_toArray, List.set_cons_zero, List.set_cons_succ] at e2
  have e3 := heap_setCell_same _ b 10 _ 53 (.int .i32 o.v) e2
  simp only [List.setIfInBounds_toArray, List.set_cons_zero, List.set_cons_succ] at e3
  exact e3
theorem termA_one (t : TermV) : (termA t).all (·.oneCell') = true := by
  rw [Array.all_eq_true_iff_forall_mem]
  intro v hv
  simp only [List.mem_toArray, List.mem_cons, List.not_mem_nil, or_false] at hv
  rcases hv with rfl | rfl | rfl | rfl | rfl | rfl | rfl | rfl | rfl | rfl | rfl | rfl | rfl <;> rfl
theorem bel_step {w p c : World} (h2 : Below p.heap.size p c) (h1 : Below w.heap.size w p) : Below w.heap.size w c := h1.trans (h2.mono h1.size)
theorem bel_drew {w p : World} (h1 : Below w.heap.size w p) : Below w.heap.size w p.drew := below_drewS h1
theorem three_other {W : World} {b k : Nat} (o1 o2 o3 : Nat) (v1 v2 v3 : Value) (h : k ≠ b) : (((W.setCell ⟨b, o1, none⟩ v1).setCell ⟨b, o2, none⟩ v2).setCell ⟨b, o3, none⟩ v3).heap[k]? = W.heap[k]? := by
  rw [heap_setCell_other _ _ _ _ h, heap_setCell_other _ _ _ _ h, heap_setCell_other _ _ _ _ h]
set_option maxRecDepth 100000 in
set_option maxHeartbeats 40000000 in
theorem renames_of (A : Option Addr) (nx cx : Nat) (n0 n1 : Int) (q : Bool) (w : World) (h0 : 0 ≤ n0 ∧ n0 ≤ 255) (h1 : 0 ≤ n1 ∧ n1 ≤ 255) (hE : EnvP w)
    (hM : ∀ W, Below w.heap.size w W → Calls Tryz.prog 12 #[.agg #[.slice A nx cx], .bool q] W fun e w' => ∃ (C : CdV) (a : CdA), e = .returned (.agg #[.int .i64 (C.n 0), .int .i64 (C.n 1), .int .i64 (C.n 2), .int .i64 (C.n 3), .int .i64 (C.n 4), .slice a.a1 C.q.length a.c1, .slice a.a2 C.l.length a.c2, .slice a.a3 C.b.length a.c3]) ∧ (RnF C ∧ CdK C a w') ∧ Below W.heap.size W w') :
    Calls Tryz.prog 7 #[.agg #[.slice A nx cx], .agg #[.int .u8 n0, .int .u8 n1], .bool q] w fun e w' => e = .returned (.bool true) ∧ Below w.heap.size w w' := by
  have hB0 : Below w.heap.size w ((w.alloc (.cells #[.slice A nx cx] 24)).alloc (.cells #[.int .u8 n0, .int .u8 n1] 25)) := ((Below.refl _ _).alloc (Nat.le_refl _) _).alloc (by simp) _
  have hXB : FB w.heap.size A nx cx n0 n1 ((w.alloc (.cells #[.slice A nx cx] 24)).alloc (.cells #[.int .u8 n0, .int .u8 n1] 25)) := ⟨(Below.heap_alloc _ _ _ (by simp)).trans (heap_alloc_new w _), by have := heap_alloc_new (w.alloc (.cells #[.slice A nx cx] 24)) (.cells #[.int .u8 n0, .int .u8 n1] 25); rw [World.size_alloc] at this; exact this⟩
  have HX := Lib.hid (fun W (hW : Below w.heap.size w W) => examples_any W (hE.on hW))
  have HM := Lib.hid hM
  have HB0 := Lib.hid hB0
  have HXB := Lib.hid hXB
  obtain ⟨h00, h01⟩ := h0
  obtain ⟨h10, h11⟩ := h1
  clear hB0 hXB hM hE
  go_enter Tryz.func7, Tryz.ntmps7
  go_upto_region 5 with (first
    | (go_at_call 11; (with_reducible refine (HX.out _ HB0.out).mono ?_); rintro e w1 ⟨rfl, hb1⟩; have hx1 := HXB.out.on hb1; obtain ⟨cx0, cx1, cx2⟩ := hx1.cells; have HX1 := Lib.hid hx1; have HB1 := Lib.hid (HB0.out.trans (hb1.mono HB0.out.size)); clear hb1 hx1)
    | (go_at_call 12; (with_reducible refine (HM.out _ HB1.out).mono ?_); rintro e w2 ⟨C, a, rfl, hmp, hb2⟩; have HF := Lib.hid hmp.1; have HK2 := Lib.hid hmp.2; have HB2 := Lib.hid (HB1.out.trans (hb2.mono HB1.out.size)); have HX2 := Lib.hid (HX1.out.on hb2); clear hmp hb2))
  have HCK := Lib.hid (HK2.out.on ((Below.refl _ _).alloc (Nat.le_refl _) (.cells #[.int .i64 (C.n 0), .int .i64 (C.n 1), .int .i64 (C.n 2), .int .i64 (C.n 3), .int .i64 (C.n 4), .slice a.a1 C.q.length a.c1, .slice a.a2 C.l.length a.c2, .slice a.a3 C.b.length a.c3] 36)))
  have hb8 : (w2.alloc (.cells #[.int .i64 (C.n 0), .int .i64 (C.n 1), .int .i64 (C.n 2), .int .i64 (C.n 3), .int .i64 (C.n 4), .slice a.a1 C.q.length a.c1, .slice a.a2 C.l.length a.c2, .slice a.a3 C.b.length a.c3] 36)).heap[w2.heap.size]? = some (.cells #[.int .i64 (C.n 0), .int .i64 (C.n 1), .int .i64 (C.n 2), .int .i64 (C.n 3), .int .i64 (C.n 4), .slice a.a1 C.q.length a.c1, .slice a.a2 C.l.length a.c2, .slice a.a3 C.b.length a.c3] 36 (0, 0)) := heap_alloc_new _ _
  have HX3 := Lib.hid (HX2.out.on ((Below.refl _ _).alloc (Nat.le_refl _) (.cells #[.int .i64 (C.n 0), .int .i64 (C.n 1), .int .i64 (C.n 2), .int .i64 (C.n 3), .int .i64 (C.n 4), .slice a.a1 C.q.length a.c1, .slice a.a2 C.l.length a.c2, .slice a.a3 C.b.length a.c3] 36)))
  have HB3 := Lib.hid (HB2.out.alloc HB2.out.size (.cells #[.int .i64 (C.n 0), .int .i64 (C.n 1), .int .i64 (C.n 2), .int .i64 (C.n 3), .int .i64 (C.n 4), .slice a.a1 C.q.length a.c1, .slice a.a2 C.l.length a.c2, .slice a.a3 C.b.length a.c3] 36))
  generalize (w2.alloc (.cells #[.int .i64 (C.n 0), .int .i64 (C.n 1), .int .i64 (C.n 2), .int .i64 (C.n 3), .int .i64 (C.n 4), .slice a.a1 C.q.length a.c1, .slice a.a2 C.l.length a.c2, .slice a.a3 C.b.length a.c3] 36)) = W3 at *
  generalize w2.heap.size = b8 at *
  obtain ⟨nb, hnb⟩ : ∃ nb, C.b.length = nb := ⟨_, rfl⟩
  have hb18 := HF.out.nb
  have HNB := Lib.hid hnb
  rw [hnb] at hb18 hb8 ⊢
  obtain ⟨hb1, hb18⟩ := hb18
  have HB8 := Lib.hid hb8
  obtain ⟨_, x0, x1⟩ := HX3.out.cells
  have kc0 := cell_blk hb8 (i := 0) rfl
  have kc1 := cell_blk hb8 (i := 1) rfl
  have kc2 := cell_blk hb8 (i := 2) rfl
  have kc3 := cell_blk hb8 (i := 3) rfl
  have kc4 := cell_blk hb8 (i := 4) rfl
  have kc5 := cell_blk hb8 (i := 5) rfl
  have kc6 := cell_blk hb8 (i := 6) rfl
  have kc7 := cell_blk hb8 (i := 7) rfl
  have hw0 : IntKind.i64.wrap n0 = n0 := IntWalk.i64_in _ (by omega)
  have hw1 : IntKind.i64.wrap n1 = n1 := IntWalk.i64_in _ (by omega)
  obtain ⟨hr1, hr2⟩ := HF.out.r
  obtain ⟨r, hr⟩ : ∃ r, C.n 2 = r := ⟨_, rfl⟩
  obtain ⟨nl, hnl⟩ : ∃ nl, C.l.length = nl := ⟨_, rfl⟩
  have HNL := Lib.hid hnl
  have HRR := Lib.hid hr
  have hnl3 := HF.out.nl
  rw [hr] at hr1 hr2
  rw [hnl] at hnl3
  obtain ⟨p, hp⟩ : ∃ p, Int.tmod n0 r = p := ⟨_, rfl⟩
  obtain ⟨z, hz⟩ : ∃ z, Int.tmod n1 r = z := ⟨_, rfl⟩
  have hp0 : 0 ≤ p ∧ p < r := by
    have := Int.tmod_nonneg r h00
    have := Int.tmod_lt_of_pos n0 (show (0 : Int) < r by omega)
    omega
  have hz0 : 0 ≤ z ∧ z < r := by
    have := Int.tmod_nonneg r h10
    have := Int.tmod_lt_of_pos n1 (show (0 : Int) < r by omega)
    omega
  have HP := Lib.hid (And.intro hp0 hz0)
  have hnz : ¬ r = 0 := by omega
  have HCPY := Lib.hid (show Calls Tryz.prog 38 #[.agg #[.int .i64 (C.n 0), .int .i64 (C.n 1), .int .i64 (C.n 2), .int .i64 (C.n 3), .int .i64 (C.n 4), .slice a.a1 C.q.length a.c1, .slice a.a2 C.l.length a.c2, .slice a.a3 nb a.c3]] W3 (fun e w' => ∃ A5 p5 A6 p6 g7 p7 es, e = .returned (.agg #[.int .i64 (C.n 0), .int .i64 (C.n 1), .int .i64 (C.n 2), .int .i64 (C.n 3), .int .i64 (C.n 4), .slice A5 C.q.length p5, .slice A6 C.l.length p6, .slice (some ⟨g7, 0, none⟩) nb p7]) ∧ (RC W3.heap.size (.slice A5 C.q.length p5) (.slice A6 C.l.length p6) (.slice (some ⟨g7, 0, none⟩) nb p7) C.q C.l es w' ∧ DisI es ∧ es.map (·.2) = C.b ∧ es.length = nb) ∧ Below W3.heap.size W3 w') from by
    have H := Copy_cd C a W3 HCK.out.mem HF.out.fits
    unfold cdval at H
    rw [hnb] at H
    refine H.mono ?_
    rintro e w' ⟨v5, v6, v7, es, rfl, hr, hes, hbw, hd⟩
    have hel : es.length = nb := by rw [← hnb, ← hes, List.length_map]
    obtain ⟨A5, p5, rfl, _⟩ := own_cells hr.arr
    obtain ⟨A6, p6, rfl, _⟩ := own_cells hr.loops
    obtain ⟨g7, p7, rfl, _, _⟩ := hr.blocks.form (by omega)
    rw [hel] at hr ⊢
    exact ⟨A5, p5, A6, p6, g7, p7, es, rfl, ⟨hr, hd, hes, hel⟩, hbw⟩)
  rw [hr, hnl] at HCPY hb8 ⊢
  rw [hr] at kc2
  rw [hnl] at kc6
  clear hb8 hp0 hz0 hr hnl hnb HK2 HB2 HX2 HM HX HX1 HB1 HB0 HXB cx0 cx1 cx2
  go_upto_region 9 with (first
    | (go_at_call 38; (with_reducible refine HCPY.out.mono ?_); rintro e w4 ⟨A5, q5, A6, q6, g7, q7, es, rfl, hrr, hb4⟩; have HRC := Lib.hid hrr; have HB4 := Lib.hid hb4; clear hrr hb4))
  have HSW := Lib.hid HB4.out.size
  have HL0 := Lib.hid (show LX W3 w4.heap.size W3.heap.size (C.n 0) (C.n 1) r (C.n 3) (C.n 4) (.slice A5 C.q.length q5) (.slice A6 nl q6) (.slice (some ⟨g7, 0, none⟩) nb q7) C.q C.l es (w4.alloc (.cells #[.int .i64 (C.n 0), .int .i64 (C.n 1), .int .i64 r, .int .i64 (C.n 3), .int .i64 (C.n 4), .slice A5 C.q.length q5, .slice A6 nl q6, .slice (some ⟨g7, 0, none⟩) nb q7] 36)) from
    ⟨heap_alloc_new _ _, (by have h := HRC.out.1.k36 (K36.below ((Below.refl _ _).alloc (Nat.le_refl _) (.cells #[.int .i64 (C.n 0), .int .i64 (C.n 1), .int .i64 r, .int .i64 (C.n 3), .int .i64 (C.n 4), .slice A5 C.q.length q5, .slice A6 nl q6, .slice (some ⟨g7, 0, none⟩) nb q7] 36))); exact h), HB4.out.alloc HB4.out.size _, Nat.le_refl _, HB4.out.size, (by have := HB4.out.size; simp; omega)⟩)
  generalize (w4.alloc (.cells #[.int .i64 (C.n 0), .int .i64 (C.n 1), .int .i64 r, .int .i64 (C.n 3), .int .i64 (C.n 4), .slice A5 C.q.length q5, .slice A6 nl q6, .slice (some ⟨g7, 0, none⟩) nb q7] 36)) = W5 at *
  generalize w4.heap.size = b11 at *
  obtain ⟨n9, hn9⟩ : ∃ n9, W3.heap.size = n9 := ⟨_, rfl⟩
  rw [hn9] at HL0 HSW
  have HN9 := Lib.hid hn9
  clear hn9 kc0 kc1 kc2 kc3 kc4 kc5 kc6 kc7 x0 x1 HCPY
  go_loopw [12] (fun v wr => ∃ (k : Nat) (ls1 ls2 : List LoV), k ≤ nl ∧ v = .int .i64 k ∧ Hid (LX W3 b11 n9 (C.n 0) (C.n 1) r (C.n 3) (C.n 4) (.slice A5 C.q.length q5) (.slice A6 nl q6) (.slice (some ⟨g7, 0, none⟩) nb q7) C.q (ls1 ++ ls2) es wr) ∧ Hid (ls1 = (C.l.take k).map (fun l => (l.1, rn p z l.2.1, l.2.2)) ∧ ls2 = C.l.drop k)) (fun v _ => nl - (intOf v).toNat)
  case atStart => exact ⟨0, [], C.l, Nat.zero_le _, rfl, Lib.hid HL0.out, Lib.hid ⟨rfl, rfl⟩⟩
  case round =>
    obtain ⟨k, ls1, ls2, hk, rfl, HLX, HLS⟩ := hrel
    have hll : ls1.length = k := by
      rw [HLS.out.1, List.length_map, List.length_take, HNL.out]
      omega
    have HLL := Lib.hid hll
    by_cases hlt : k < nl
    · have hkc : k < C.l.length := by rw [HNL.out]; exact hlt
      obtain ⟨l, hl⟩ : ∃ l, C.l[k] = l := ⟨_, rfl⟩
      have hls2 : ls2 = l :: C.l.drop (k + 1) := by rw [HLS.out.2, List.drop_eq_getElem_cons hkc, hl]
      have HLC := Lib.hid hl
      obtain ⟨ls3, hls3⟩ : ∃ ls3, C.l.drop (k + 1) = ls3 := ⟨_, rfl⟩
      rw [hls3] at hls2
      subst hls2
      have HL3 := Lib.hid hls3
      have hlen : (ls1 ++ l :: ls3).length = nl := by
        have h1 := congrArg List.length hls3
        rw [List.length_drop, HNL.out] at h1
        rw [List.length_append, List.length_cons]
        omega
      have hrl := HLX.out.rows.loops
      rw [hlen] at hrl
      obtain ⟨gL, cL, eL, _, _⟩ := hrl.form (by omega)
      simp only [Value.slice.injEq] at eL
      obtain ⟨rfl, _, rfl⟩ := eL
      have m0 : wr.cell? ⟨gL, k * 3 + 1, none⟩ = some (.int .i64 l.2.1) := by
        rw [hrl.cellAt _ (by omega)]
        have := flat_get loC 3 (fun _ => rfl) (ls1 ++ l :: ls3) k 1 (by omega) (by decide)
        unfold flatL
        rw [this, List.getElem_append_right (by omega)]
        simp [hll, loC]
      have f0 : wr.frozen? ⟨gL, k * 3 + 1, none⟩ = false := hrl.frozenAt _
      have c6 := HLX.out.c6
      have HKS := Lib.hid (show ∀ V, Below wr.heap.size wr V → V.cell? ⟨b11, 6, none⟩ = some (.slice (some ⟨gL, 0, none⟩) nl q6) ∧ V.cell? ⟨gL, k * 3 + 1, none⟩ = some (.int .i64 l.2.1) ∧ V.frozen? ⟨gL, k * 3 + 1, none⟩ = false from fun V hV => by
        have h2 := HLX.out.on hV
        have hr2 := h2.rows.loops
        rw [hlen] at hr2
        exact ⟨h2.c6, by rw [← m0]; exact hV.cell (p := ⟨gL, k * 3 + 1, none⟩) (World.block_lt_of_cell? wr ⟨gL, k * 3 + 1, none⟩ m0), hr2.frozenAt _⟩)
      have hne : gL ≠ b11 := by
        intro hh
        rcases hrl.2 with ⟨e1, _⟩ | ⟨g', cap', cur, e1, _, hg, _⟩
        · cases e1
        · simp only [Value.slice.injEq, Option.some.injEq, Addr.mk.injEq, and_true] at e1
          have h2 := HLX.out.box
          rw [← hh, e1.1, hg] at h2
          simp at h2
      have HLN := Lib.hid hlen
      have hki : (k : Int) < (nl : Int) := by omega
      obtain ⟨y, hy⟩ : ∃ y, l.2.1 = y := ⟨_, rfl⟩
      rw [hy] at m0 HKS
      have HY := Lib.hid hy
      clear hy hll hls3 hrl hl hlen
      go_upto_region 11 with (fail)
      refine wp_region_held_drew (S := (fun w' => w'.cell? ⟨b11, 6, none⟩ = some (.slice (some ⟨gL, 0, none⟩) nl q6) ∧ w'.frozen? ⟨gL, k * 3 + 1, none⟩ = false)) (by kernel_rfl) ?_ (fun hHeld => ?_)
      · (try dsimp only); (first | exact ⟨c6, f0⟩ | exact ⟨(HKS.out _ HB1.out).1, (HKS.out _ HB1.out).2.2⟩ | exact ⟨k6, kf⟩ | exact ⟨(World.cell?_setCell_other _ _ _ _ (fun e => hne (congrArg Addr.block e))).trans k6, (World.frozen?_setCell _ _ _ _).trans kf⟩)
      refine wpAnyH_take (i := 0) (oi := { dst := some 46, op := Op.fieldAddr 36 (Operand.tmp 11) 6, type := 0, pos := "law.go:349", after := #[], guard := none }) (v := ?_) rfl (by kernel_rfl) (by kernel_rfl) (by kernel_rfl) (fun _ _ _ h => h) (Or.inl ⟨by kernel_rfl, ?_⟩) (by assumption) ?_
      rotate_left
      · (intro w hSw; (try dsimp only at hSw); go_simp; (try with_reducible rfl))
      try simp only [Act.put, List.setIfInBounds_toArray, List.set_cons_zero, List.set_cons_succ]
      refine wpAnyH_take (i := 1) (oi := { dst := some 47, op := Op.load 33 (Operand.tmp 46), type := 33, pos := "law.go:349", after := #[{ on := 0, ground := Ground.data }], guard := none }) (v := ?_) rfl (by kernel_rfl) (by kernel_rfl) (by kernel_rfl) (fun _ _ _ h => h) (Or.inl ⟨by kernel_rfl, ?_⟩) (by assumption) ?_
      rotate_left
      · (intro w hSw; (try dsimp only at hSw); go_simp; (try with_reducible rfl))
      try simp only [Act.put, List.setIfInBounds_toArray, List.set_cons_zero, List.set_cons_succ]
      refine wpAnyH_take (i := 2) (oi := { dst := some 48, op := Op.move (Operand.tmp 12), type := 3, pos := "law.go:349", after := #[], guard := none }) (v := ?_) rfl (by kernel_rfl) (by kernel_rfl) (by kernel_rfl) (fun _ _ _ h => h) (Or.inl ⟨by kernel_rfl, ?_⟩) (by assumption) ?_
      rotate_left
      · (intro w hSw; (try dsimp only at hSw); go_simp; (try with_reducible rfl))
      try simp only [Act.put, List.setIfInBounds_toArray, List.set_cons_zero, List.set_cons_succ]
      refine wpAnyH_take (i := 3) (oi := { dst := some 49, op := Op.fieldAddr 36 (Operand.tmp 11) 6, type := 0, pos := "law.go:349", after := #[], guard := none }) (v := ?_) rfl (by kernel_rfl) (by kernel_rfl) (by kernel_rfl) (fun _ _ _ h => h) (Or.inl ⟨by kernel_rfl, ?_⟩) (by assumption) ?_
      rotate_left
      · (intro w hSw; (try dsimp only at hSw); go_simp; (try with_reducible rfl))
      try simp only [Act.put, List.setIfInBounds_toArray, List.set_cons_zero, List.set_cons_succ]
      refine wpAnyH_take (i := 4) (oi := { dst := some 50, op := Op.load 33 (Operand.tmp 49), type := 33, pos := "law.go:349", after := #[{ on := 3, ground := Ground.data }], guard := none }) (v := ?_) rfl (by kernel_rfl) (by kernel_rfl) (by kernel_rfl) (fun _ _ _ h => h) (Or.inl ⟨by kernel_rfl, ?_⟩) (by assumption) ?_
      rotate_left
      · (intro w hSw; (try dsimp only at hSw); go_simp; (try with_reducible rfl))
      try simp only [Act.put, List.setIfInBounds_toArray, List.set_cons_zero, List.set_cons_succ]
      refine wpAnyH_take (i := 5) (oi := { dst := some 51, op := Op.move (Operand.tmp 12), type := 3, pos := "law.go:349", after := #[], guard := none }) (v := ?_) rfl (by kernel_rfl) (by kernel_rfl) (by kernel_rfl) (fun _ _ _ h => h) (Or.inl ⟨by kernel_rfl, ?_⟩) (by assumption) ?_
      rotate_left
      · (intro w hSw; (try dsimp only at hSw); go_simp; (try with_reducible rfl))
      try simp only [Act.put, List.setIfInBounds_toArray, List.set_cons_zero, List.set_cons_succ]
      refine wpAnyH_take (i := 6) (oi := { dst := some 52, op := Op.indexAddr 33 (Operand.tmp 50) (Operand.tmp 51), type := 0, pos := "law.go:349", after := #[{ on := 4, ground := Ground.data }, { on := 5, ground := Ground.data }], guard := none }) (v := ?_) rfl (by kernel_rfl) (by kernel_rfl) (by kernel_rfl) (fun _ _ _ h => h) (Or.inl ⟨by kernel_rfl, ?_⟩) (by assumption) ?_
      rotate_left
      · (intro w hSw; (try dsimp only at hSw); go_simp; (try with_reducible rfl))
      try simp only [Act.put, List.setIfInBounds_toArray, List.set_cons_zero, List.set_cons_succ]
      refine wpAnyH_take (i := 7) (oi := { dst := some 53, op := Op.fieldAddr 85 (Operand.tmp 52) 1, type := 0, pos := "law.go:349", after := #[{ on := 6, ground := Ground.data }], guard := none }) (v := ?_) rfl (by kernel_rfl) (by kernel_rfl) (by kernel_rfl) (fun _ _ _ h => h) (Or.inl ⟨by kernel_rfl, ?_⟩) (by assumption) ?_
      rotate_left
      · (intro w hSw; (try dsimp only at hSw); go_simp; (try with_reducible rfl))
      try simp only [Act.put, List.setIfInBounds_toArray, List.set_cons_zero, List.set_cons_succ]
      refine wpAnyH_take (i := 10) (oi := { dst := some 56, op := Op.move (Operand.tmp 9), type := 3, pos := "law.go:349", after := #[], guard := none }) (v := ?_) rfl (by kernel_rfl) (by kernel_rfl) (by kernel_rfl) (fun _ _ _ h => h) (Or.inl ⟨by kernel_rfl, ?_⟩) (by assumption) ?_
      rotate_left
      · (intro w hSw; (try dsimp only at hSw); go_simp; (try with_reducible rfl))
      try simp only [Act.put, List.setIfInBounds_toArray, List.set_cons_zero, List.set_cons_succ]
      refine wpAnyH_take (i := 11) (oi := { dst := some 57, op := Op.move (Operand.tmp 10), type := 3, pos := "law.go:349", after := #[], guard := none }) (v := ?_) rfl (by kernel_rfl) (by kernel_rfl) (by kernel_rfl) (fun _ _ _ h => h) (Or.inl ⟨by kernel_rfl, ?_⟩) (by assumption) ?_
      rotate_left
      · (intro w hSw; (try dsimp only at hSw); go_simp; (try with_reducible rfl))
      try simp only [Act.put, List.setIfInBounds_toArray, List.set_cons_zero, List.set_cons_succ]
      refine wpAnyH_ready (rs := [8]) (by kernel_rfl) (by simp) ?_
      refine AllReadyH.cons (o := { dst := some 54, op := Op.load 3 (Operand.tmp 53), type := 3, pos := "law.go:349", after := #[{ on := 7, ground := Ground.data }], guard := none }) rfl (fun K hK => ?_) ?_
      · go_simp
        refine hK.out _ _ ?_ (fun hHeld => ?_)
        · (try dsimp only); (first | exact ⟨c6, f0⟩ | exact ⟨(HKS.out _ HB1.out).1, (HKS.out _ HB1.out).2.2⟩ | exact ⟨k6, kf⟩ | exact ⟨(World.cell?_setCell_other _ _ _ _ (fun e => hne (congrArg Addr.block e))).trans k6, (World.frozen?_setCell _ _ _ _).trans kf⟩)
        clear hK K
        try simp only [Act.put, List.setIfInBounds_toArray, List.set_cons_zero, List.set_cons_succ]
        refine wpAnyH_ready (rs := [9]) (by kernel_rfl) (by simp) ?_
        refine AllReadyH.cons (o := { dst := some 55, op := Op.call { callee := Callee.value (Operand.func 40), args := #[Operand.tmp 54], argTypes := #[3] }, type := 27, pos := "law.go:349", after := #[{ on := 8, ground := Ground.data }], guard := none }) rfl (fun K hK => ?_) ?_
        · (go_simp; go_at_call 40; refine (Reg_any _ _).mono ?_; rintro e w1 ⟨rfl, hb1⟩; have HB1 := Lib.hid ((below_drewS (Below.refl _ wr)).trans hb1); clear hb1; try go_wp2_with fail)
          refine hK.out _ _ ?_ (fun hHeld => ?_)
          · (try dsimp only); (first | exact ⟨c6, f0⟩ | exact ⟨(HKS.out _ HB1.out).1, (HKS.out _ HB1.out).2.2⟩ | exact ⟨k6, kf⟩ | exact ⟨(World.cell?_setCell_other _ _ _ _ (fun e => hne (congrArg Addr.block e))).trans k6, (World.frozen?_setCell _ _ _ _).trans kf⟩)
          clear hK K
          try simp only [Act.put, List.setIfInBounds_toArray, List.set_cons_zero, List.set_cons_succ]
          refine wpAnyH_ready (rs := [12]) (by kernel_rfl) (by simp) ?_
          refine AllReadyH.cons (o := { dst := some 58, op := Op.call { callee := Callee.value (Operand.func 39), args := #[Operand.tmp 55, Operand.tmp 56, Operand.tmp 57], argTypes := #[27, 3, 3] }, type := 27, pos := "law.go:349", after := #[{ on := 9, ground := Ground.data }, { on := 10, ground := Ground.data }, { on := 11, ground := Ground.data }, { on := 9, ground := Ground.chain }], guard := none }) rfl (fun K hK => ?_) ?_
          · (go_simp; go_at_call 39; refine (renamed_reg y p z _).mono ?_; rintro e w2 ⟨⟨rk, rv, rfl⟩, hb2⟩; have hfl := field_n rk (rn p z y) rv; have HB2 := Lib.hid (HB1.out.trans (hb2.mono HB1.out.size)); clear hb2; obtain ⟨k6, km, kf⟩ := HKS.out w2 HB2.out; try go_wp2_with fail)
            refine hK.out _ _ ?_ (fun hHeld => ?_)
            · (try dsimp only); (first | exact ⟨c6, f0⟩ | exact ⟨(HKS.out _ HB1.out).1, (HKS.out _ HB1.out).2.2⟩ | exact ⟨k6, kf⟩ | exact ⟨(World.cell?_setCell_other _ _ _ _ (fun e => hne (congrArg Addr.block e))).trans k6, (World.frozen?_setCell _ _ _ _).trans kf⟩)
            clear hK K
            try simp only [Act.put, List.setIfInBounds_toArray, List.set_cons_zero, List.set_cons_succ]
            refine wpAnyH_take (i := 13) (oi := { dst := some 59, op := Op.field 27 (Operand.tmp 58) 1, type := 3, pos := "law.go:349", after := #[{ on := 12, ground := Ground.data }], guard := none }) (v := ?_) rfl (by kernel_rfl) (by kernel_rfl) (by kernel_rfl) (fun _ _ _ h => h) (Or.inl ⟨by kernel_rfl, ?_⟩) (by assumption) ?_
            rotate_left
            · (intro w hSw; (try dsimp only at hSw); go_simp; (try with_reducible rfl))
            try simp only [Act.put, List.setIfInBounds_toArray, List.set_cons_zero, List.set_cons_succ]
            refine wpAnyH_take (i := 14) (oi := { dst := some 60, op := Op.indexAddr 33 (Operand.tmp 47) (Operand.tmp 48), type := 0, pos := "law.go:349", after := #[{ on := 1, ground := Ground.data }, { on := 2, ground := Ground.data }, { on := 0, ground := Ground.phase }, { on := 1, ground := Ground.phase }, { on := 2, ground := Ground.phase }, { on := 3, ground := Ground.phase }, { on := 4, ground := Ground.phase }, { on := 5, ground := Ground.phase }, { on := 6, ground := Ground.phase }, { on := 7, ground := Ground.phase }, { on := 8, ground := Ground.phase }, { on := 9, ground := Ground.phase }, { on := 10, ground := Ground.phase }, { on := 11, ground := Ground.phase }, { on := 12, ground := Ground.phase }, { on := 13, ground := Ground.phase }], guard := none }) (v := ?_) rfl (by kernel_rfl) (by kernel_rfl) (by kernel_rfl) (fun _ _ _ h => h) (Or.inl ⟨by kernel_rfl, ?_⟩) (by assumption) ?_
            rotate_left
            · (intro w hSw; (try dsimp only at hSw); go_simp; (try with_reducible rfl))
            try simp only [Act.put, List.setIfInBounds_toArray, List.set_cons_zero, List.set_cons_succ]
            refine wpAnyH_take (i := 15) (oi := { dst := some 61, op := Op.fieldAddr 85 (Operand.tmp 60) 1, type := 0, pos := "law.go:349", after := #[{ on := 14, ground := Ground.data }, { on := 0, ground := Ground.phase }, { on := 1, ground := Ground.phase }, { on := 2, ground := Ground.phase }, { on := 3, ground := Ground.phase }, { on := 4, ground := Ground.phase }, { on := 5, ground := Ground.phase }, { on := 6, ground := Ground.phase }, { on := 7, ground := Ground.phase }, { on := 8, ground := Ground.phase }, { on := 9, ground := Ground.phase }, { on := 10, ground := Ground.phase }, { on := 11, ground := Ground.phase }, { on := 12, ground := Ground.phase }, { on := 13, ground := Ground.phase }], guard := none }) (v := ?_) rfl (by kernel_rfl) (by kernel_rfl) (by kernel_rfl) (fun _ _ _ h => h) (Or.inl ⟨by kernel_rfl, ?_⟩) (by assumption) ?_
            rotate_left
            · (intro w hSw; (try dsimp only at hSw); go_simp; (try with_reducible rfl))
            try simp only [Act.put, List.setIfInBounds_toArray, List.set_cons_zero, List.set_cons_succ]
            refine wpAnyH_ready (rs := [16]) (by kernel_rfl) (by simp) ?_
            refine AllReadyH.cons (o := { dst := none, op := Op.store 3 (Operand.tmp 61) (Operand.tmp 59), type := 0, pos := "law.go:349", after := #[{ on := 15, ground := Ground.data }, { on := 13, ground := Ground.data }, { on := 12, ground := Ground.chain }, { on := 0, ground := Ground.phase }, { on := 1, ground := Ground.phase }, { on := 2, ground := Ground.phase }, { on := 3, ground := Ground.phase }, { on := 4, ground := Ground.phase }, { on := 5, ground := Ground.phase }, { on := 6, ground := Ground.phase }, { on := 7, ground := Ground.phase }, { on := 8, ground := Ground.phase }, { on := 9, ground := Ground.phase }, { on := 10, ground := Ground.phase }, { on := 11, ground := Ground.phase }, { on := 12, ground := Ground.phase }, { on := 13, ground := Ground.phase }], guard := none }) rfl (fun K hK => ?_) ?_
            · go_simp
              refine hK.out _ _ ?_ (fun hHeld => ?_)
              · (try dsimp only); (first | exact ⟨c6, f0⟩ | exact ⟨(HKS.out _ HB1.out).1, (HKS.out _ HB1.out).2.2⟩ | exact ⟨k6, kf⟩ | exact ⟨(World.cell?_setCell_other _ _ _ _ (fun e => hne (congrArg Addr.block e))).trans k6, (World.frozen?_setCell _ _ _ _).trans kf⟩)
              clear hK K
              try simp only [Act.put, List.setIfInBounds_toArray, List.set_cons_zero, List.set_cons_succ]
              refine wpAnyH_done (by kernel_rfl) ?_ _
              go_wp2
              go_roundw
              case rel =>
                refine ⟨k + 1, ls1 ++ [(l.1, rn p z y, l.2.2)], ls3, by omega, by go_num, Lib.hid ?_, Lib.hid ⟨?_, HL3.out.symm⟩⟩
                · have h3 := (HLX.out.on HB2.out).storeR (rn p z y) HLN.out
                  rw [HLL.out] at h3
                  rw [List.append_assoc]
                  exact h3
                · rw [List.take_succ_eq_append_getElem hkc, List.map_append, ← HLS.out.1, List.map_singleton, HLC.out, HY.out]
              case measure => simp [intOf]; omega
            exact AllReadyH.nil
          exact AllReadyH.nil
        exact AllReadyH.nil
      exact AllReadyH.nil
    · obtain rfl : k = nl := by omega
      have hl2 : ls2 = [] := by rw [HLS.out.2, ← HNL.out, List.drop_length]
      have hl1 : ls1 = C.l.map fun l => (l.1, rn p z l.2.1, l.2.2) := by rw [HLS.out.1, ← HNL.out, List.take_length]
      subst hl2
      rw [List.append_nil, hl1] at HLX
      clear hl1 HLS HLL
      obtain ⟨lr, hlr⟩ : ∃ lr, (C.l.map fun l => (l.1, rn p z l.2.1, l.2.2)) = lr := ⟨_, rfl⟩
      rw [hlr] at HLX
      have HLR := Lib.hid hlr
      clear hlr
      have c6 := HLX.out.c6
      go_upto_region 13 with (fail)
      go_loopw [13] (fun v wy => ∃ (b : Nat) (es1 es2 : List BlE), b ≤ nb ∧ v = .int .i64 b ∧ Hid (LX W3 b11 n9 (C.n 0) (C.n 1) r (C.n 3) (C.n 4) (.slice A5 C.q.length q5) (.slice A6 k q6) (.slice (some ⟨g7, 0, none⟩) nb q7) C.q lr (es1 ++ es2) wy) ∧ Hid (DisI (es1 ++ es2) ∧ (es1 ++ es2).length = nb ∧ es1.length = b ∧ es1.map (·.2) = (C.b.take b).map (fun e => (e.1.map (renI p z), renT p z e.2)) ∧ es2.map (·.2) = C.b.drop b)) (fun v _ => nb - (intOf v).toNat)
      case atStart => exact ⟨0, [], es, Nat.zero_le _, rfl, Lib.hid HLX.out, Lib.hid ⟨HRC.out.2.1, HRC.out.2.2.2, rfl, rfl, by rw [HRC.out.2.2.1]; rfl⟩⟩
      case round =>
        obtain ⟨b, es1, es2, hb, rfl, HLY, HES⟩ := hrel
        have c7 := HLY.out.c7
        by_cases hlt : b < nb
        · have hbi : (b : Int) < (nb : Int) := by omega
          obtain ⟨e0, es3, rfl⟩ : ∃ e0 es3, es2 = e0 :: es3 := by
            cases es2 with
            | nil =>
              have h1 := HES.out.2.1
              have h2 := HES.out.2.2.1
              simp at h1
              omega
            | cons e es3 => exact ⟨e, es3, rfl⟩
          obtain ⟨t, ht⟩ : ∃ t, e0.2.2 = t := ⟨_, rfl⟩
          have hrb := HLY.out.rows.blocks
          rw [HES.out.2.1] at hrb
          have hflat : ∀ o, o < 14 → wr.cell? ⟨g7, b * 14 + o, none⟩ = (blC e0)[o]? := fun o ho => by
            have h1 := HES.out.2.2.1
            have h2 : b < (es1 ++ e0 :: es3).length := by rw [HES.out.2.1]; exact hlt
            rw [hrb.cellAt _ (by omega)]
            have := flat_get blC 14 (fun _ => rfl) (es1 ++ e0 :: es3) b o h2 ho
            unfold flatB
            rw [this, List.getElem_append_right (by omega)]
            simp [h1]
          have t1 := hflat 1 (by decide)
          have t2 := hflat 2 (by decide)
          have t3 := hflat 3 (by decide)
          have t4 := hflat 4 (by decide)
          have t5 := hflat 5 (by decide)
          have t6 := hflat 6 (by decide)
          have t7 := hflat 7 (by decide)
          have t8 := hflat 8 (by decide)
          have t9 := hflat 9 (by decide)
          have t10 := hflat 10 (by decide)
          have t11 := hflat 11 (by decide)
          have t12 := hflat 12 (by decide)
          have t13 := hflat 13 (by decide)
          simp only [blC, TermV.cells, ht, List.getElem?_cons_succ, List.getElem?_cons_zero] at t1 t2 t3 t4 t5 t6 t7 t8 t9 t10 t11 t12 t13
          have HT := Lib.hid ht
          clear hflat hrb ht
          go_upto_region 16 with (fail)
          have HB6 := Lib.hid (show Below wr.heap.size wr (wr.alloc (.cells (termA t) 53)) from (Below.refl _ _).alloc (Nat.le_refl _) _)
          have H14 := Lib.hid (show (wr.alloc (.cells (termA t) 53)).heap[wr.heap.size]? = some (.cells (termA t) 53 (0, 0)) from heap_alloc_new _ _)
          have HSB := Lib.hid (Nat.le_refl wr.heap.size)
          clear t1 t2 t3 t4 t5 t6 t7 t8 t9 t10 t11 t12 t13 c7
          go_upto_region 19 with (first
            | (go_at_call 39; (with_reducible refine (renamed_any t.d p z _).mono ?_); rintro e w1' ⟨rfl, hb1⟩; have hk1 := (hb1.block _ (Array.getElem?_eq_some_iff.1 H14.out).1).trans H14.out; have rf1 := fun o => frozen_of_row _ _ o _ _ hk1; have c1_2 := cell_blk hk1 (i := 2) rfl; have c1_3 := cell_blk hk1 (i := 3) rfl; have c1_4 := cell_blk hk1 (i := 4) rfl; have c1_5 := cell_blk hk1 (i := 5) rfl; have c1_6 := cell_blk hk1 (i := 6) rfl; have c1_7 := cell_blk hk1 (i := 7) rfl; have c1_8 := cell_blk hk1 (i := 8) rfl; have c1_9 := cell_blk hk1 (i := 9) rfl; have c1_10 := cell_blk hk1 (i := 10) rfl; have HK1 := Lib.hid hk1; have HQ1 := Lib.hid (HB6.out.trans (hb1.mono HB6.out.size)); clear hb1 hk1)
            | (go_at_call 39; (with_reducible refine (renamed_any t.a p z _).mono ?_); rintro e w2' ⟨rfl, hb2⟩; have hk2 := (hb2.block _ (Array.getElem?_eq_some_iff.1 (term_d (ren p z t.d) HK1.out)).1).trans (term_d (ren p z t.d) HK1.out); clear rf1 c1_2 c1_3 c1_4 c1_5 c1_6 c1_7 c1_8 c1_9 c1_10; have rf2 := fun o => frozen_of_row _ _ o _ _ hk2; have c2_2 := cell_blk hk2 (i := 2) rfl; have c2_3 := cell_blk hk2 (i := 3) rfl; have c2_4 := cell_blk hk2 (i := 4) rfl; have c2_5 := cell_blk hk2 (i := 5) rfl; have c2_6 := cell_blk hk2 (i := 6) rfl; have c2_7 := cell_blk hk2 (i := 7) rfl; have c2_8 := cell_blk hk2 (i := 8) rfl; have c2_9 := cell_blk hk2 (i := 9) rfl; have c2_10 := cell_blk hk2 (i := 10) rfl; have HK2 := Lib.hid hk2; have HQ2 := Lib.hid ((((HQ1.out.setCell HSB.out _).setCell HSB.out _).setCell HSB.out _).trans (hb2.mono (((HQ1.out.setCell HSB.out _).setCell HSB.out _).setCell HSB.out _).size)); clear hb2 hk2)
            | (go_at_call 39; (with_reducible refine (renamed_any t.b p z _).mono ?_); rintro e w3' ⟨rfl, hb3⟩; have hk3 := (hb3.block _ (Array.getElem?_eq_some_iff.1 (term_a (ren p z t.a) HK2.out)).1).trans (term_a (ren p z t.a) HK2.out); clear rf2 c2_2 c2_3 c2_4 c2_5 c2_6 c2_7 c2_8 c2_9 c2_10; have rf3 := fun o => frozen_of_row _ _ o _ _ hk3; have c3_2 := cell_blk hk3 (i := 2) rfl; have c3_3 := cell_blk hk3 (i := 3) rfl; have c3_4 := cell_blk hk3 (i := 4) rfl; have c3_5 := cell_blk hk3 (i := 5) rfl; have c3_6 := cell_blk hk3 (i := 6) rfl; have c3_7 := cell_blk hk3 (i := 7) rfl; have c3_8 := cell_blk hk3 (i := 8) rfl; have c3_9 := cell_blk hk3 (i := 9) rfl; have c3_10 := cell_blk hk3 (i := 10) rfl; have HK3 := Lib.hid hk3; have HQ3 := Lib.hid ((((HQ2.out.setCell HSB.out _).setCell HSB.out _).setCell HSB.out _).trans (hb3.mono (((HQ2.out.setCell HSB.out _).setCell HSB.out _).setCell HSB.out _).size)); clear hb3 hk3))
          have h14 : (((w3'.setCell ⟨wr.heap.size, 8, none⟩ (.int .i64 (ren p z t.b).k)).setCell ⟨wr.heap.size, 9, none⟩ (.int .i64 (ren p z t.b).n)).setCell ⟨wr.heap.size, 10, none⟩ (.int .i32 (ren p z t.b).v)).heap[wr.heap.size]? = some (.cells (termA (renT p z t)) 53 (0, 0)) := term_b (ren p z t.b) HK3.out
          have HB7 := Lib.hid (show Below wr.heap.size wr (((w3'.setCell ⟨wr.heap.size, 8, none⟩ (.int .i64 (ren p z t.b).k)).setCell ⟨wr.heap.size, 9, none⟩ (.int .i64 (ren p z t.b).n)).setCell ⟨wr.heap.size, 10, none⟩ (.int .i32 (ren p z t.b).v)) from ((HQ3.out.setCell HSB.out _).setCell HSB.out _).setCell HSB.out _)
          clear rf3 c3_2 c3_3 c3_4 c3_5 c3_6 c3_7 c3_8 c3_9 c3_10 HK1 HK2 HK3 HQ1 HQ2 HQ3 HB6 H14
          generalize (((w3'.setCell ⟨wr.heap.size, 8, none⟩ (.int .i64 (ren p z t.b).k)).setCell ⟨wr.heap.size, 9, none⟩ (.int .i64 (ren p z t.b).n)).setCell ⟨wr.heap.size, 10, none⟩ (.int .i32 (ren p z t.b).v)) = W7 at *
          have hg14 : g7 ≠ wr.heap.size := by
            have hrb0 := HLY.out.rows.blocks
            have := (hrb0.lt g7 rfl).2
            omega
          generalize wr.heap.size = b14 at h14 hg14 ⊢
          have H14 := Lib.hid h14
          have HG14 := Lib.hid hg14
          clear hg14
          have HL7 := Lib.hid (HLY.out.on HB7.out)
          have c7 := HL7.out.c7
          have hrb := HL7.out.rows.blocks
          rw [HES.out.2.1] at hrb
          have HTH := Lib.hid (show W7.there g7 (b * 14 + 1) 13 from fun j hj => ⟨by
            have hlt2 : b * 14 + 1 + j < (flatB (es1 ++ e0 :: es3)).length := by rw [flatB_len, HES.out.2.1]; omega
            rw [hrb.cellAt _ (by omega), List.getElem?_eq_getElem hlt2]
            rfl, hrb.frozenAt _⟩)
          have u0 := cell_blk h14 (i := 0) rfl
          have u1 := cell_blk h14 (i := 1) rfl
          have u2 := cell_blk h14 (i := 2) rfl
          have u3 := cell_blk h14 (i := 3) rfl
          have u4 := cell_blk h14 (i := 4) rfl
          have u5 := cell_blk h14 (i := 5) rfl
          have u6 := cell_blk h14 (i := 6) rfl
          have u7 := cell_blk h14 (i := 7) rfl
          have u8 := cell_blk h14 (i := 8) rfl
          have u9 := cell_blk h14 (i := 9) rfl
          have u10 := cell_blk h14 (i := 10) rfl
          have u11 := cell_blk h14 (i := 11) rfl
          have u12 := cell_blk h14 (i := 12) rfl
          clear hrb h14
          go_upto_region 20 with (first
            | (refine wpList_store_mid rfl 53 _ _ rfl g7 (b * 14 + 1) (termA (renT p z t)) (by rfl) (by rfl) (fun j hj => HTH.out j hj) (by kernel_rfl) (termA_one _) ?_))
          have HL8 := Lib.hid (show LX W3 b11 n9 (C.n 0) (C.n 1) r (C.n 3) (C.n 4) (.slice A5 C.q.length q5) (.slice A6 k q6) (.slice (some ⟨g7, 0, none⟩) nb q7) C.q lr (es1 ++ (e0.1, e0.2.1, renT p z t) :: es3) (W7.setCells g7 (b * 14 + 1) (termA (renT p z t)).toList) from by
            have h := HL7.out.storeT (renT p z t) HES.out.2.1
            rw [HES.out.2.2.1] at h
            exact h)
          have h14 : (W7.setCells g7 (b * 14 + 1) (termA (renT p z t)).toList).heap[b14]? = some (.cells (termA (renT p z t)) 53 (0, 0)) := by
            have hrb := HL7.out.rows.blocks
            rw [HES.out.2.1] at hrb
            have hg := (setN_row (termA (renT p z t)).toList (b * 14 + 1) W7 _ hrb).2
            rw [setN_eq] at hg
            exact (hg.block b14 (Array.getElem?_eq_some_iff.1 H14.out).1 (fun e => HG14.out (Option.some.inj e).symm)).trans H14.out
          clear u0 u1 u2 u3 u4 u5 u6 u7 u8 u9 u10 u11 u12 c7 HTH
          generalize (W7.setCells g7 (b * 14 + 1) (termA (renT p z t)).toList) = W8 at *
          have H14x := Lib.hid h14
          have h8 := (HL8.out.below.block b8 (by rw [HN9.out]; exact Nat.lt_of_lt_of_le (Array.getElem?_eq_some_iff.1 HB8.out).1 (Nat.le_of_eq HN9.out))).trans HB8.out
          have kc7 := cell_blk h8 (i := 7) rfl
          have hte : C.te b = t := by
            have h1 := HES.out.2.2.2.2
            have hbc : b < C.b.length := by rw [HNB.out]; exact hlt
            rw [List.drop_eq_getElem_cons hbc, List.map_cons] at h1
            unfold CdV.te
            rw [getD_of _ _ _ hbc, ← (List.cons.inj h1).1]
            exact HT.out
          obtain ⟨b3, off3, hA3, hb3, hcells⟩ := (HCK.out.on HL8.out.below).mem.blocks (by rw [HNB.out]; omega)
          obtain ⟨_, o1, o2, o3, o4, o5, o6, o7, o8, o9, o10, o11, o12, o13⟩ := hcells b (by rw [HNB.out]; exact hlt)
          rw [hte] at o1 o2 o3 o4 o5 o6 o7 o8 o9 o10 o11 o12 o13
          rw [hA3] at kc7
          have HA3 := Lib.hid hA3
          clear hA3
          clear hcells h8 h14 hte
          go_upto_region 21 with (fail)
          have HB89 := Lib.hid (show Below W8.heap.size W8 (W8.alloc (.cells (termA t) 53)) from (Below.refl _ _).alloc (Nat.le_refl _) _)
          have HL9 := Lib.hid (HL8.out.on HB89.out)
          have h15 : (W8.alloc (.cells (termA t) 53)).heap[W8.heap.size]? = some (.cells (termA t) 53 (0, 0)) := heap_alloc_new _ _
          have h14 := (HB89.out.block _ (Array.getElem?_eq_some_iff.1 H14x.out).1).trans H14x.out
          obtain ⟨tr, htr⟩ : ∃ tr, renT p z t = tr := ⟨_, rfl⟩
          have hus : usesT tr = exL p z (usesT t) (usesT t).length := by rw [← htr]; exact usesT_ren p z t
          have hsu : succL tr = succL t := by rw [← htr]; rfl
          have hrd : regV tr.d = if t.d.k = 2 then rn p z t.d.n else -1 := by rw [← htr]; exact regV_ren p z t.d
          rw [htr] at h14
          have HTR := Lib.hid htr
          have HTE := Lib.hid (show t = e0.2.2 from HT.out.symm)
          have HUS := Lib.hid hus
          have HSU := Lib.hid hsu
          have HRD := Lib.hid hrd
          clear o1 o2 o3 o4 o5 o6 o7 o8 o9 o10 o11 o12 o13 kc7 hus hsu hrd htr
          generalize (W8.alloc (.cells (termA t) 53)) = W9 at *
          generalize W8.heap.size = b15 at *
          have H14y := Lib.hid h14
          have H15y := Lib.hid h15
          clear h14 h15
          have HDN := Lib.hid (show t.d.k = 2 → 0 ≤ t.d.n from fun hk => by
            have hm : e0.2 ∈ C.b := by
              have h1 := HES.out.2.2.2.2
              have h2 : e0.2 ∈ C.b.drop b := by rw [← h1]; exact List.mem_map.2 ⟨e0, List.mem_cons_self, rfl⟩
              exact List.mem_of_mem_drop h2
            have := HF.out.dt e0.2 hm
            rw [HT.out] at this
            exact this hk)
          have hp0 := HP.out.1.1
          have hz0 := HP.out.2.1
          refine r21_of p z t tr b14 b15 W9 _ _ _ _ _ _ _ _ _ _ _ _ _ _ _ _ _ _ _ _ _ _ _ _ _ _ _ _ _ _ _ _ _ _ _ _ _ _ _ _ _ _ _ _ _ _ _ _ _ _ _ _ _ _ _ _ _ _ _ _ _ _ _ _ _ _ _ _ _ _ _ _ _ _ _ _ _ _ _ _ _ _ _ _ _ _ _ _ _ _ _ _ _ _ _ _ _ _ _ _ _ _ _ _ _ _ _ _ _ _ _ _ _ _ _ _ _ _ _ _ _ _ _ _ _ _ _ _ _ _ _ _ _ _ _ _ _ _ _ _ _ _ _ _ _ _ _ _ _ _ _ _ _ _ _ _ _ _ _ _ _ _ _ _ _ _ _ _ _ _ _ _ _ _ _ _ _ _ _ _ _ _ _ _ _ _ _ _ _ _ _ _ _ _ _ _ _ _ _ _ _ _ _ _ _ _ _ _ _ _ _ _ _ _ _ _ _ _ _ _ _ _ _ _ _ _ _ _ _ _ _ _ _ _ _ _ _ _ _ _ _ _ _ _ _ _ _ H14y.out H15y.out HTR.out hp0 hz0 HDN.out (fun _ _ dst _ _ h => (by cases dst <;> exact h)) ?_
          intro x105 x106 x107 x108 x109 x110 x111 x112 x113 x114 x115 x116 x117 x118 x119 x120 x121 x122 x123 x124 x125 x126 x127 x128 x129 x130 x131 x132 x133 x134 x135 x136 x137 x138 x139 x140 x141 x142 x143 x144 x145 x146 x147 W10 hx147 hb10
          subst hx147
          have HB10 := Lib.hid hb10
          clear hp0 hz0 hb10 HDN HUS HSU HRD H14y H15y
          as_aux_lemma =>
            have HLA := Lib.hid (show LX W3 b11 n9 (C.n 0) (C.n 1) r (C.n 3) (C.n 4) (.slice A5 C.q.length q5) (.slice A6 k q6) (.slice (some ⟨g7, 0, none⟩) nb q7) C.q lr (es1 ++ (e0.1, e0.2.1, tr) :: es3) W10 from by
              have h := HL9.out.on HB10.out
              rw [HTR.out] at h
              exact h)
            obtain ⟨I, hI⟩ : ∃ I, e0.2.1 = I := ⟨_, rfl⟩
            obtain ⟨ni, hni⟩ : ∃ ni, I.length = ni := ⟨_, rfl⟩
            rw [hI] at HLA
            have HIE := Lib.hid hI
            have HNI := Lib.hid hni
            obtain ⟨A8, c8, hv8⟩ : ∃ A8 c8, e0.1 = .slice A8 ni c8 := by
              obtain ⟨A8, c8, h1, _⟩ := own_cells (HLA.out.rows.insts (e0.1, I, tr) (List.mem_append.2 (.inr List.mem_cons_self)))
              refine ⟨A8, c8, ?_⟩
              rw [← hni]
              exact h1
            rw [hv8] at HLA
            have HV8 := Lib.hid hv8
            have HLEN := Lib.hid (show ∀ x : BlE, (es1 ++ x :: es3).length = nb from fun x => by
              have h1 := HES.out.2.1
              rw [List.length_append, List.length_cons] at h1 ⊢
              exact h1)
            have HE1 := Lib.hid HES.out.2.2.1
            have HDS := Lib.hid (show ∀ L : List InstV, DisI (es1 ++ (Value.slice A8 ni c8, L, tr) :: es3) from fun L => disI_same HES.out.1 hv8.symm)
            have hni27 : ni ≤ 27 := by
              have hm : e0.2 ∈ C.b := by
                have h1 := HES.out.2.2.2.2
                have h2 : e0.2 ∈ C.b.drop b := by rw [← h1]; exact List.mem_map.2 ⟨e0, List.mem_cons_self, rfl⟩
                exact List.mem_of_mem_drop h2
              have := HF.out.il e0.2 hm
              rw [hI, hni] at this
              exact this
            have HDI := Lib.hid (show ∀ i : InstV, i ∈ I → i.d.k = 2 → 0 ≤ i.d.n from fun i hi hk => by
              have hm : e0.2 ∈ C.b := by
                have h1 := HES.out.2.2.2.2
                have h2 : e0.2 ∈ C.b.drop b := by rw [← h1]; exact List.mem_map.2 ⟨e0, List.mem_cons_self, rfl⟩
                exact List.mem_of_mem_drop h2
              exact HF.out.di e0.2 hm i (by rw [hI]; exact hi) hk)
            clear hI hni hv8
            have hgb := HLA.out.head (HLEN.out _)
            rw [HE1.out] at hgb
            have c7 := HLA.out.c7
            go_upto_region 24 with (fail)
            clear hgb c7
            go_loopw [16] (fun v wz => ∃ c : Nat, c ≤ ni ∧ v = .int .i64 c ∧ Hid (LX W3 b11 n9 (C.n 0) (C.n 1) r (C.n 3) (C.n 4) (.slice A5 C.q.length q5) (.slice A6 k q6) (.slice (some ⟨g7, 0, none⟩) nb q7) C.q lr (es1 ++ (.slice A8 ni c8, (I.take c).map (renI p z) ++ I.drop c, tr) :: es3) wz)) (fun v _ => ni - (intOf v).toNat)
            case atStart => exact ⟨0, Nat.zero_le _, rfl, Lib.hid (by simpa only [List.take_zero, List.map_nil, List.nil_append, List.drop_zero] using HLA.out)⟩
            case round =>
              obtain ⟨c, hc, rfl, HLZ⟩ := hrel
              have hgb := HLZ.out.head (HLEN.out _)
              rw [HE1.out] at hgb
              have c7 := HLZ.out.c7
              by_cases hlc : c < ni
              · have hci : (c : Int) < (ni : Int) := by omega
                obtain ⟨gI, rfl⟩ : ∃ gI, A8 = some ⟨gI, 0, none⟩ := by
                  obtain ⟨A8', c8', h1, h2⟩ := own_cells (HLZ.out.rows.insts _ (List.mem_append.2 (.inr List.mem_cons_self)))
                  rw [ren_len, HNI.out] at h1 h2
                  obtain ⟨gI, h3, _⟩ := h2 (by omega)
                  simp only [Value.slice.injEq] at h1
                  exact ⟨gI, h1.1.trans h3⟩
                have hcI : c < I.length := by rw [HNI.out]; exact hlc
                obtain ⟨i, hi⟩ : ∃ i, I[c] = i := ⟨_, rfl⟩
                have HRS := Lib.hid (show ((I.take c).map (renI p z) ++ I.drop c).set c (renI p z i) = (I.take (c + 1)).map (renI p z) ++ I.drop (c + 1) from by rw [← hi]; exact ren_step p z I c hcI)
                have HDN := Lib.hid (show i.d.k = 2 → 0 ≤ i.d.n from HDI.out i (by rw [← hi]; exact List.getElem_mem hcI))
                have hat := ren_at p z I c hcI
                rw [hi] at hat
                have hlL : ((I.take c).map (renI p z) ++ I.drop c).length = ni := by rw [ren_len, HNI.out]
                have hcell := fun j hj => HLZ.out.icells (k := c) rfl hlL hlc hat j hj
                have i0 := hcell 0 (by decide)
                have i1 := hcell 1 (by decide)
                have i2 := hcell 2 (by decide)
                have i3 := hcell 3 (by decide)
                have i4 := hcell 4 (by decide)
                have i5 := hcell 5 (by decide)
                have i6 := hcell 6 (by decide)
                have i7 := hcell 7 (by decide)
                have i8 := hcell 8 (by decide)
                have i9 := hcell 9 (by decide)
                have i10 := hcell 10 (by decide)
                have i11 := hcell 11 (by decide)
                have i12 := hcell 12 (by decide)
                have i13 := hcell 13 (by decide)
                have i14 := hcell 14 (by decide)
                simp only [InstV.cells, List.getElem?_cons_succ, List.getElem?_cons_zero, Nat.add_zero] at i0 i1 i2 i3 i4 i5 i6 i7 i8 i9 i10 i11 i12 i13 i14
                have HLL := Lib.hid hlL
                clear hcell hat hi hlL hcI
                go_upto_region 28 with (fail)
                have hb6 : Below wr.heap.size wr ((wr.alloc (.cells (instA i) 61)).alloc (.cells (instA i) 61)) := ((Below.refl _ _).alloc (Nat.le_refl _) _).alloc (by simp) _
                have h17 : ((wr.alloc (.cells (instA i) 61)).alloc (.cells (instA i) 61)).heap[wr.heap.size]? = some (.cells (instA i) 61 (0, 0)) := (Below.heap_alloc _ _ _ (by simp)).trans (heap_alloc_new _ _)
                have h18 : ((wr.alloc (.cells (instA i) 61)).alloc (.cells (instA i) 61)).heap[wr.heap.size + 1]? = some (.cells (instA i) 61 (0, 0)) := by
                  have := heap_alloc_new (wr.alloc (.cells (instA i) 61)) (.cells (instA i) 61)
                  rwa [World.size_alloc] at this
                have HB6 := Lib.hid hb6
                generalize ((wr.alloc (.cells (instA i) 61)).alloc (.cells (instA i) 61)) = W11 at *
                obtain ⟨b17, hb17⟩ : ∃ b17, wr.heap.size = b17 := ⟨_, rfl⟩
                obtain ⟨b18, hb18⟩ : ∃ b18, b17 + 1 = b18 := ⟨_, rfl⟩
                rw [hb17] at h17 h18 ⊢
                rw [hb18] at h18 ⊢
                have HSB := Lib.hid (Nat.le_of_eq hb17)
                have HS17 := Lib.hid hb17
                have HS18 := Lib.hid hb18
                have HNE := Lib.hid (show b18 ≠ b17 from by omega)
                have H17 := Lib.hid h17
                have H18 := Lib.hid h18
                clear i0 i1 i2 i3 i4 i5 i6 i7 i8 i9 i10 i11 i12 i13 i14 hb6 h18 hb17 hb18 hgb c7
                have i3 := cell_blk h17 (i := 3) rfl
                have i4 := cell_blk h17 (i := 4) rfl
                have i5 := cell_blk h17 (i := 5) rfl
                have i6 := cell_blk h17 (i := 6) rfl
                have i7 := cell_blk h17 (i := 7) rfl
                have i8 := cell_blk h17 (i := 8) rfl
                have i9 := cell_blk h17 (i := 9) rfl
                have i10 := cell_blk h17 (i := 10) rfl
                have i11 := cell_blk h17 (i := 11) rfl
                have i12 := cell_blk h17 (i := 12) rfl
                have i13 := cell_blk h17 (i := 13) rfl
                have i14 := cell_blk h17 (i := 14) rfl
                clear h17
                go_upto_region 32 with (first
                  | (go_at_call 39; (with_reducible refine (renamed_any i.d p z _).mono ?_); rintro e w1' ⟨rfl, hb1⟩; have hk1 := (hb1.block _ (Array.getElem?_eq_some_iff.1 H17.out).1).trans H17.out; have HR1 := Lib.hid ((hb1.block _ (Array.getElem?_eq_some_iff.1 H18.out).1).trans H18.out); have rf1 := fun o => frozen_of_row _ _ o _ _ hk1; have c1_3 := cell_blk hk1 (i := 3) rfl; have c1_4 := cell_blk hk1 (i := 4) rfl; have c1_5 := cell_blk hk1 (i := 5) rfl; have c1_6 := cell_blk hk1 (i := 6) rfl; have c1_7 := cell_blk hk1 (i := 7) rfl; have c1_8 := cell_blk hk1 (i := 8) rfl; have c1_9 := cell_blk hk1 (i := 9) rfl; have c1_10 := cell_blk hk1 (i := 10) rfl; have c1_11 := cell_blk hk1 (i := 11) rfl; have c1_12 := cell_blk hk1 (i := 12) rfl; have c1_13 := cell_blk hk1 (i := 13) rfl; have c1_14 := cell_blk hk1 (i := 14) rfl; have HK1 := Lib.hid hk1; have HQ1 := Lib.hid (HB6.out.trans (hb1.mono HB6.out.size)); clear hb1 hk1)
                  | (go_at_call 39; (with_reducible refine (renamed_any i.a p z _).mono ?_); rintro e w2' ⟨rfl, hb2⟩; have hk2 := (hb2.block _ (Array.getElem?_eq_some_iff.1 (inst_d (ren p z i.d) HK1.out)).1).trans (inst_d (ren p z i.d) HK1.out); have HR2 := Lib.hid ((hb2.block _ (Array.getElem?_eq_some_iff.1 ((three_other _ _ _ _ _ _ HNE.out).trans HR1.out)).1).trans ((three_other _ _ _ _ _ _ HNE.out).trans HR1.out)); clear rf1 c1_3 c1_4 c1_5 c1_6 c1_7 c1_8 c1_9 c1_10 c1_11 c1_12 c1_13 c1_14; have rf2 := fun o => frozen_of_row _ _ o _ _ hk2; have c2_3 := cell_blk hk2 (i := 3) rfl; have c2_4 := cell_blk hk2 (i := 4) rfl; have c2_5 := cell_blk hk2 (i := 5) rfl; have c2_6 := cell_blk hk2 (i := 6) rfl; have c2_7 := cell_blk hk2 (i := 7) rfl; have c2_8 := cell_blk hk2 (i := 8) rfl; have c2_9 := cell_blk hk2 (i := 9) rfl; have c2_10 := cell_blk hk2 (i := 10) rfl; have c2_11 := cell_blk hk2 (i := 11) rfl; have c2_12 := cell_blk hk2 (i := 12) rfl; have c2_13 := cell_blk hk2 (i := 13) rfl; have c2_14 := cell_blk hk2 (i := 14) rfl; have HK2 := Lib.hid hk2; have HQ2 := Lib.hid ((((HQ1.out.setCell HSB.out _).setCell HSB.out _).setCell HSB.out _).trans (hb2.mono (((HQ1.out.setCell HSB.out _).setCell HSB.out _).setCell HSB.out _).size)); clear hb2 hk2)
                  | (go_at_call 39; (with_reducible refine (renamed_any i.b p z _).mono ?_); rintro e w3' ⟨rfl, hb3⟩; have hk3 := (hb3.block _ (Array.getElem?_eq_some_iff.1 (inst_a (ren p z i.a) HK2.out)).1).trans (inst_a (ren p z i.a) HK2.out); have HR3 := Lib.hid ((hb3.block _ (Array.getElem?_eq_some_iff.1 ((three_other _ _ _ _ _ _ HNE.out).trans HR2.out)).1).trans ((three_other _ _ _ _ _ _ HNE.out).trans HR2.out)); clear rf2 c2_3 c2_4 c2_5 c2_6 c2_7 c2_8 c2_9 c2_10 c2_11 c2_12 c2_13 c2_14; have rf3 := fun o => frozen_of_row _ _ o _ _ hk3; have c3_3 := cell_blk hk3 (i := 3) rfl; have c3_4 := cell_blk hk3 (i := 4) rfl; have c3_5 := cell_blk hk3 (i := 5) rfl; have c3_6 := cell_blk hk3 (i := 6) rfl; have c3_7 := cell_blk hk3 (i := 7) rfl; have c3_8 := cell_blk hk3 (i := 8) rfl; have c3_9 := cell_blk hk3 (i := 9) rfl; have c3_10 := cell_blk hk3 (i := 10) rfl; have c3_11 := cell_blk hk3 (i := 11) rfl; have c3_12 := cell_blk hk3 (i := 12) rfl; have c3_13 := cell_blk hk3 (i := 13) rfl; have c3_14 := cell_blk hk3 (i := 14) rfl; have HK3 := Lib.hid hk3; have HQ3 := Lib.hid ((((HQ2.out.setCell HSB.out _).setCell HSB.out _).setCell HSB.out _).trans (hb3.mono (((HQ2.out.setCell HSB.out _).setCell HSB.out _).setCell HSB.out _).size)); clear hb3 hk3)
                  | (go_at_call 39; (with_reducible refine (renamed_any i.c p z _).mono ?_); rintro e w4' ⟨rfl, hb4⟩; have hk4 := (hb4.block _ (Array.getElem?_eq_some_iff.1 (inst_b (ren p z i.b) HK3.out)).1).trans (inst_b (ren p z i.b) HK3.out); have HR4 := Lib.hid ((hb4.block _ (Array.getElem?_eq_some_iff.1 ((three_other _ _ _ _ _ _ HNE.out).trans HR3.out)).1).trans ((three_other _ _ _ _ _ _ HNE.out).trans HR3.out)); clear rf3 c3_3 c3_4 c3_5 c3_6 c3_7 c3_8 c3_9 c3_10 c3_11 c3_12 c3_13 c3_14; have rf4 := fun o => frozen_of_row _ _ o _ _ hk4; have c4_3 := cell_blk hk4 (i := 3) rfl; have c4_4 := cell_blk hk4 (i := 4) rfl; have c4_5 := cell_blk hk4 (i := 5) rfl; have c4_6 := cell_blk hk4 (i := 6) rfl; have c4_7 := cell_blk hk4 (i := 7) rfl; have c4_8 := cell_blk hk4 (i := 8) rfl; have c4_9 := cell_blk hk4 (i := 9) rfl; have c4_10 := cell_blk hk4 (i := 10) rfl; have c4_11 := cell_blk hk4 (i := 11) rfl; have c4_12 := cell_blk hk4 (i := 12) rfl; have c4_13 := cell_blk hk4 (i := 13) rfl; have c4_14 := cell_blk hk4 (i := 14) rfl; have HK4 := Lib.hid hk4; have HQ4 := Lib.hid ((((HQ3.out.setCell HSB.out _).setCell HSB.out _).setCell HSB.out _).trans (hb4.mono (((HQ3.out.setCell HSB.out _).setCell HSB.out _).setCell HSB.out _).size)); clear hb4 hk4))
                have h17 : (((w4'.setCell ⟨b17, 12, none⟩ (.int .i64 (ren p z i.c).k)).setCell ⟨b17, 13, none⟩ (.int .i64 (ren p z i.c).n)).setCell ⟨b17, 14, none⟩ (.int .i32 (ren p z i.c).v)).heap[b17]? = some (.cells (instA (renI p z i)) 61 (0, 0)) := inst_c (ren p z i.c) HK4.out
                have h18 : (((w4'.setCell ⟨b17, 12, none⟩ (.int .i64 (ren p z i.c).k)).setCell ⟨b17, 13, none⟩ (.int .i64 (ren p z i.c).n)).setCell ⟨b17, 14, none⟩ (.int .i32 (ren p z i.c).v)).heap[b18]? = some (.cells (instA i) 61 (0, 0)) := (three_other _ _ _ _ _ _ HNE.out).trans HR4.out
                have HB19 := Lib.hid (show Below wr.heap.size wr (((w4'.setCell ⟨b17, 12, none⟩ (.int .i64 (ren p z i.c).k)).setCell ⟨b17, 13, none⟩ (.int .i64 (ren p z i.c).n)).setCell ⟨b17, 14, none⟩ (.int .i32 (ren p z i.c).v)) from ((HQ4.out.setCell HSB.out _).setCell HSB.out _).setCell HSB.out _)
                clear rf4 c4_3 c4_4 c4_5 c4_6 c4_7 c4_8 c4_9 c4_10 c4_11 c4_12 c4_13 c4_14 i3 i4 i5 i6 i7 i8 i9 i10 i11 i12 i13 i14 HK1 HK2 HK3 HK4 HQ1 HQ2 HQ3 HQ4 HR1 HR2 HR3 HR4 HB6 H17 H18
                generalize (((w4'.setCell ⟨b17, 12, none⟩ (.int .i64 (ren p z i.c).k)).setCell ⟨b17, 13, none⟩ (.int .i64 (ren p z i.c).n)).setCell ⟨b17, 14, none⟩ (.int .i32 (ren p z i.c).v)) = W19 at *
                have HL19 := Lib.hid (HLZ.out.on HB19.out)
                obtain ⟨hgb, hfz, hzz, hn11, hn7⟩ := HL19.out.inst (k := c) (HLEN.out _) rfl HLL.out hlc
                rw [HE1.out] at hgb
                have d7 := HL19.out.c7
                have HRI := Lib.hid (show ∃ ir, renI p z i = ir from ⟨_, rfl⟩)
                obtain ⟨ir, hir⟩ := HRI.out
                rw [hir] at h17 HRS
                have HIR := Lib.hid hir
                clear hir HRI
                have y0 := cell_blk h17 (i := 0) rfl
                have y1 := cell_blk h17 (i := 1) rfl
                have y2 := cell_blk h17 (i := 2) rfl
                have y3 := cell_blk h17 (i := 3) rfl
                have y4 := cell_blk h17 (i := 4) rfl
                have y5 := cell_blk h17 (i := 5) rfl
                have y6 := cell_blk h17 (i := 6) rfl
                have y7 := cell_blk h17 (i := 7) rfl
                have y8 := cell_blk h17 (i := 8) rfl
                have y9 := cell_blk h17 (i := 9) rfl
                have y10 := cell_blk h17 (i := 10) rfl
                have y11 := cell_blk h17 (i := 11) rfl
                have y12 := cell_blk h17 (i := 12) rfl
                have y13 := cell_blk h17 (i := 13) rfl
                have y14 := cell_blk h17 (i := 14) rfl
                have hgl : gI < wr.heap.size := by
                  have hlx := HLZ.out.rows.insts _ (List.mem_append.2 (.inr List.mem_cons_self))
                  exact (hlx.lt gI rfl).2
                have hn17 : b17 ≠ gI := by have := HS17.out; omega
                have hn18 : b18 ≠ gI := by have h1 := HS17.out; have h2 := HS18.out; omega
                have HN17 := Lib.hid hn17
                have HN11 := Lib.hid hn11
                have HN7 := Lib.hid hn7
                have HTH := Lib.hid (show W19.there gI (c * 15) 15 from fun j hj => ⟨by obtain ⟨v, e⟩ := hzz j hj; rw [e]; rfl, hfz _⟩)
                have key : ∀ x : Addr, x.block ≠ gI → (W19.drew.setCells gI (c * 15) (instA ir).toList).cell? x = W19.cell? x := fun x hx => World.cell?_setCells_out gI _ _ _ x (fun e => absurd e hx)
                have HS0 := Lib.hid (show (fun w' => w'.cell? ⟨b11, 7, none⟩ = some (.slice (some ⟨g7, 0, none⟩) nb q7) ∧ w'.cell? ⟨g7, b * 14, none⟩ = some (.slice (some ⟨gI, 0, none⟩) ni c8) ∧ w'.cell? ⟨b17, 0, none⟩ = some (.int .i64 ir.op) ∧ w'.cell? ⟨b17, 1, none⟩ = some (.int .i64 ir.sub) ∧ w'.cell? ⟨b17, 2, none⟩ = some (.int .i64 ir.n) ∧ w'.cell? ⟨b17, 3, none⟩ = some (.int .i64 ir.d.k) ∧ w'.cell? ⟨b17, 4, none⟩ = some (.int .i64 ir.d.n) ∧ w'.cell? ⟨b17, 5, none⟩ = some (.int .i32 ir.d.v) ∧ w'.cell? ⟨b17, 6, none⟩ = some (.int .i64 ir.a.k) ∧ w'.cell? ⟨b17, 7, none⟩ = some (.int .i64 ir.a.n) ∧ w'.cell? ⟨b17, 8, none⟩ = some (.int .i32 ir.a.v) ∧ w'.cell? ⟨b17, 9, none⟩ = some (.int .i64 ir.b.k) ∧ w'.cell? ⟨b17, 10, none⟩ = some (.int .i64 ir.b.n) ∧ w'.cell? ⟨b17, 11, none⟩ = some (.int .i32 ir.b.v) ∧ w'.cell? ⟨b17, 12, none⟩ = some (.int .i64 ir.c.k) ∧ w'.cell? ⟨b17, 13, none⟩ = some (.int .i64 ir.c.n) ∧ w'.cell? ⟨b17, 14, none⟩ = some (.int .i32 ir.c.v)) W19.drew from ⟨d7, hgb, y0, y1, y2, y3, y4, y5, y6, y7, y8, y9, y10, y11, y12, y13, y14⟩)
                have HKP := Lib.hid (show (fun w' => w'.cell? ⟨b11, 7, none⟩ = some (.slice (some ⟨g7, 0, none⟩) nb q7) ∧ w'.cell? ⟨g7, b * 14, none⟩ = some (.slice (some ⟨gI, 0, none⟩) ni c8) ∧ w'.cell? ⟨b17, 0, none⟩ = some (.int .i64 ir.op) ∧ w'.cell? ⟨b17, 1, none⟩ = some (.int .i64 ir.sub) ∧ w'.cell? ⟨b17, 2, none⟩ = some (.int .i64 ir.n) ∧ w'.cell? ⟨b17, 3, none⟩ = some (.int .i64 ir.d.k) ∧ w'.cell? ⟨b17, 4, none⟩ = some (.int .i64 ir.d.n) ∧ w'.cell? ⟨b17, 5, none⟩ = some (.int .i32 ir.d.v) ∧ w'.cell? ⟨b17, 6, none⟩ = some (.int .i64 ir.a.k) ∧ w'.cell? ⟨b17, 7, none⟩ = some (.int .i64 ir.a.n) ∧ w'.cell? ⟨b17, 8, none⟩ = some (.int .i32 ir.a.v) ∧ w'.cell? ⟨b17, 9, none⟩ = some (.int .i64 ir.b.k) ∧ w'.cell? ⟨b17, 10, none⟩ = some (.int .i64 ir.b.n) ∧ w'.cell? ⟨b17, 11, none⟩ = some (.int .i32 ir.b.v) ∧ w'.cell? ⟨b17, 12, none⟩ = some (.int .i64 ir.c.k) ∧ w'.cell? ⟨b17, 13, none⟩ = some (.int .i64 ir.c.n) ∧ w'.cell? ⟨b17, 14, none⟩ = some (.int .i32 ir.c.v)) (W19.drew.setCells gI (c * 15) (instA ir).toList) from ⟨(key _ HN11.out).trans d7, (key _ HN7.out).trans hgb, (key _ HN17.out).trans y0, (key _ HN17.out).trans y1, (key _ HN17.out).trans y2, (key _ HN17.out).trans y3, (key _ HN17.out).trans y4, (key _ HN17.out).trans y5, (key _ HN17.out).trans y6, (key _ HN17.out).trans y7, (key _ HN17.out).trans y8, (key _ HN17.out).trans y9, (key _ HN17.out).trans y10, (key _ HN17.out).trans y11, (key _ HN17.out).trans y12, (key _ HN17.out).trans y13, (key _ HN17.out).trans y14⟩)
                have H17 := Lib.hid (show (W19.drew.setCells gI (c * 15) (instA ir).toList).heap[b17]? = some (.cells (instA ir) 61 (0, 0)) from (World.heap_setCells_other W19.drew gI _ _ (Array.getElem?_eq_some_iff.1 h17).1 hn17).trans h17)
                have H18 := Lib.hid (show (W19.drew.setCells gI (c * 15) (instA ir).toList).heap[b18]? = some (.cells (instA i) 61 (0, 0)) from (World.heap_setCells_other W19.drew gI _ _ (Array.getElem?_eq_some_iff.1 h18).1 hn18).trans h18)
                have HL20 := Lib.hid (HL19.out.drew.setKc (k := c) ir (HDS.out _) rfl HLL.out hlc)
                clear hgb hfz hzz hn11 hn7 d7 key h17 h18 hgl hn17 hn18 y0 y1 y2 y3 y4 y5 y6 y7 y8 y9 y10 y11 y12 y13 y14
                refine wp_region_held_drew (S := (fun w' => w'.cell? ⟨b11, 7, none⟩ = some (.slice (some ⟨g7, 0, none⟩) nb q7) ∧ w'.cell? ⟨g7, b * 14, none⟩ = some (.slice (some ⟨gI, 0, none⟩) ni c8) ∧ w'.cell? ⟨b17, 0, none⟩ = some (.int .i64 ir.op) ∧ w'.cell? ⟨b17, 1, none⟩ = some (.int .i64 ir.sub) ∧ w'.cell? ⟨b17, 2, none⟩ = some (.int .i64 ir.n) ∧ w'.cell? ⟨b17, 3, none⟩ = some (.int .i64 ir.d.k) ∧ w'.cell? ⟨b17, 4, none⟩ = some (.int .i64 ir.d.n) ∧ w'.cell? ⟨b17, 5, none⟩ = some (.int .i32 ir.d.v) ∧ w'.cell? ⟨b17, 6, none⟩ = some (.int .i64 ir.a.k) ∧ w'.cell? ⟨b17, 7, none⟩ = some (.int .i64 ir.a.n) ∧ w'.cell? ⟨b17, 8, none⟩ = some (.int .i32 ir.a.v) ∧ w'.cell? ⟨b17, 9, none⟩ = some (.int .i64 ir.b.k) ∧ w'.cell? ⟨b17, 10, none⟩ = some (.int .i64 ir.b.n) ∧ w'.cell? ⟨b17, 11, none⟩ = some (.int .i32 ir.b.v) ∧ w'.cell? ⟨b17, 12, none⟩ = some (.int .i64 ir.c.k) ∧ w'.cell? ⟨b17, 13, none⟩ = some (.int .i64 ir.c.n) ∧ w'.cell? ⟨b17, 14, none⟩ = some (.int .i32 ir.c.v))) (by kernel_rfl) ?_ (fun hHeld => ?_)
                · exact HS0.out
                refine wpAnyH_take (i := 0) (oi := { dst := some 193, op := Op.fieldAddr 36 (Operand.tmp 11) 7, type := 0, pos := "law.go:368", after := #[], guard := none }) (v := ?_) rfl (by kernel_rfl) (by kernel_rfl) (by kernel_rfl) (fun _ _ _ h => h) (Or.inl ⟨by kernel_rfl, ?_⟩) (by assumption) ?_
                rotate_left
                · (intro w hSw; (try dsimp only at hSw); go_simp; (try with_reducible rfl))
                try simp only [Act.put, List.setIfInBounds_toArray, List.set_cons_zero, List.set_cons_succ]
                refine wpAnyH_take (i := 1) (oi := { dst := some 194, op := Op.load 34 (Operand.tmp 193), type := 34, pos := "law.go:368", after := #[{ on := 0, ground := Ground.data }], guard := none }) (v := ?_) rfl (by kernel_rfl) (by kernel_rfl) (by kernel_rfl) (fun _ _ _ h => h) (Or.inl ⟨by kernel_rfl, ?_⟩) (by assumption) ?_
                rotate_left
                · (intro w hSw; (try dsimp only at hSw); go_simp; (try with_reducible rfl))
                try simp only [Act.put, List.setIfInBounds_toArray, List.set_cons_zero, List.set_cons_succ]
                refine wpAnyH_take (i := 2) (oi := { dst := some 195, op := Op.move (Operand.tmp 13), type := 3, pos := "law.go:368", after := #[], guard := none }) (v := ?_) rfl (by kernel_rfl) (by kernel_rfl) (by kernel_rfl) (fun _ _ _ h => h) (Or.inl ⟨by kernel_rfl, ?_⟩) (by assumption) ?_
                rotate_left
                · (intro w hSw; (try dsimp only at hSw); go_simp; (try with_reducible rfl))
                try simp only [Act.put, List.setIfInBounds_toArray, List.set_cons_zero, List.set_cons_succ]
                refine wpAnyH_take (i := 3) (oi := { dst := some 196, op := Op.indexAddr 34 (Operand.tmp 194) (Operand.tmp 195), type := 0, pos := "law.go:368", after := #[{ on := 1, ground := Ground.data }, { on := 2, ground := Ground.data }], guard := none }) (v := ?_) rfl (by kernel_rfl) (by kernel_rfl) (by kernel_rfl) (fun _ _ _ h => h) (Or.inl ⟨by kernel_rfl, ?_⟩) (by assumption) ?_
                rotate_left
                · (intro w hSw; (try dsimp only at hSw); go_simp; (try with_reducible rfl))
                try simp only [Act.put, List.setIfInBounds_toArray, List.set_cons_zero, List.set_cons_succ]
                refine wpAnyH_take (i := 4) (oi := { dst := some 197, op := Op.fieldAddr 55 (Operand.tmp 196) 0, type := 0, pos := "law.go:368", after := #[{ on := 3, ground := Ground.data }], guard := none }) (v := ?_) rfl (by kernel_rfl) (by kernel_rfl) (by kernel_rfl) (fun _ _ _ h => h) (Or.inl ⟨by kernel_rfl, ?_⟩) (by assumption) ?_
                rotate_left
                · (intro w hSw; (try dsimp only at hSw); go_simp; (try with_reducible rfl))
                try simp only [Act.put, List.setIfInBounds_toArray, List.set_cons_zero, List.set_cons_succ]
                refine wpAnyH_take (i := 5) (oi := { dst := some 198, op := Op.load 50 (Operand.tmp 197), type := 50, pos := "law.go:368", after := #[{ on := 4, ground := Ground.data }], guard := none }) (v := ?_) rfl (by kernel_rfl) (by kernel_rfl) (by kernel_rfl) (fun _ _ _ h => h) (Or.inl ⟨by kernel_rfl, ?_⟩) (by assumption) ?_
                rotate_left
                · (intro w hSw; (try dsimp only at hSw); go_simp; (try with_reducible rfl))
                try simp only [Act.put, List.setIfInBounds_toArray, List.set_cons_zero, List.set_cons_succ]
                refine wpAnyH_take (i := 6) (oi := { dst := some 199, op := Op.move (Operand.tmp 16), type := 3, pos := "law.go:368", after := #[], guard := none }) (v := ?_) rfl (by kernel_rfl) (by kernel_rfl) (by kernel_rfl) (fun _ _ _ h => h) (Or.inl ⟨by kernel_rfl, ?_⟩) (by assumption) ?_
                rotate_left
                · (intro w hSw; (try dsimp only at hSw); go_simp; (try with_reducible rfl))
                try simp only [Act.put, List.setIfInBounds_toArray, List.set_cons_zero, List.set_cons_succ]
                refine wpAnyH_take (i := 7) (oi := { dst := some 200, op := Op.load 61 (Operand.tmp 17), type := 61, pos := "law.go:368", after := #[], guard := none }) (v := ?_) rfl (by kernel_rfl) (by kernel_rfl) (by kernel_rfl) (fun _ _ _ h => h) (Or.inl ⟨by kernel_rfl, ?_⟩) (by assumption) ?_
                rotate_left
                · (intro w hSw; (try dsimp only at hSw); go_simp; (try with_reducible rfl))
                try simp only [Act.put, List.setIfInBounds_toArray, List.set_cons_zero, List.set_cons_succ]
                refine wpAnyH_take (i := 8) (oi := { dst := some 201, op := Op.indexAddr 50 (Operand.tmp 198) (Operand.tmp 199), type := 0, pos := "law.go:368", after := #[{ on := 5, ground := Ground.data }, { on := 6, ground := Ground.data }, { on := 0, ground := Ground.phase }, { on := 1, ground := Ground.phase }, { on := 2, ground := Ground.phase }, { on := 3, ground := Ground.phase }, { on := 4, ground := Ground.phase }, { on := 5, ground := Ground.phase }, { on := 6, ground := Ground.phase }, { on := 7, ground := Ground.phase }], guard := none }) (v := ?_) rfl (by kernel_rfl) (by kernel_rfl) (by kernel_rfl) (fun _ _ _ h => h) (Or.inl ⟨by kernel_rfl, ?_⟩) (by assumption) ?_
                rotate_left
                · (intro w hSw; (try dsimp only at hSw); go_simp; (try with_reducible rfl))
                try simp only [Act.put, List.setIfInBounds_toArray, List.set_cons_zero, List.set_cons_succ]
                refine wpAnyH_ready (rs := [9]) (by kernel_rfl) (by simp) ?_
                refine AllReadyH.cons (o := { dst := none, op := Op.store 61 (Operand.tmp 201) (Operand.tmp 200), type := 0, pos := "law.go:368", after := #[{ on := 8, ground := Ground.data }, { on := 7, ground := Ground.data }, { on := 0, ground := Ground.phase }, { on := 1, ground := Ground.phase }, { on := 2, ground := Ground.phase }, { on := 3, ground := Ground.phase }, { on := 4, ground := Ground.phase }, { on := 5, ground := Ground.phase }, { on := 6, ground := Ground.phase }, { on := 7, ground := Ground.phase }], guard := none }) rfl (fun K hK => ?_) ?_
                · (refine step_store_mid rfl 61 (.tmp 201) (.tmp 200) rfl gI (c * 15) (instA ir) (by kernel_rfl) (by kernel_rfl) (fun j hj => HTH.out j hj) (by kernel_rfl) (instA_one _) ?_)
                  refine hK.out _ _ ?_ (fun hHeld => ?_)
                  · exact HKP.out
                  clear hK K
                  try simp only [Act.put, List.setIfInBounds_toArray, List.set_cons_zero, List.set_cons_succ]
                  refine wpAnyH_done (by kernel_rfl) ?_ _
                  clear hHeld HKP HTH HS0
                  generalize (W19.drew.setCells gI (c * 15) (instA ir).toList) = W20 at *
                  have hp0 := HP.out.1.1
                  have hz0 := HP.out.2.1
                  go_upto_region 33 with (fail)
                  refine r33_of p z i ir b17 b18 W20 _ _ _ _ _ _ _ _ _ _ _ _ _ _ _ _ _ _ _ _ _ _ _ _ _ _ _ _ _ _ _ _ _ _ _ _ _ _ _ _ _ _ _ _ _ _ _ _ _ _ _ _ _ _ _ _ _ _ _ _ _ _ _ _ _ _ _ _ _ _ _ _ _ _ _ _ _ _ _ _ _ _ _ _ _ _ _ _ _ _ _ _ _ _ _ _ _ _ _ _ _ _ _ _ _ _ _ _ _ _ _ _ _ _ _ _ _ _ _ _ _ _ _ _ _ _ _ _ _ _ _ _ _ _ _ _ _ _ _ _ _ _ _ _ _ _ _ _ _ _ _ _ _ _ _ _ _ _ _ _ _ _ _ _ _ _ _ _ _ _ _ _ _ _ _ _ _ _ _ _ _ _ _ _ _ _ _ _ _ _ _ _ _ _ _ _ _ _ _ _ _ _ _ _ _ _ _ _ _ _ _ _ _ _ _ _ _ _ _ _ _ _ _ _ _ _ _ _ _ _ _ _ _ _ _ _ _ _ _ _ _ _ _ _ _ _ _ H17.out H18.out HIR.out hp0 hz0 HDN.out (fun _ _ dst _ _ h => (by cases dst <;> exact h)) ?_
                  intro x202 x203 x204 x205 x206 x207 x208 x209 x210 x211 x212 x213 x214 x215 x216 x217 x218 x219 x220 x221 x222 x223 x224 x225 x226 x227 x228 x229 x230 x231 x232 x233 x234 x235 x236 W21 hx236 hb21
                  subst hx236
                  have HB21 := Lib.hid hb21
                  have HLE := Lib.hid (HL20.out.on HB21.out)
                  rw [HRS.out] at HLE
                  clear hp0 hz0 hb21 HDN HL20
                  go_wp2
                  go_roundw
                  case rel => exact ⟨c + 1, by omega, by go_num, HLE⟩
                  case measure => simp [intOf]; omega
                exact AllReadyH.nil
              · obtain rfl : c = ni := by omega
                have hci : ¬ (c : Int) < (c : Int) := by omega
                have HLE := Lib.hid (show LX W3 b11 n9 (C.n 0) (C.n 1) r (C.n 3) (C.n 4) (.slice A5 C.q.length q5) (.slice A6 k q6) (.slice (some ⟨g7, 0, none⟩) nb q7) C.q lr (es1 ++ (.slice A8 c c8, I.map (renI p z), tr) :: es3) wr from by
                  have h := HLZ.out
                  rw [← HNI.out, List.take_length, List.drop_length, List.append_nil] at h
                  rw [← HNI.out]
                  exact h)
                have hbb : b < C.b.length := by rw [HNB.out]; exact hlt
                have hcb : e0.2 = C.b[b] ∧ es3.map (·.2) = C.b.drop (b + 1) := by
                  have h1 := HES.out.2.2.2.2
                  rw [List.drop_eq_getElem_cons hbb, List.map_cons] at h1
                  exact List.cons.inj h1
                have HNX := Lib.hid (show (es1 ++ [((Value.slice A8 c c8, I.map (renI p z), tr) : BlE)]).map (·.2) = (C.b.take (b + 1)).map (fun e => (e.1.map (renI p z), renT p z e.2)) ∧ es3.map (·.2) = C.b.drop (b + 1) from ⟨by
                  rw [List.map_append, HES.out.2.2.2.1, List.take_succ_eq_append_getElem hbb, List.map_append, ← hcb.1, ← HTR.out, ← HIE.out, ← HT.out]
                  rfl, hcb.2⟩)
                clear hbb hcb
                go_wp2
                go_roundw
                case rel =>
                  refine ⟨b + 1, es1 ++ [(.slice A8 c c8, I.map (renI p z), tr)], es3, by omega, by go_num, Lib.hid ?_, Lib.hid ⟨?_, ?_, ?_, HNX.out.1, HNX.out.2⟩⟩
                  · rw [List.append_assoc]
                    exact HLE.out
                  · rw [List.append_assoc]
                    exact HDS.out _
                  · rw [List.append_assoc]
                    exact HLEN.out _
                  · rw [List.length_append, HE1.out]
                    rfl
                case measure => simp [intOf]; omega
        · as_aux_lemma =>
            obtain rfl : b = nb := by omega
            have hbi : ¬ (b : Int) < (b : Int) := by omega
            have he2 : es2 = [] := by
              have h1 := HES.out.2.1
              have h2 := HES.out.2.2.1
              rw [List.length_append] at h1
              exact List.eq_nil_of_length_eq_zero (by omega)
            subst he2
            have hes : es1.map (·.2) = (renC p z C).b := by
              have h1 := HES.out.2.2.2.1
              rw [← HNB.out, List.take_length] at h1
              exact h1
            have hl := HLY.out
            rw [List.append_nil, ← HRR.out, ← HLR.out] at hl
            have hq := HP.out
            rw [← HRR.out] at hq
            have H := ren_calls hl hes HF.out (HF.out.chk p z hq.1 hq.2)
            rw [HRR.out] at H
            have HC17 := Lib.hid H.1
            have HD19 := Lib.hid H.2
            have HC19 := Lib.hid (show ∀ V, Below wr.heap.size wr V → Calls Tryz.prog 19 #[.agg #[.int .i64 (C.n 0), .int .i64 (C.n 1), .int .i64 (C.n 2), .int .i64 (C.n 3), .int .i64 (C.n 4), .slice a.a1 C.q.length a.c1, .slice a.a2 C.l.length a.c2, .slice a.a3 b a.c3]] V fun e w' => e = .returned (.slice (some ⟨V.heap.size + 1, 0, none⟩) b b) ∧ w'.rowIs (V.heap.size + 1) 4 b (fun j => .bool (reachC C j)) ∧ Below V.heap.size V w' from fun V hV => by
              have H := old_reach (HCK.out.on (HLY.out.on hV).below).mem HF.out
              unfold cdval at H
              rw [HNB.out] at H
              exact H)
            have HTS := Lib.hid (show ∀ V, Below wr.heap.size wr V → (fun w' => w'.cell? ⟨b8, 0, none⟩ = some (.int .i64 (C.n 0)) ∧ w'.cell? ⟨b8, 1, none⟩ = some (.int .i64 (C.n 1)) ∧ w'.cell? ⟨b8, 2, none⟩ = some (.int .i64 (C.n 2)) ∧ w'.cell? ⟨b8, 3, none⟩ = some (.int .i64 (C.n 3)) ∧ w'.cell? ⟨b8, 4, none⟩ = some (.int .i64 (C.n 4)) ∧ w'.cell? ⟨b8, 5, none⟩ = some (.slice a.a1 C.q.length a.c1) ∧ w'.cell? ⟨b8, 6, none⟩ = some (.slice a.a2 C.l.length a.c2) ∧ w'.cell? ⟨b8, 7, none⟩ = some (.slice a.a3 b a.c3) ∧ w'.cell? ⟨b11, 0, none⟩ = some (.int .i64 (C.n 0)) ∧ w'.cell? ⟨b11, 1, none⟩ = some (.int .i64 (C.n 1)) ∧ w'.cell? ⟨b11, 2, none⟩ = some (.int .i64 r) ∧ w'.cell? ⟨b11, 3, none⟩ = some (.int .i64 (C.n 3)) ∧ w'.cell? ⟨b11, 4, none⟩ = some (.int .i64 (C.n 4)) ∧ w'.cell? ⟨b11, 5, none⟩ = some (.slice A5 C.q.length q5) ∧ w'.cell? ⟨b11, 6, none⟩ = some (.slice A6 k q6) ∧ w'.cell? ⟨b11, 7, none⟩ = some (.slice (some ⟨g7, 0, none⟩) b q7)) V from fun V hV => by
              have h := HLY.out.on hV
              have q8 := (h.below.block b8 (by rw [HN9.out]; exact Nat.lt_of_lt_of_le (Array.getElem?_eq_some_iff.1 HB8.out).1 (Nat.le_of_eq HN9.out))).trans HB8.out
              exact ⟨cell_blk q8 (i := 0) rfl, cell_blk q8 (i := 1) rfl, cell_blk q8 (i := 2) rfl, cell_blk q8 (i := 3) rfl, cell_blk q8 (i := 4) rfl, cell_blk q8 (i := 5) rfl, cell_blk q8 (i := 6) rfl, cell_blk q8 (i := 7) rfl, h.c0, h.c1, h.c2, h.c3, h.c4, h.c5, h.c6, h.c7⟩)
            have HB65 := Lib.hid (show b ≤ 65536 from by omega)
            have HBc := Lib.hid (show Below wr.heap.size wr wr.drew from below_drewS (Below.refl _ wr))
            clear hes hl hq H
            go_upto_region 35 with (fail)
            refine wp_region_held_drew (S := (fun w' => w'.cell? ⟨b8, 0, none⟩ = some (.int .i64 (C.n 0)) ∧ w'.cell? ⟨b8, 1, none⟩ = some (.int .i64 (C.n 1)) ∧ w'.cell? ⟨b8, 2, none⟩ = some (.int .i64 (C.n 2)) ∧ w'.cell? ⟨b8, 3, none⟩ = some (.int .i64 (C.n 3)) ∧ w'.cell? ⟨b8, 4, none⟩ = some (.int .i64 (C.n 4)) ∧ w'.cell? ⟨b8, 5, none⟩ = some (.slice a.a1 C.q.length a.c1) ∧ w'.cell? ⟨b8, 6, none⟩ = some (.slice a.a2 C.l.length a.c2) ∧ w'.cell? ⟨b8, 7, none⟩ = some (.slice a.a3 b a.c3) ∧ w'.cell? ⟨b11, 0, none⟩ = some (.int .i64 (C.n 0)) ∧ w'.cell? ⟨b11, 1, none⟩ = some (.int .i64 (C.n 1)) ∧ w'.cell? ⟨b11, 2, none⟩ = some (.int .i64 r) ∧ w'.cell? ⟨b11, 3, none⟩ = some (.int .i64 (C.n 3)) ∧ w'.cell? ⟨b11, 4, none⟩ = some (.int .i64 (C.n 4)) ∧ w'.cell? ⟨b11, 5, none⟩ = some (.slice A5 C.q.length q5) ∧ w'.cell? ⟨b11, 6, none⟩ = some (.slice A6 k q6) ∧ w'.cell? ⟨b11, 7, none⟩ = some (.slice (some ⟨g7, 0, none⟩) b q7))) (by kernel_rfl) ?_ (fun hHeld => ?_)
            · (try dsimp only); exact HTS.out _ HBc.out
            refine wpAnyH_take (i := 0) (oi := { dst := some 237, op := Op.move (Operand.tmp 7), type := 4, pos := "law.go:374", after := #[], guard := none }) (v := ?_) rfl (by kernel_rfl) (by kernel_rfl) (by kernel_rfl) (fun _ _ _ h => h) (Or.inl ⟨by kernel_rfl, ?_⟩) (by assumption) ?_
            rotate_left
            · (intro w hSw; (try dsimp only at hSw); go_simp; (try with_reducible rfl))
            try simp only [Act.put, List.setIfInBounds_toArray, List.set_cons_zero, List.set_cons_succ]
            refine wpAnyH_take (i := 1) (oi := { dst := some 238, op := Op.move (Operand.tmp 237), type := 4, pos := "law.go:374", after := #[{ on := 0, ground := Ground.data }], guard := none }) (v := ?_) rfl (by kernel_rfl) (by kernel_rfl) (by kernel_rfl) (fun _ _ _ h => h) (Or.inl ⟨by kernel_rfl, ?_⟩) (by assumption) ?_
            rotate_left
            · (intro w hSw; (try dsimp only at hSw); go_simp; (try with_reducible rfl))
            try simp only [Act.put, List.setIfInBounds_toArray, List.set_cons_zero, List.set_cons_succ]
            refine wpAnyH_take (i := 2) (oi := { dst := some 239, op := Op.load 36 (Operand.tmp 11), type := 36, pos := "law.go:374", after := #[{ on := 1, ground := Ground.guard }], guard := some (1, true) }) (v := ?_) rfl (by kernel_rfl) (by kernel_rfl) (by kernel_rfl) (fun _ _ _ h => h) (Or.inl ⟨by kernel_rfl, ?_⟩) (by assumption) ?_
            rotate_left
            · (intro w hSw; (try dsimp only at hSw); go_simp; (try with_reducible rfl))
            try simp only [Act.put, List.setIfInBounds_toArray, List.set_cons_zero, List.set_cons_succ]
            refine wpAnyH_ready (rs := [3]) (by kernel_rfl) (by simp) ?_
            refine AllReadyH.cons (o := { dst := some 240, op := Op.call { callee := Callee.value (Operand.func 17), args := #[Operand.tmp 239], argTypes := #[36] }, type := 40, pos := "law.go:374", after := #[{ on := 2, ground := Ground.data }, { on := 1, ground := Ground.chain }, { on := 1, ground := Ground.guard }], guard := some (1, true) }) rfl (fun K hK => ?_) AllReadyH.nil
            go_simp
            (go_at_call 17; refine (HC17.out _ HBc.out).mono ?_; rintro e wa ⟨rfl, hbx⟩; replace HBc := Lib.hid (HBc.out.trans (hbx.mono HBc.out.size)); clear hbx)
            try go_wp2_with fail
            refine hK.out _ _ ?_ (fun hHeld => ?_)
            · (try dsimp only); exact HTS.out _ HBc.out
            clear hK K
            try simp only [Act.put, List.setIfInBounds_toArray, List.set_cons_zero, List.set_cons_succ]
            refine wpAnyH_take (i := 4) (oi := { dst := some 241, op := Op.binOp BinOp.eql 40 (Operand.tmp 240) (Operand.const (Value.int IntKind.i64 0)) 40, type := 4, pos := "law.go:374", after := #[{ on := 3, ground := Ground.data }, { on := 1, ground := Ground.guard }], guard := some (1, true) }) (v := ?_) rfl (by kernel_rfl) (by kernel_rfl) (by kernel_rfl) (fun _ _ _ h => h) (Or.inl ⟨by kernel_rfl, ?_⟩) (by assumption) ?_
            rotate_left
            · (intro w hSw; (try dsimp only at hSw); go_simp; (try with_reducible rfl))
            try simp only [Act.put, List.setIfInBounds_toArray, List.set_cons_zero, List.set_cons_succ]
            refine wpAnyH_take (i := 5) (oi := { dst := some 242, op := Op.pick (Operand.tmp 238) (Operand.tmp 241) (Operand.const (Value.bool false)), type := 4, pos := "law.go:374", after := #[{ on := 1, ground := Ground.data }, { on := 4, ground := Ground.data }], guard := none }) (v := ?_) rfl (by kernel_rfl) (by kernel_rfl) (by kernel_rfl) (fun _ _ _ h => h) (Or.inl ⟨by kernel_rfl, ?_⟩) (by assumption) ?_
            rotate_left
            · (intro w hSw; (try dsimp only at hSw); go_simp; (try with_reducible rfl))
            try simp only [Act.put, List.setIfInBounds_toArray, List.set_cons_zero, List.set_cons_succ]
            refine wpAnyH_take (i := 6) (oi := { dst := some 243, op := Op.move (Operand.tmp 242), type := 4, pos := "law.go:374", after := #[{ on := 5, ground := Ground.data }, { on := 3, ground := Ground.chain }], guard := none }) (v := ?_) rfl (by kernel_rfl) (by kernel_rfl) (by kernel_rfl) (fun _ _ _ h => h) (Or.inl ⟨by kernel_rfl, ?_⟩) (by assumption) ?_
            rotate_left
            · (intro w hSw; (try dsimp only at hSw); go_simp; (try with_reducible rfl))
            try simp only [Act.put, List.setIfInBounds_toArray, List.set_cons_zero, List.set_cons_succ]
            refine wpAnyH_take (i := 7) (oi := { dst := some 244, op := Op.load 36 (Operand.tmp 8), type := 36, pos := "law.go:374", after := #[{ on := 6, ground := Ground.guard }], guard := some (6, true) }) (v := ?_) rfl (by kernel_rfl) (by kernel_rfl) (by kernel_rfl) (fun _ _ _ h => h) (Or.inl ⟨by kernel_rfl, ?_⟩) (by assumption) ?_
            rotate_left
            · (intro w hSw; (try dsimp only at hSw); go_simp; (try with_reducible rfl))
            try simp only [Act.put, List.setIfInBounds_toArray, List.set_cons_zero, List.set_cons_succ]
            refine wpAnyH_take (i := 9) (oi := { dst := some 246, op := Op.load 36 (Operand.tmp 11), type := 36, pos := "law.go:374", after := #[{ on := 6, ground := Ground.guard }], guard := some (6, true) }) (v := ?_) rfl (by kernel_rfl) (by kernel_rfl) (by kernel_rfl) (fun _ _ _ h => h) (Or.inl ⟨by kernel_rfl, ?_⟩) (by assumption) ?_
            rotate_left
            · (intro w hSw; (try dsimp only at hSw); go_simp; (try with_reducible rfl))
            try simp only [Act.put, List.setIfInBounds_toArray, List.set_cons_zero, List.set_cons_succ]
            refine wpAnyH_ready (rs := [8]) (by kernel_rfl) (by simp) ?_
            refine AllReadyH.cons (o := { dst := some 245, op := Op.call { callee := Callee.value (Operand.func 19), args := #[Operand.tmp 244], argTypes := #[36] }, type := 48, pos := "law.go:374", after := #[{ on := 7, ground := Ground.data }, { on := 6, ground := Ground.chain }, { on := 6, ground := Ground.guard }], guard := some (6, true) }) rfl (fun K hK => ?_) AllReadyH.nil
            go_simp
            (go_at_call 19; refine (HC19.out _ HBc.out).mono ?_; rintro e wb ⟨rfl, hrow, hbx⟩; have HR1 := Lib.hid hrow; clear hrow; replace HBc := Lib.hid (HBc.out.trans (hbx.mono HBc.out.size)); clear hbx)
            try go_wp2_with fail
            refine hK.out _ _ ?_ (fun hHeld => ?_)
            · (try dsimp only); exact HTS.out _ HBc.out
            clear hK K
            try simp only [Act.put, List.setIfInBounds_toArray, List.set_cons_zero, List.set_cons_succ]
            refine wpAnyH_ready (rs := [10]) (by kernel_rfl) (by simp) ?_
            refine AllReadyH.cons (o := { dst := some 247, op := Op.call { callee := Callee.value (Operand.func 19), args := #[Operand.tmp 246], argTypes := #[36] }, type := 48, pos := "law.go:374", after := #[{ on := 9, ground := Ground.data }, { on := 8, ground := Ground.chain }, { on := 6, ground := Ground.guard }], guard := some (6, true) }) rfl (fun K hK => ?_) AllReadyH.nil
            go_simp
            (go_at_call 19; refine (HD19.out _ HBc.out).mono ?_; rintro e wc ⟨rfl, hrow, hbx⟩; have HR2 := Lib.hid hrow; replace HR1 := Lib.hid (HR1.out.of_block (hbx.block _ HR1.out.lt)); clear hrow; replace HBc := Lib.hid (HBc.out.trans (hbx.mono HBc.out.size)); clear hbx)
            try go_wp2_with fail
            refine hK.out _ _ ?_ (fun hHeld => ?_)
            · (try dsimp only); exact HTS.out _ HBc.out
            clear hK K
            try simp only [Act.put, List.setIfInBounds_toArray, List.set_cons_zero, List.set_cons_succ]
            refine wpAnyH_ready (rs := [11]) (by kernel_rfl) (by simp) ?_
            refine AllReadyH.cons (o := { dst := some 248, op := Op.call { callee := Callee.value (Operand.func 18), args := #[Operand.tmp 245, Operand.tmp 247], argTypes := #[48, 48] }, type := 4, pos := "law.go:374", after := #[{ on := 8, ground := Ground.data }, { on := 10, ground := Ground.data }, { on := 10, ground := Ground.chain }, { on := 6, ground := Ground.guard }], guard := some (6, true) }) rfl (fun K hK => ?_) AllReadyH.nil
            go_simp
            (go_at_call 18; refine (bools_same _ _ _ _ b b b _ _ HR1.out HR2.out (Nat.le_refl _) (Nat.le_refl _) HB65.out).mono ?_; rintro e wd ⟨rfl, hbx⟩; clear HR1 HR2; replace HBc := Lib.hid (HBc.out.trans (hbx.mono HBc.out.size)); clear hbx)
            try go_wp2_with fail
            refine hK.out _ _ ?_ (fun hHeld => ?_)
            · (try dsimp only); exact HTS.out _ HBc.out
            clear hK K
            try simp only [Act.put, List.setIfInBounds_toArray, List.set_cons_zero, List.set_cons_succ]
            refine wpAnyH_take (i := 12) (oi := { dst := some 249, op := Op.pick (Operand.tmp 243) (Operand.tmp 248) (Operand.const (Value.bool false)), type := 4, pos := "law.go:374", after := #[{ on := 6, ground := Ground.data }, { on := 11, ground := Ground.data }], guard := none }) (v := ?_) rfl (by kernel_rfl) (by kernel_rfl) (by kernel_rfl) (fun _ _ _ h => h) (Or.inl ⟨by kernel_rfl, ?_⟩) (by assumption) ?_
            rotate_left
            · (intro w hSw; (try dsimp only at hSw); go_simp; (try with_reducible rfl))
            try simp only [Act.put, List.setIfInBounds_toArray, List.set_cons_zero, List.set_cons_succ]
            refine wpAnyH_take (i := 13) (oi := { dst := some 6, op := Op.assign (Operand.tmp 249), type := 4, pos := "law.go:374", after := #[{ on := 12, ground := Ground.data }, { on := 11, ground := Ground.chain }, { on := 0, ground := Ground.phase }, { on := 1, ground := Ground.phase }, { on := 2, ground := Ground.phase }, { on := 3, ground := Ground.phase }, { on := 4, ground := Ground.phase }, { on := 5, ground := Ground.phase }, { on := 6, ground := Ground.phase }, { on := 7, ground := Ground.phase }, { on := 8, ground := Ground.phase }, { on := 9, ground := Ground.phase }, { on := 10, ground := Ground.phase }, { on := 11, ground := Ground.phase }, { on := 12, ground := Ground.phase }], guard := none }) (v := ?_) rfl (by kernel_rfl) (by kernel_rfl) (by kernel_rfl) (fun _ _ _ h => h) (Or.inl ⟨by kernel_rfl, ?_⟩) (by assumption) ?_
            rotate_left
            · (intro w hSw; (try dsimp only at hSw); go_simp; (try with_reducible rfl))
            try simp only [Act.put, List.setIfInBounds_toArray, List.set_cons_zero, List.set_cons_succ]
            refine wpAnyH_done (by kernel_rfl) ?_ _
            go_wp2
            go_ret
            exact ⟨rfl, HB3.out.trans ((HLY.out.below.trans (HBc.out.mono HLY.out.below.size)).mono HB3.out.size)⟩
end Go.Proofs.YtkncilgmlkeifaaGreatDoor
