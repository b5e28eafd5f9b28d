import Derived.Test.YtkncilgmlkeifaaGreatDoorRcd
import Derived.Test.YtkncilgmlkeifaaGreatDoorNeq
/-
  The reference's checker: the contract of Term.
-/
set_option linter.unusedVariables false
set_option linter.unusedSimpArgs false
set_option maxRecDepth 100000
set_option maxHeartbeats 4000000
namespace Go.Proofs.YtkncilgmlkeifaaGreatDoor
open Go.ChangeShapes Go.WideShapes Go.ChangeAt Go.RowKit Go.Shelf
def endR (r : Int) (n3 : Nat) (t : TermV) : Bool :=
 if t.kind = 1 \/ t.kind = 3 then decide (t.sub = 0) && (zerO t.d && (zerO t.a && (zerO t.b && (wthB t.t0 0 ((n3 : Int) - 1) && decide (t.t1 = 0)))))
 else if t.kind = 2 then decide (t.sub = 0) && (zerO t.d && (valB r t.a && (zerO t.b && (wthB t.t0 0 ((n3 : Int) - 1) && wthB t.t1 0 ((n3 : Int) - 1)))))
 else if t.kind = 4 then wthB t.sub 1 6 && (regB r t.d && (valB r t.a && (valB r t.b && (wthB t.t0 0 ((n3 : Int) - 1) && decide (t.t1 = 0)))))
 else if t.kind = 5 then decide (t.sub = 0) && (zerO t.d && (zerO t.a && (zerO t.b && (decide (t.t0 = 0) && decide (t.t1 = 0)))))
 else false
theorem opd_eql (a0 a1 a2 : Int) (w : World) : (binOp .eql 27 (.agg #[a0, a1, .int .i32 a2]) (.agg #[(0:Int), (0:Int), .int .i32 0])).run Tryz.prog w = .ok (.bool (zerO ⟨a0, a1, a2⟩)) w := by
 unfold zerO
 by_cases h0 : a0 = 0
 . subst h0
   by_cases h1 : a1 = 0
   . subst h1
     by_cases h2 : a2 = 0
     . subst h2
       go_simp
     . have e2 : (a2 == 0) = false := by simpa using h2
       go_simp
   . have e1 : (a1 == 0) = false := by simpa using h1
     go_simp
 . have e0 : (a0 == 0) = false := by simpa using h0
   go_simp
theorem term_j (g s r sl p : Int) (n1 c1 n2 c2 n3 c3 : Nat) (A1 A2 A3 : Option Addr) (k sb dk dn dv ak an av bk bn bv t0 t1 : Int) (w : World) (r0 : 0 <= r) (r1 : r <= 9223372036854775807) (h3 : n3 <= 65536) (hk : k = 1 \/ k = 3) :
 Calls Tryz.prog 82 #[.agg #[g, s, r, sl, p, .slice A1 n1 c1, .slice A2 n2 c2, .slice A3 n3 c3], .agg #[k, sb, dk, dn, .int .i32 dv, ak, an, .int .i32 av, bk, bn, .int .i32 bv, t0, t1]] w fun e w' => e = .returned (.bool (decide (sb = 0) && (zerO ⟨dk, dn, dv⟩ && (zerO ⟨ak, an, av⟩ && (zerO ⟨bk, bn, bv⟩ && (wthB t0 0 ((n3 : Int) - 1) && decide (t1 = 0))))))) /\ Below w.heap.size w w' := by
 obtain ⟨res, hres⟩ : ∃ res, (decide (sb = 0) && (zerO ⟨dk, dn, dv⟩ && (zerO ⟨ak, an, av⟩ && (zerO ⟨bk, bn, bv⟩ && (wthB t0 0 ((n3 : Int) - 1) && decide (t1 = 0)))))) = res := ⟨_, rfl⟩
 rw [hres]
 have HBx := lh (show Below w.heap.size w (((w.alloc (.cells #[g, s, r, sl, p, .slice A1 n1 c1, .slice A2 n2 c2, .slice A3 n3 c3] 36)).alloc (.cells #[k, sb, dk, dn, .int .i32 dv, ak, an, .int .i32 av, bk, bn, .int .i32 bv, t0, t1] 53)).alloc (.cells #[(0:Int), (0:Int), .int .i32 0] 27)) from ((bo _).alloc (by simp) _).alloc (by simp; omega) _)
 have K2 := lh (show (((w.alloc (.cells #[g, s, r, sl, p, .slice A1 n1 c1, .slice A2 n2 c2, .slice A3 n3 c3] 36)).alloc (.cells #[k, sb, dk, dn, .int .i32 dv, ak, an, .int .i32 av, bk, bn, .int .i32 bv, t0, t1] 53)).alloc (.cells #[(0:Int), (0:Int), .int .i32 0] 27)).heap[w.heap.size]? = some (.cells #[g, s, r, sl, p, .slice A1 n1 c1, .slice A2 n2 c2, .slice A3 n3 c3] 36 (0, 0)) from (Below.heap_alloc _ _ _ (by simp; omega)).trans ((Below.heap_alloc _ _ _ (by simp)).trans (heap_alloc_new _ _)))
 have K3 := lh (show (((w.alloc (.cells #[g, s, r, sl, p, .slice A1 n1 c1, .slice A2 n2 c2, .slice A3 n3 c3] 36)).alloc (.cells #[k, sb, dk, dn, .int .i32 dv, ak, an, .int .i32 av, bk, bn, .int .i32 bv, t0, t1] 53)).alloc (.cells #[(0:Int), (0:Int), .int .i32 0] 27)).heap[w.heap.size + 1]? = some (.cells #[k, sb, dk, dn, .int .i32 dv, ak, an, .int .i32 av, bk, bn, .int .i32 bv, t0, t1] 53 (0, 0)) from by
  have := heap_alloc_new (w.alloc (.cells #[g, s, r, sl, p, .slice A1 n1 c1, .slice A2 n2 c2, .slice A3 n3 c3] 36)) (.cells #[k, sb, dk, dn, .int .i32 dv, ak, an, .int .i32 av, bk, bn, .int .i32 bv, t0, t1] 53)
  rw [World.size_alloc] at this
  exact (Below.heap_alloc _ _ _ (by simp)).trans this)
 have K5 := lh (show (((w.alloc (.cells #[g, s, r, sl, p, .slice A1 n1 c1, .slice A2 n2 c2, .slice A3 n3 c3] 36)).alloc (.cells #[k, sb, dk, dn, .int .i32 dv, ak, an, .int .i32 av, bk, bn, .int .i32 bv, t0, t1] 53)).alloc (.cells #[(0:Int), (0:Int), .int .i32 0] 27)).heap[w.heap.size + 1 + 1]? = some (.cells #[(0:Int), (0:Int), .int .i32 0] 27 (0, 0)) from by
  have := heap_alloc_new ((w.alloc (.cells #[g, s, r, sl, p, .slice A1 n1 c1, .slice A2 n2 c2, .slice A3 n3 c3] 36)).alloc (.cells #[k, sb, dk, dn, .int .i32 dv, ak, an, .int .i32 av, bk, bn, .int .i32 bv, t0, t1] 53)) (.cells #[(0:Int), (0:Int), .int .i32 0] 27)
  rwa [World.size_alloc, World.size_alloc] at this)
 have HRES0 := lh hres
 have HKX := lh hk
 clear hres hk
 go_enter Tryz.func82, Tryz.ntmps82
 go_upto_region 2 with (fail)
 generalize (((w.alloc (.cells #[g, s, r, sl, p, .slice A1 n1 c1, .slice A2 n2 c2, .slice A3 n3 c3] 36)).alloc (.cells #[k, sb, dk, dn, .int .i32 dv, ak, an, .int .i32 av, bk, bn, .int .i32 bv, t0, t1] 53)).alloc (.cells #[(0:Int), (0:Int), .int .i32 0] 27)) = W2 at *
 obtain ⟨b5, hb5⟩ : ∃ b5, w.heap.size + 1 + 1 = b5 := ⟨_, rfl⟩
 rw [hb5] at K5
 try rw [show w.heap.size + 2 = b5 from hb5]
 try rw [hb5]
 clear hb5
 obtain ⟨b3, hb3⟩ : ∃ b3, w.heap.size + 1 = b3 := ⟨_, rfl⟩
 rw [hb3] at K3 ⊢
 clear hb3
 have HOUT := lh (show ∀ V, Below W2.heap.size W2 V -> Below w.heap.size w V from fun V hV => HBx.out.trans (hV.mono HBx.out.size))
 obtain ⟨b2, hb2⟩ : ∃ b2, w.heap.size = b2 := ⟨_, rfl⟩
 rw [hb2] at K2 ⊢
 clear hb2 HBx
 have HALL := lh (show ∀ V, Below W2.heap.size W2 V -> V.cell? ⟨b2, 0, none⟩ = some (.int .i64 g) /\ V.cell? ⟨b2, 1, none⟩ = some (.int .i64 s) /\ V.cell? ⟨b2, 2, none⟩ = some (.int .i64 r) /\ V.cell? ⟨b2, 3, none⟩ = some (.int .i64 sl) /\ V.cell? ⟨b2, 4, none⟩ = some (.int .i64 p) /\ V.cell? ⟨b2, 5, none⟩ = some (.slice A1 n1 c1) /\ V.cell? ⟨b2, 6, none⟩ = some (.slice A2 n2 c2) /\ V.cell? ⟨b2, 7, none⟩ = some (.slice A3 n3 c3) /\ V.cell? ⟨b3, 0, none⟩ = some (.int .i64 k) /\ V.cell? ⟨b3, 1, none⟩ = some (.int .i64 sb) /\ V.cell? ⟨b3, 2, none⟩ = some (.int .i64 dk) /\ V.cell? ⟨b3, 3, none⟩ = some (.int .i64 dn) /\ V.cell? ⟨b3, 4, none⟩ = some (.int .i32 dv) /\ V.cell? ⟨b3, 5, none⟩ = some (.int .i64 ak) /\ V.cell? ⟨b3, 6, none⟩ = some (.int .i64 an) /\ V.cell? ⟨b3, 7, none⟩ = some (.int .i32 av) /\ V.cell? ⟨b3, 8, none⟩ = some (.int .i64 bk) /\ V.cell? ⟨b3, 9, none⟩ = some (.int .i64 bn) /\ V.cell? ⟨b3, 10, none⟩ = some (.int .i32 bv) /\ V.cell? ⟨b3, 11, none⟩ = some (.int .i64 t0) /\ V.cell? ⟨b3, 12, none⟩ = some (.int .i64 t1) /\ V.cell? ⟨b5, 0, none⟩ = some (.int .i64 0) /\ V.cell? ⟨b5, 1, none⟩ = some (.int .i64 0) /\ V.cell? ⟨b5, 2, none⟩ = some (.int .i32 0) from fun V hV => by
  have q2 := (hV.block _ (Array.getElem?_eq_some_iff.1 K2.out).1).trans K2.out
  have q3 := (hV.block _ (Array.getElem?_eq_some_iff.1 K3.out).1).trans K3.out
  have q5 := (hV.block _ (Array.getElem?_eq_some_iff.1 K5.out).1).trans K5.out
  exact ⟨cell_blk q2 (i := 0) rfl, cell_blk q2 (i := 1) rfl, cell_blk q2 (i := 2) rfl, cell_blk q2 (i := 3) rfl, cell_blk q2 (i := 4) rfl, cell_blk q2 (i := 5) rfl, cell_blk q2 (i := 6) rfl, cell_blk q2 (i := 7) rfl, cell_blk q3 (i := 0) rfl, cell_blk q3 (i := 1) rfl, cell_blk q3 (i := 2) rfl, cell_blk q3 (i := 3) rfl, cell_blk q3 (i := 4) rfl, cell_blk q3 (i := 5) rfl, cell_blk q3 (i := 6) rfl, cell_blk q3 (i := 7) rfl, cell_blk q3 (i := 8) rfl, cell_blk q3 (i := 9) rfl, cell_blk q3 (i := 10) rfl, cell_blk q3 (i := 11) rfl, cell_blk q3 (i := 12) rfl, cell_blk q5 (i := 0) rfl, cell_blk q5 (i := 1) rfl, cell_blk q5 (i := 2) rfl⟩)
 have HBc := lh (Below.refl W2.heap.size W2)
 clear K2 K3 K5
 rcases HKX.out with rfl | rfl
 all_goals
  have hres := HRES0.out
  clear HRES0
  obtain ⟨y0, hy0⟩ : ∃ y, decide (sb = 0) = y := ⟨_, rfl⟩
  rw [hy0] at hres
  have H1 := fun (W : World) => opd_eql dk dn dv W
  obtain ⟨y1, hy1⟩ : ∃ y, zerO ⟨dk, dn, dv⟩ = y := ⟨_, rfl⟩
  rw [hy1] at H1 hres
  clear hy1
  have H2 := fun (W : World) => opd_eql ak an av W
  obtain ⟨y2, hy2⟩ : ∃ y, zerO ⟨ak, an, av⟩ = y := ⟨_, rfl⟩
  rw [hy2] at H2 hres
  clear hy2
  have H3 := fun (W : World) => opd_eql bk bn bv W
  obtain ⟨y3, hy3⟩ : ∃ y, zerO ⟨bk, bn, bv⟩ = y := ⟨_, rfl⟩
  rw [hy3] at H3 hres
  clear hy3
  have H4 := fun (W : World) => target_any g s r sl p n1 c1 n2 c2 n3 c3 A1 A2 A3 t0 W h3
  obtain ⟨y4, hy4⟩ : ∃ y, wthB t0 0 ((n3 : Int) - 1) = y := ⟨_, rfl⟩
  rw [hy4] at H4 hres
  clear hy4
  have G4 := lh H4
  clear H4
  obtain ⟨y5, hy5⟩ : ∃ y, decide (t1 = 0) = y := ⟨_, rfl⟩
  rw [hy5] at hres
  obtain ⟨_, _, _, _, _, _, _, _, _, _, _, _, _, _, _, _, _, _, _, _, _, _, _, _⟩ := HALL.out _ HBc.out
  by_cases hz : sb = 0
  . subst hz
    obtain rfl : y0 = true := by rw [<- hy0]; rfl
    clear hy0
    rw [Bool.true_and] at hres
    cases y1 with
    | true =>
     rw [Bool.true_and] at hres
     cases y2 with
     | true =>
      rw [Bool.true_and] at hres
      cases y3 with
      | true =>
       rw [Bool.true_and] at hres
       cases y4 with
       | true =>
        rw [Bool.true_and] at hres
        by_cases hz : t1 = 0
        . subst hz
          obtain rfl : y5 = true := by rw [<- hy5]; rfl
          clear hy5
          have HRES := lh (hres)
          clear hres
          go_wp2_with (first
           | (go_at_call 80; (with_reducible refine (G4.out _).mono ?_); rintro e x4 ⟨rfl, hbx⟩; replace HBc := lh (HBc.out.trans (hbx.mono HBc.out.size)); obtain ⟨_, _, _, _, _, _, _, _, _, _, _, _, _, _, _, _, _, _, _, _, _, _, _, _⟩ := HALL.out _ HBc.out; clear hbx))
          go_ret
          exact ⟨ret_b HRES.out, HOUT.out _ HBc.out⟩
        . obtain rfl : y5 = false := by rw [<- hy5]; exact decide_eq_false hz
          clear hy5
          have hz' : (t1 == 0) = false := by simpa using hz
          have HRES := lh (show false = res from by rw [<- hres])
          clear hres
          go_wp2_with (first
           | (go_at_call 80; (with_reducible refine (G4.out _).mono ?_); rintro e x4 ⟨rfl, hbx⟩; replace HBc := lh (HBc.out.trans (hbx.mono HBc.out.size)); obtain ⟨_, _, _, _, _, _, _, _, _, _, _, _, _, _, _, _, _, _, _, _, _, _, _, _⟩ := HALL.out _ HBc.out; clear hbx))
          go_ret
          exact ⟨ret_b HRES.out, HOUT.out _ HBc.out⟩
       | false =>
        clear hy5
        have HRES := lh (show false = res from by rw [<- hres, Bool.false_and])
        clear hres
        go_wp2_with (first
         | (go_at_call 80; (with_reducible refine (G4.out _).mono ?_); rintro e x4 ⟨rfl, hbx⟩; replace HBc := lh (HBc.out.trans (hbx.mono HBc.out.size)); obtain ⟨_, _, _, _, _, _, _, _, _, _, _, _, _, _, _, _, _, _, _, _, _, _, _, _⟩ := HALL.out _ HBc.out; clear hbx))
        go_ret
        exact ⟨ret_b HRES.out, HOUT.out _ HBc.out⟩
      | false =>
       clear hy5
       have HRES := lh (show false = res from by rw [<- hres, Bool.false_and])
       clear hres
       go_wp2_with (first
        | (go_at_call 80; (with_reducible refine (G4.out _).mono ?_); rintro e x4 ⟨rfl, hbx⟩; replace HBc := lh (HBc.out.trans (hbx.mono HBc.out.size)); obtain ⟨_, _, _, _, _, _, _, _, _, _, _, _, _, _, _, _, _, _, _, _, _, _, _, _⟩ := HALL.out _ HBc.out; clear hbx))
       go_ret
       exact ⟨ret_b HRES.out, HOUT.out _ HBc.out⟩
     | false =>
      clear hy5
      have HRES := lh (show false = res from by rw [<- hres, Bool.false_and])
      clear hres
      go_wp2_with (first
       | (go_at_call 80; (with_reducible refine (G4.out _).mono ?_); rintro e x4 ⟨rfl, hbx⟩; replace HBc := lh (HBc.out.trans (hbx.mono HBc.out.size)); obtain ⟨_, _, _, _, _, _, _, _, _, _, _, _, _, _, _, _, _, _, _, _, _, _, _, _⟩ := HALL.out _ HBc.out; clear hbx))
      go_ret
      exact ⟨ret_b HRES.out, HOUT.out _ HBc.out⟩
    | false =>
     clear hy5
     have HRES := lh (show false = res from by rw [<- hres, Bool.false_and])
     clear hres
     go_wp2_with (first
      | (go_at_call 80; (with_reducible refine (G4.out _).mono ?_); rintro e x4 ⟨rfl, hbx⟩; replace HBc := lh (HBc.out.trans (hbx.mono HBc.out.size)); obtain ⟨_, _, _, _, _, _, _, _, _, _, _, _, _, _, _, _, _, _, _, _, _, _, _, _⟩ := HALL.out _ HBc.out; clear hbx))
     go_ret
     exact ⟨ret_b HRES.out, HOUT.out _ HBc.out⟩
  . obtain rfl : y0 = false := by rw [<- hy0]; exact decide_eq_false hz
    clear hy0
    have hz' : (sb == 0) = false := by simpa using hz
    clear hy5
    have HRES := lh (show false = res from by rw [<- hres, Bool.false_and])
    clear hres
    go_wp2_with (first
     | (go_at_call 80; (with_reducible refine (G4.out _).mono ?_); rintro e x4 ⟨rfl, hbx⟩; replace HBc := lh (HBc.out.trans (hbx.mono HBc.out.size)); obtain ⟨_, _, _, _, _, _, _, _, _, _, _, _, _, _, _, _, _, _, _, _, _, _, _, _⟩ := HALL.out _ HBc.out; clear hbx))
    go_ret
    exact ⟨ret_b HRES.out, HOUT.out _ HBc.out⟩
theorem term_br (g s r sl p : Int) (n1 c1 n2 c2 n3 c3 : Nat) (A1 A2 A3 : Option Addr) (k sb dk dn dv ak an av bk bn bv t0 t1 : Int) (w : World) (r0 : 0 <= r) (r1 : r <= 9223372036854775807) (h3 : n3 <= 65536) (hk : k = 2) :
 Calls Tryz.prog 82 #[.agg #[g, s, r, sl, p, .slice A1 n1 c1, .slice A2 n2 c2, .slice A3 n3 c3], .agg #[k, sb, dk, dn, .int .i32 dv, ak, an, .int .i32 av, bk, bn, .int .i32 bv, t0, t1]] w fun e w' => e = .returned (.bool (decide (sb = 0) && (zerO ⟨dk, dn, dv⟩ && (valB r ⟨ak, an, av⟩ && (zerO ⟨bk, bn, bv⟩ && (wthB t0 0 ((n3 : Int) - 1) && wthB t1 0 ((n3 : Int) - 1))))))) /\ Below w.heap.size w w' := by
 obtain ⟨res, hres⟩ : ∃ res, (decide (sb = 0) && (zerO ⟨dk, dn, dv⟩ && (valB r ⟨ak, an, av⟩ && (zerO ⟨bk, bn, bv⟩ && (wthB t0 0 ((n3 : Int) - 1) && wthB t1 0 ((n3 : Int) - 1)))))) = res := ⟨_, rfl⟩
 rw [hres]
 have HBx := lh (show Below w.heap.size w (((w.alloc (.cells #[g, s, r, sl, p, .slice A1 n1 c1, .slice A2 n2 c2, .slice A3 n3 c3] 36)).alloc (.cells #[k, sb, dk, dn, .int .i32 dv, ak, an, .int .i32 av, bk, bn, .int .i32 bv, t0, t1] 53)).alloc (.cells #[(0:Int), (0:Int), .int .i32 0] 27)) from ((bo _).alloc (by simp) _).alloc (by simp; omega) _)
 have K2 := lh (show (((w.alloc (.cells #[g, s, r, sl, p, .slice A1 n1 c1, .slice A2 n2 c2, .slice A3 n3 c3] 36)).alloc (.cells #[k, sb, dk, dn, .int .i32 dv, ak, an, .int .i32 av, bk, bn, .int .i32 bv, t0, t1] 53)).alloc (.cells #[(0:Int), (0:Int), .int .i32 0] 27)).heap[w.heap.size]? = some (.cells #[g, s, r, sl, p, .slice A1 n1 c1, .slice A2 n2 c2, .slice A3 n3 c3] 36 (0, 0)) from (Below.heap_alloc _ _ _ (by simp; omega)).trans ((Below.heap_alloc _ _ _ (by simp)).trans (heap_alloc_new _ _)))
 have K3 := lh (show (((w.alloc (.cells #[g, s, r, sl, p, .slice A1 n1 c1, .slice A2 n2 c2, .slice A3 n3 c3] 36)).alloc (.cells #[k, sb, dk, dn, .int .i32 dv, ak, an, .int .i32 av, bk, bn, .int .i32 bv, t0, t1] 53)).alloc (.cells #[(0:Int), (0:Int), .int .i32 0] 27)).heap[w.heap.size + 1]? = some (.cells #[k, sb, dk, dn, .int .i32 dv, ak, an, .int .i32 av, bk, bn, .int .i32 bv, t0, t1] 53 (0, 0)) from by
  have := heap_alloc_new (w.alloc (.cells #[g, s, r, sl, p, .slice A1 n1 c1, .slice A2 n2 c2, .slice A3 n3 c3] 36)) (.cells #[k, sb, dk, dn, .int .i32 dv, ak, an, .int .i32 av, bk, bn, .int .i32 bv, t0, t1] 53)
  rw [World.size_alloc] at this
  exact (Below.heap_alloc _ _ _ (by simp)).trans this)
 have K5 := lh (show (((w.alloc (.cells #[g, s, r, sl, p, .slice A1 n1 c1, .slice A2 n2 c2, .slice A3 n3 c3] 36)).alloc (.cells #[k, sb, dk, dn, .int .i32 dv, ak, an, .int .i32 av, bk, bn, .int .i32 bv, t0, t1] 53)).alloc (.cells #[(0:Int), (0:Int), .int .i32 0] 27)).heap[w.heap.size + 1 + 1]? = some (.cells #[(0:Int), (0:Int), .int .i32 0] 27 (0, 0)) from by
  have := heap_alloc_new ((w.alloc (.cells #[g, s, r, sl, p, .slice A1 n1 c1, .slice A2 n2 c2, .slice A3 n3 c3] 36)).alloc (.cells #[k, sb, dk, dn, .int .i32 dv, ak, an, .int .i32 av, bk, bn, .int .i32 bv, t0, t1] 53)) (.cells #[(0:Int), (0:Int), .int .i32 0] 27)
  rwa [World.size_alloc, World.size_alloc] at this)
 have HRES0 := lh hres
 have HKX := lh hk
 clear hres hk
 go_enter Tryz.func82, Tryz.ntmps82
 go_upto_region 2 with (fail)
 generalize (((w.alloc (.cells #[g, s, r, sl, p, .slice A1 n1 c1, .slice A2 n2 c2, .slice A3 n3 c3] 36)).alloc (.cells #[k, sb, dk, dn, .int .i32 dv, ak, an, .int .i32 av, bk, bn, .int .i32 bv, t0, t1] 53)).alloc (.cells #[(0:Int), (0:Int), .int .i32 0] 27)) = W2 at *
 obtain ⟨b5, hb5⟩ : ∃ b5, w.heap.size + 1 + 1 = b5 := ⟨_, rfl⟩
 rw [hb5] at K5
 try rw [show w.heap.size + 2 = b5 from hb5]
 try rw [hb5]
 clear hb5
 obtain ⟨b3, hb3⟩ : ∃ b3, w.heap.size + 1 = b3 := ⟨_, rfl⟩
 rw [hb3] at K3 ⊢
 clear hb3
 have HOUT := lh (show ∀ V, Below W2.heap.size W2 V -> Below w.heap.size w V from fun V hV => HBx.out.trans (hV.mono HBx.out.size))
 obtain ⟨b2, hb2⟩ : ∃ b2, w.heap.size = b2 := ⟨_, rfl⟩
 rw [hb2] at K2 ⊢
 clear hb2 HBx
 have HALL := lh (show ∀ V, Below W2.heap.size W2 V -> V.cell? ⟨b2, 0, none⟩ = some (.int .i64 g) /\ V.cell? ⟨b2, 1, none⟩ = some (.int .i64 s) /\ V.cell? ⟨b2, 2, none⟩ = some (.int .i64 r) /\ V.cell? ⟨b2, 3, none⟩ = some (.int .i64 sl) /\ V.cell? ⟨b2, 4, none⟩ = some (.int .i64 p) /\ V.cell? ⟨b2, 5, none⟩ = some (.slice A1 n1 c1) /\ V.cell? ⟨b2, 6, none⟩ = some (.slice A2 n2 c2) /\ V.cell? ⟨b2, 7, none⟩ = some (.slice A3 n3 c3) /\ V.cell? ⟨b3, 0, none⟩ = some (.int .i64 k) /\ V.cell? ⟨b3, 1, none⟩ = some (.int .i64 sb) /\ V.cell? ⟨b3, 2, none⟩ = some (.int .i64 dk) /\ V.cell? ⟨b3, 3, none⟩ = some (.int .i64 dn) /\ V.cell? ⟨b3, 4, none⟩ = some (.int .i32 dv) /\ V.cell? ⟨b3, 5, none⟩ = some (.int .i64 ak) /\ V.cell? ⟨b3, 6, none⟩ = some (.int .i64 an) /\ V.cell? ⟨b3, 7, none⟩ = some (.int .i32 av) /\ V.cell? ⟨b3, 8, none⟩ = some (.int .i64 bk) /\ V.cell? ⟨b3, 9, none⟩ = some (.int .i64 bn) /\ V.cell? ⟨b3, 10, none⟩ = some (.int .i32 bv) /\ V.cell? ⟨b3, 11, none⟩ = some (.int .i64 t0) /\ V.cell? ⟨b3, 12, none⟩ = some (.int .i64 t1) /\ V.cell? ⟨b5, 0, none⟩ = some (.int .i64 0) /\ V.cell? ⟨b5, 1, none⟩ = some (.int .i64 0) /\ V.cell? ⟨b5, 2, none⟩ = some (.int .i32 0) from fun V hV => by
  have q2 := (hV.block _ (Array.getElem?_eq_some_iff.1 K2.out).1).trans K2.out
  have q3 := (hV.block _ (Array.getElem?_eq_some_iff.1 K3.out).1).trans K3.out
  have q5 := (hV.block _ (Array.getElem?_eq_some_iff.1 K5.out).1).trans K5.out
  exact ⟨cell_blk q2 (i := 0) rfl, cell_blk q2 (i := 1) rfl, cell_blk q2 (i := 2) rfl, cell_blk q2 (i := 3) rfl, cell_blk q2 (i := 4) rfl, cell_blk q2 (i := 5) rfl, cell_blk q2 (i := 6) rfl, cell_blk q2 (i := 7) rfl, cell_blk q3 (i := 0) rfl, cell_blk q3 (i := 1) rfl, cell_blk q3 (i := 2) rfl, cell_blk q3 (i := 3) rfl, cell_blk q3 (i := 4) rfl, cell_blk q3 (i := 5) rfl, cell_blk q3 (i := 6) rfl, cell_blk q3 (i := 7) rfl, cell_blk q3 (i := 8) rfl, cell_blk q3 (i := 9) rfl, cell_blk q3 (i := 10) rfl, cell_blk q3 (i := 11) rfl, cell_blk q3 (i := 12) rfl, cell_blk q5 (i := 0) rfl, cell_blk q5 (i := 1) rfl, cell_blk q5 (i := 2) rfl⟩)
 have HBc := lh (Below.refl W2.heap.size W2)
 clear K2 K3 K5
 obtain rfl := HKX.out
 clear HKX
 have hres := HRES0.out
 clear HRES0
 obtain ⟨y0, hy0⟩ : ∃ y, decide (sb = 0) = y := ⟨_, rfl⟩
 rw [hy0] at hres
 have H1 := fun (W : World) => opd_eql dk dn dv W
 obtain ⟨y1, hy1⟩ : ∃ y, zerO ⟨dk, dn, dv⟩ = y := ⟨_, rfl⟩
 rw [hy1] at H1 hres
 clear hy1
 have H2 := fun (W : World) => value_r g s r sl p n1 c1 n2 c2 n3 c3 A1 A2 A3 ak an av W r0 r1
 obtain ⟨y2, hy2⟩ : ∃ y, valB r ⟨ak, an, av⟩ = y := ⟨_, rfl⟩
 rw [hy2] at H2 hres
 clear hy2
 have G2 := lh H2
 clear H2
 have H3 := fun (W : World) => opd_eql bk bn bv W
 obtain ⟨y3, hy3⟩ : ∃ y, zerO ⟨bk, bn, bv⟩ = y := ⟨_, rfl⟩
 rw [hy3] at H3 hres
 clear hy3
 have H4 := fun (W : World) => target_any g s r sl p n1 c1 n2 c2 n3 c3 A1 A2 A3 t0 W h3
 obtain ⟨y4, hy4⟩ : ∃ y, wthB t0 0 ((n3 : Int) - 1) = y := ⟨_, rfl⟩
 rw [hy4] at H4 hres
 clear hy4
 have G4 := lh H4
 clear H4
 have H5 := fun (W : World) => target_any g s r sl p n1 c1 n2 c2 n3 c3 A1 A2 A3 t1 W h3
 obtain ⟨y5, hy5⟩ : ∃ y, wthB t1 0 ((n3 : Int) - 1) = y := ⟨_, rfl⟩
 rw [hy5] at H5 hres
 clear hy5
 have G5 := lh H5
 clear H5
 obtain ⟨_, _, _, _, _, _, _, _, _, _, _, _, _, _, _, _, _, _, _, _, _, _, _, _⟩ := HALL.out _ HBc.out
 by_cases hz : sb = 0
 . subst hz
   obtain rfl : y0 = true := by rw [<- hy0]; rfl
   clear hy0
   rw [Bool.true_and] at hres
   cases y1 with
   | true =>
    rw [Bool.true_and] at hres
    cases y2 with
    | true =>
     rw [Bool.true_and] at hres
     cases y3 with
     | true =>
      rw [Bool.true_and] at hres
      cases y4 with
      | true =>
       rw [Bool.true_and] at hres
       have HRES := lh (hres)
       clear hres
       go_wp2_with (first
        | (go_at_call 120; (with_reducible refine (G2.out _).mono ?_); rintro e x2 ⟨rfl, hbx⟩; replace HBc := lh (HBc.out.trans (hbx.mono HBc.out.size)); obtain ⟨_, _, _, _, _, _, _, _, _, _, _, _, _, _, _, _, _, _, _, _, _, _, _, _⟩ := HALL.out _ HBc.out; clear hbx)
        | (go_at_call 80; (with_reducible refine (G4.out _).mono ?_); rintro e x4 ⟨rfl, hbx⟩; replace HBc := lh (HBc.out.trans (hbx.mono HBc.out.size)); obtain ⟨_, _, _, _, _, _, _, _, _, _, _, _, _, _, _, _, _, _, _, _, _, _, _, _⟩ := HALL.out _ HBc.out; clear hbx)
        | (go_at_call 80; (with_reducible refine (G5.out _).mono ?_); rintro e x5 ⟨rfl, hbx⟩; replace HBc := lh (HBc.out.trans (hbx.mono HBc.out.size)); obtain ⟨_, _, _, _, _, _, _, _, _, _, _, _, _, _, _, _, _, _, _, _, _, _, _, _⟩ := HALL.out _ HBc.out; clear hbx))
       go_ret
       exact ⟨ret_b HRES.out, HOUT.out _ HBc.out⟩
      | false =>
       have HRES := lh (show false = res from by rw [<- hres, Bool.false_and])
       clear hres
       go_wp2_with (first
        | (go_at_call 120; (with_reducible refine (G2.out _).mono ?_); rintro e x2 ⟨rfl, hbx⟩; replace HBc := lh (HBc.out.trans (hbx.mono HBc.out.size)); obtain ⟨_, _, _, _, _, _, _, _, _, _, _, _, _, _, _, _, _, _, _, _, _, _, _, _⟩ := HALL.out _ HBc.out; clear hbx)
        | (go_at_call 80; (with_reducible refine (G4.out _).mono ?_); rintro e x4 ⟨rfl, hbx⟩; replace HBc := lh (HBc.out.trans (hbx.mono HBc.out.size)); obtain ⟨_, _, _, _, _, _, _, _, _, _, _, _, _, _, _, _, _, _, _, _, _, _, _, _⟩ := HALL.out _ HBc.out; clear hbx)
        | (go_at_call 80; (with_reducible refine (G5.out _).mono ?_); rintro e x5 ⟨rfl, hbx⟩; replace HBc := lh (HBc.out.trans (hbx.mono HBc.out.size)); obtain ⟨_, _, _, _, _, _, _, _, _, _, _, _, _, _, _, _, _, _, _, _, _, _, _, _⟩ := HALL.out _ HBc.out; clear hbx))
       go_ret
       exact ⟨ret_b HRES.out, HOUT.out _ HBc.out⟩
     | false =>
      have HRES := lh (show false = res from by rw [<- hres, Bool.false_and])
      clear hres
      go_wp2_with (first
       | (go_at_call 120; (with_reducible refine (G2.out _).mono ?_); rintro e x2 ⟨rfl, hbx⟩; replace HBc := lh (HBc.out.trans (hbx.mono HBc.out.size)); obtain ⟨_, _, _, _, _, _, _, _, _, _, _, _, _, _, _, _, _, _, _, _, _, _, _, _⟩ := HALL.out _ HBc.out; clear hbx)
       | (go_at_call 80; (with_reducible refine (G4.out _).mono ?_); rintro e x4 ⟨rfl, hbx⟩; replace HBc := lh (HBc.out.trans (hbx.mono HBc.out.size)); obtain ⟨_, _, _, _, _, _, _, _, _, _, _, _, _, _, _, _, _, _, _, _, _, _, _, _⟩ := HALL.out _ HBc.out; clear hbx)
       | (go_at_call 80; (with_reducible refine (G5.out _).mono ?_); rintro e x5 ⟨rfl, hbx⟩; replace HBc := lh (HBc.out.trans (hbx.mono HBc.out.size)); obtain ⟨_, _, _, _, _, _, _, _, _, _, _, _, _, _, _, _, _, _, _, _, _, _, _, _⟩ := HALL.out _ HBc.out; clear hbx))
      go_ret
      exact ⟨ret_b HRES.out, HOUT.out _ HBc.out⟩
    | false =>
     have HRES := lh (show false = res from by rw [<- hres, Bool.false_and])
     clear hres
     go_wp2_with (first
      | (go_at_call 120; (with_reducible refine (G2.out _).mono ?_); rintro e x2 ⟨rfl, hbx⟩; replace HBc := lh (HBc.out.trans (hbx.mono HBc.out.size)); obtain ⟨_, _, _, _, _, _, _, _, _, _, _, _, _, _, _, _, _, _, _, _, _, _, _, _⟩ := HALL.out _ HBc.out; clear hbx)
      | (go_at_call 80; (with_reducible refine (G4.out _).mono ?_); rintro e x4 ⟨rfl, hbx⟩; replace HBc := lh (HBc.out.trans (hbx.mono HBc.out.size)); obtain ⟨_, _, _, _, _, _, _, _, _, _, _, _, _, _, _, _, _, _, _, _, _, _, _, _⟩ := HALL.out _ HBc.out; clear hbx)
      | (go_at_call 80; (with_reducible refine (G5.out _).mono ?_); rintro e x5 ⟨rfl, hbx⟩; replace HBc := lh (HBc.out.trans (hbx.mono HBc.out.size)); obtain ⟨_, _, _, _, _, _, _, _, _, _, _, _, _, _, _, _, _, _, _, _, _, _, _, _⟩ := HALL.out _ HBc.out; clear hbx))
     go_ret
     exact ⟨ret_b HRES.out, HOUT.out _ HBc.out⟩
   | false =>
    have HRES := lh (show false = res from by rw [<- hres, Bool.false_and])
    clear hres
    go_wp2_with (first
     | (go_at_call 120; (with_reducible refine (G2.out _).mono ?_); rintro e x2 ⟨rfl, hbx⟩; replace HBc := lh (HBc.out.trans (hbx.mono HBc.out.size)); obtain ⟨_, _, _, _, _, _, _, _, _, _, _, _, _, _, _, _, _, _, _, _, _, _, _, _⟩ := HALL.out _ HBc.out; clear hbx)
     | (go_at_call 80; (with_reducible refine (G4.out _).mono ?_); rintro e x4 ⟨rfl, hbx⟩; replace HBc := lh (HBc.out.trans (hbx.mono HBc.out.size)); obtain ⟨_, _, _, _, _, _, _, _, _, _, _, _, _, _, _, _, _, _, _, _, _, _, _, _⟩ := HALL.out _ HBc.out; clear hbx)
     | (go_at_call 80; (with_reducible refine (G5.out _).mono ?_); rintro e x5 ⟨rfl, hbx⟩; replace HBc := lh (HBc.out.trans (hbx.mono HBc.out.size)); obtain ⟨_, _, _, _, _, _, _, _, _, _, _, _, _, _, _, _, _, _, _, _, _, _, _, _⟩ := HALL.out _ HBc.out; clear hbx))
    go_ret
    exact ⟨ret_b HRES.out, HOUT.out _ HBc.out⟩
 . obtain rfl : y0 = false := by rw [<- hy0]; exact decide_eq_false hz
   clear hy0
   have hz' : (sb == 0) = false := by simpa using hz
   have HRES := lh (show false = res from by rw [<- hres, Bool.false_and])
   clear hres
   go_wp2_with (first
    | (go_at_call 120; (with_reducible refine (G2.out _).mono ?_); rintro e x2 ⟨rfl, hbx⟩; replace HBc := lh (HBc.out.trans (hbx.mono HBc.out.size)); obtain ⟨_, _, _, _, _, _, _, _, _, _, _, _, _, _, _, _, _, _, _, _, _, _, _, _⟩ := HALL.out _ HBc.out; clear hbx)
    | (go_at_call 80; (with_reducible refine (G4.out _).mono ?_); rintro e x4 ⟨rfl, hbx⟩; replace HBc := lh (HBc.out.trans (hbx.mono HBc.out.size)); obtain ⟨_, _, _, _, _, _, _, _, _, _, _, _, _, _, _, _, _, _, _, _, _, _, _, _⟩ := HALL.out _ HBc.out; clear hbx)
    | (go_at_call 80; (with_reducible refine (G5.out _).mono ?_); rintro e x5 ⟨rfl, hbx⟩; replace HBc := lh (HBc.out.trans (hbx.mono HBc.out.size)); obtain ⟨_, _, _, _, _, _, _, _, _, _, _, _, _, _, _, _, _, _, _, _, _, _, _, _⟩ := HALL.out _ HBc.out; clear hbx))
   go_ret
   exact ⟨ret_b HRES.out, HOUT.out _ HBc.out⟩
theorem term_c (g s r sl p : Int) (n1 c1 n2 c2 n3 c3 : Nat) (A1 A2 A3 : Option Addr) (k sb dk dn dv ak an av bk bn bv t0 t1 : Int) (w : World) (r0 : 0 <= r) (r1 : r <= 9223372036854775807) (h3 : n3 <= 65536) (hk : k = 4) :
 Calls Tryz.prog 82 #[.agg #[g, s, r, sl, p, .slice A1 n1 c1, .slice A2 n2 c2, .slice A3 n3 c3], .agg #[k, sb, dk, dn, .int .i32 dv, ak, an, .int .i32 av, bk, bn, .int .i32 bv, t0, t1]] w fun e w' => e = .returned (.bool (wthB sb 1 6 && (regB r ⟨dk, dn, dv⟩ && (valB r ⟨ak, an, av⟩ && (valB r ⟨bk, bn, bv⟩ && (wthB t0 0 ((n3 : Int) - 1) && decide (t1 = 0))))))) /\ Below w.heap.size w w' := by
 obtain ⟨res, hres⟩ : ∃ res, (wthB sb 1 6 && (regB r ⟨dk, dn, dv⟩ && (valB r ⟨ak, an, av⟩ && (valB r ⟨bk, bn, bv⟩ && (wthB t0 0 ((n3 : Int) - 1) && decide (t1 = 0)))))) = res := ⟨_, rfl⟩
 rw [hres]
 have HBx := lh (show Below w.heap.size w (((w.alloc (.cells #[g, s, r, sl, p, .slice A1 n1 c1, .slice A2 n2 c2, .slice A3 n3 c3] 36)).alloc (.cells #[k, sb, dk, dn, .int .i32 dv, ak, an, .int .i32 av, bk, bn, .int .i32 bv, t0, t1] 53)).alloc (.cells #[(0:Int), (0:Int), .int .i32 0] 27)) from ((bo _).alloc (by simp) _).alloc (by simp; omega) _)
 have K2 := lh (show (((w.alloc (.cells #[g, s, r, sl, p, .slice A1 n1 c1, .slice A2 n2 c2, .slice A3 n3 c3] 36)).alloc (.cells #[k, sb, dk, dn, .int .i32 dv, ak, an, .int .i32 av, bk, bn, .int .i32 bv, t0, t1] 53)).alloc (.cells #[(0:Int), (0:Int), .int .i32 0] 27)).heap[w.heap.size]? = some (.cells #[g, s, r, sl, p, .slice A1 n1 c1, .slice A2 n2 c2, .slice A3 n3 c3] 36 (0, 0)) from (Below.heap_alloc _ _ _ (by simp; omega)).trans ((Below.heap_alloc _ _ _ (by simp)).trans (heap_alloc_new _ _)))
 have K3 := lh (show (((w.alloc (.cells #[g, s, r, sl, p, .slice A1 n1 c1, .slice A2 n2 c2, .slice A3 n3 c3] 36)).alloc (.cells #[k, sb, dk, dn, .int .i32 dv, ak, an, .int .i32 av, bk, bn, .int .i32 bv, t0, t1] 53)).alloc (.cells #[(0:Int), (0:Int), .int .i32 0] 27)).heap[w.heap.size + 1]? = some (.cells #[k, sb, dk, dn, .int .i32 dv, ak, an, .int .i32 av, bk, bn, .int .i32 bv, t0, t1] 53 (0, 0)) from by
  have := heap_alloc_new (w.alloc (.cells #[g, s, r, sl, p, .slice A1 n1 c1, .slice A2 n2 c2, .slice A3 n3 c3] 36)) (.cells #[k, sb, dk, dn, .int .i32 dv, ak, an, .int .i32 av, bk, bn, .int .i32 bv, t0, t1] 53)
  rw [World.size_alloc] at this
  exact (Below.heap_alloc _ _ _ (by simp)).trans this)
 have K5 := lh (show (((w.alloc (.cells #[g, s, r, sl, p, .slice A1 n1 c1, .slice A2 n2 c2, .slice A3 n3 c3] 36)).alloc (.cells #[k, sb, dk, dn, .int .i32 dv, ak, an, .int .i32 av, bk, bn, .int .i32 bv, t0, t1] 53)).alloc (.cells #[(0:Int), (0:Int), .int .i32 0] 27)).heap[w.heap.size + 1 + 1]? = some (.cells #[(0:Int), (0:Int), .int .i32 0] 27 (0, 0)) from by
  have := heap_alloc_new ((w.alloc (.cells #[g, s, r, sl, p, .slice A1 n1 c1, .slice A2 n2 c2, .slice A3 n3 c3] 36)).alloc (.cells #[k, sb, dk, dn, .int .i32 dv, ak, an, .int .i32 av, bk, bn, .int .i32 bv, t0, t1] 53)) (.cells #[(0:Int), (0:Int), .int .i32 0] 27)
  rwa [World.size_alloc, World.size_alloc] at this)
 have HRES0 := lh hres
 have HKX := lh hk
 clear hres hk
 go_enter Tryz.func82, Tryz.ntmps82
 go_upto_region 2 with (fail)
 generalize (((w.alloc (.cells #[g, s, r, sl, p, .slice A1 n1 c1, .slice A2 n2 c2, .slice A3 n3 c3] 36)).alloc (.cells #[k, sb, dk, dn, .int .i32 dv, ak, an, .int .i32 av, bk, bn, .int .i32 bv, t0, t1] 53)).alloc (.cells #[(0:Int), (0:Int), .int .i32 0] 27)) = W2 at *
 obtain ⟨b5, hb5⟩ : ∃ b5, w.heap.size + 1 + 1 = b5 := ⟨_, rfl⟩
 rw [hb5] at K5
 try rw [show w.heap.size + 2 = b5 from hb5]
 try rw [hb5]
 clear hb5
 obtain ⟨b3, hb3⟩ : ∃ b3, w.heap.size + 1 = b3 := ⟨_, rfl⟩
 rw [hb3] at K3 ⊢
 clear hb3
 have HOUT := lh (show ∀ V, Below W2.heap.size W2 V -> Below w.heap.size w V from fun V hV => HBx.out.trans (hV.mono HBx.out.size))
 obtain ⟨b2, hb2⟩ : ∃ b2, w.heap.size = b2 := ⟨_, rfl⟩
 rw [hb2] at K2 ⊢
 clear hb2 HBx
 have HALL := lh (show ∀ V, Below W2.heap.size W2 V -> V.cell? ⟨b2, 0, none⟩ = some (.int .i64 g) /\ V.cell? ⟨b2, 1, none⟩ = some (.int .i64 s) /\ V.cell? ⟨b2, 2, none⟩ = some (.int .i64 r) /\ V.cell? ⟨b2, 3, none⟩ = some (.int .i64 sl) /\ V.cell? ⟨b2, 4, none⟩ = some (.int .i64 p) /\ V.cell? ⟨b2, 5, none⟩ = some (.slice A1 n1 c1) /\ V.cell? ⟨b2, 6, none⟩ = some (.slice A2 n2 c2) /\ V.cell? ⟨b2, 7, none⟩ = some (.slice A3 n3 c3) /\ V.cell? ⟨b3, 0, none⟩ = some (.int .i64 k) /\ V.cell? ⟨b3, 1, none⟩ = some (.int .i64 sb) /\ V.cell? ⟨b3, 2, none⟩ = some (.int .i64 dk) /\ V.cell? ⟨b3, 3, none⟩ = some (.int .i64 dn) /\ V.cell? ⟨b3, 4, none⟩ = some (.int .i32 dv) /\ V.cell? ⟨b3, 5, none⟩ = some (.int .i64 ak) /\ V.cell? ⟨b3, 6, none⟩ = some (.int .i64 an) /\ V.cell? ⟨b3, 7, none⟩ = some (.int .i32 av) /\ V.cell? ⟨b3, 8, none⟩ = some (.int .i64 bk) /\ V.cell? ⟨b3, 9, none⟩ = some (.int .i64 bn) /\ V.cell? ⟨b3, 10, none⟩ = some (.int .i32 bv) /\ V.cell? ⟨b3, 11, none⟩ = some (.int .i64 t0) /\ V.cell? ⟨b3, 12, none⟩ = some (.int .i64 t1) /\ V.cell? ⟨b5, 0, none⟩ = some (.int .i64 0) /\ V.cell? ⟨b5, 1, none⟩ = some (.int .i64 0) /\ V.cell? ⟨b5, 2, none⟩ = some (.int .i32 0) from fun V hV => by
  have q2 := (hV.block _ (Array.getElem?_eq_some_iff.1 K2.out).1).trans K2.out
  have q3 := (hV.block _ (Array.getElem?_eq_some_iff.1 K3.out).1).trans K3.out
  have q5 := (hV.block _ (Array.getElem?_eq_some_iff.1 K5.out).1).trans K5.out
  exact ⟨cell_blk q2 (i := 0) rfl, cell_blk q2 (i := 1) rfl, cell_blk q2 (i := 2) rfl, cell_blk q2 (i := 3) rfl, cell_blk q2 (i := 4) rfl, cell_blk q2 (i := 5) rfl, cell_blk q2 (i := 6) rfl, cell_blk q2 (i := 7) rfl, cell_blk q3 (i := 0) rfl, cell_blk q3 (i := 1) rfl, cell_blk q3 (i := 2) rfl, cell_blk q3 (i := 3) rfl, cell_blk q3 (i := 4) rfl, cell_blk q3 (i := 5) rfl, cell_blk q3 (i := 6) rfl, cell_blk q3 (i := 7) rfl, cell_blk q3 (i := 8) rfl, cell_blk q3 (i := 9) rfl, cell_blk q3 (i := 10) rfl, cell_blk q3 (i := 11) rfl, cell_blk q3 (i := 12) rfl, cell_blk q5 (i := 0) rfl, cell_blk q5 (i := 1) rfl, cell_blk q5 (i := 2) rfl⟩)
 have HBc := lh (Below.refl W2.heap.size W2)
 clear K2 K3 K5
 obtain rfl := HKX.out
 clear HKX
 have hres := HRES0.out
 clear HRES0
 have H0 := fun (W : World) => between_any sb 1 6 W
 obtain ⟨y0, hy0⟩ : ∃ y, wthB sb 1 6 = y := ⟨_, rfl⟩
 rw [hy0] at H0 hres
 clear hy0
 have G0 := lh H0
 clear H0
 have H1 := fun (W : World) => register_r g s r sl p n1 c1 n2 c2 n3 c3 A1 A2 A3 dk dn dv W r0 r1
 obtain ⟨y1, hy1⟩ : ∃ y, regB r ⟨dk, dn, dv⟩ = y := ⟨_, rfl⟩
 rw [hy1] at H1 hres
 clear hy1
 have G1 := lh H1
 clear H1
 have H2 := fun (W : World) => value_r g s r sl p n1 c1 n2 c2 n3 c3 A1 A2 A3 ak an av W r0 r1
 obtain ⟨y2, hy2⟩ : ∃ y, valB r ⟨ak, an, av⟩ = y := ⟨_, rfl⟩
 rw [hy2] at H2 hres
 clear hy2
 have G2 := lh H2
 clear H2
 have H3 := fun (W : World) => value_r g s r sl p n1 c1 n2 c2 n3 c3 A1 A2 A3 bk bn bv W r0 r1
 obtain ⟨y3, hy3⟩ : ∃ y, valB r ⟨bk, bn, bv⟩ = y := ⟨_, rfl⟩
 rw [hy3] at H3 hres
 clear hy3
 have G3 := lh H3
 clear H3
 have H4 := fun (W : World) => target_any g s r sl p n1 c1 n2 c2 n3 c3 A1 A2 A3 t0 W h3
 obtain ⟨y4, hy4⟩ : ∃ y, wthB t0 0 ((n3 : Int) - 1) = y := ⟨_, rfl⟩
 rw [hy4] at H4 hres
 clear hy4
 have G4 := lh H4
 clear H4
 obtain ⟨y5, hy5⟩ : ∃ y, decide (t1 = 0) = y := ⟨_, rfl⟩
 rw [hy5] at hres
 obtain ⟨_, _, _, _, _, _, _, _, _, _, _, _, _, _, _, _, _, _, _, _, _, _, _, _⟩ := HALL.out _ HBc.out
 cases y0 with
 | true =>
  rw [Bool.true_and] at hres
  cases y1 with
  | true =>
   rw [Bool.true_and] at hres
   cases y2 with
   | true =>
    rw [Bool.true_and] at hres
    cases y3 with
    | true =>
     rw [Bool.true_and] at hres
     cases y4 with
     | true =>
      rw [Bool.true_and] at hres
      by_cases hz : t1 = 0
      . subst hz
        obtain rfl : y5 = true := by rw [<- hy5]; rfl
        clear hy5
        have HRES := lh (hres)
        clear hres
        go_wp2_with (first
         | (go_at_call 79; (with_reducible refine (G0.out _).mono ?_); rintro e x0 ⟨rfl, rfl⟩)
         | (go_at_call 118; (with_reducible refine (G1.out _).mono ?_); rintro e x1 ⟨rfl, hbx⟩; replace HBc := lh (HBc.out.trans (hbx.mono HBc.out.size)); obtain ⟨_, _, _, _, _, _, _, _, _, _, _, _, _, _, _, _, _, _, _, _, _, _, _, _⟩ := HALL.out _ HBc.out; clear hbx)
         | (go_at_call 120; (with_reducible refine (G2.out _).mono ?_); rintro e x2 ⟨rfl, hbx⟩; replace HBc := lh (HBc.out.trans (hbx.mono HBc.out.size)); obtain ⟨_, _, _, _, _, _, _, _, _, _, _, _, _, _, _, _, _, _, _, _, _, _, _, _⟩ := HALL.out _ HBc.out; clear hbx)
         | (go_at_call 120; (with_reducible refine (G3.out _).mono ?_); rintro e x3 ⟨rfl, hbx⟩; replace HBc := lh (HBc.out.trans (hbx.mono HBc.out.size)); obtain ⟨_, _, _, _, _, _, _, _, _, _, _, _, _, _, _, _, _, _, _, _, _, _, _, _⟩ := HALL.out _ HBc.out; clear hbx)
         | (go_at_call 80; (with_reducible refine (G4.out _).mono ?_); rintro e x4 ⟨rfl, hbx⟩; replace HBc := lh (HBc.out.trans (hbx.mono HBc.out.size)); obtain ⟨_, _, _, _, _, _, _, _, _, _, _, _, _, _, _, _, _, _, _, _, _, _, _, _⟩ := HALL.out _ HBc.out; clear hbx))
        go_ret
        exact ⟨ret_b HRES.out, HOUT.out _ HBc.out⟩
      . obtain rfl : y5 = false := by rw [<- hy5]; exact decide_eq_false hz
        clear hy5
        have hz' : (t1 == 0) = false := by simpa using hz
        have HRES := lh (show false = res from by rw [<- hres])
        clear hres
        go_wp2_with (first
         | (go_at_call 79; (with_reducible refine (G0.out _).mono ?_); rintro e x0 ⟨rfl, rfl⟩)
         | (go_at_call 118; (with_reducible refine (G1.out _).mono ?_); rintro e x1 ⟨rfl, hbx⟩; replace HBc := lh (HBc.out.trans (hbx.mono HBc.out.size)); obtain ⟨_, _, _, _, _, _, _, _, _, _, _, _, _, _, _, _, _, _, _, _, _, _, _, _⟩ := HALL.out _ HBc.out; clear hbx)
         | (go_at_call 120; (with_reducible refine (G2.out _).mono ?_); rintro e x2 ⟨rfl, hbx⟩; replace HBc := lh (HBc.out.trans (hbx.mono HBc.out.size)); obtain ⟨_, _, _, _, _, _, _, _, _, _, _, _, _, _, _, _, _, _, _, _, _, _, _, _⟩ := HALL.out _ HBc.out; clear hbx)
         | (go_at_call 120; (with_reducible refine (G3.out _).mono ?_); rintro e x3 ⟨rfl, hbx⟩; replace HBc := lh (HBc.out.trans (hbx.mono HBc.out.size)); obtain ⟨_, _, _, _, _, _, _, _, _, _, _, _, _, _, _, _, _, _, _, _, _, _, _, _⟩ := HALL.out _ HBc.out; clear hbx)
         | (go_at_call 80; (with_reducible refine (G4.out _).mono ?_); rintro e x4 ⟨rfl, hbx⟩; replace HBc := lh (HBc.out.trans (hbx.mono HBc.out.size)); obtain ⟨_, _, _, _, _, _, _, _, _, _, _, _, _, _, _, _, _, _, _, _, _, _, _, _⟩ := HALL.out _ HBc.out; clear hbx))
        go_ret
        exact ⟨ret_b HRES.out, HOUT.out _ HBc.out⟩
     | false =>
      clear hy5
      have HRES := lh (show false = res from by rw [<- hres, Bool.false_and])
      clear hres
      go_wp2_with (first
       | (go_at_call 79; (with_reducible refine (G0.out _).mono ?_); rintro e x0 ⟨rfl, rfl⟩)
       | (go_at_call 118; (with_reducible refine (G1.out _).mono ?_); rintro e x1 ⟨rfl, hbx⟩; replace HBc := lh (HBc.out.trans (hbx.mono HBc.out.size)); obtain ⟨_, _, _, _, _, _, _, _, _, _, _, _, _, _, _, _, _, _, _, _, _, _, _, _⟩ := HALL.out _ HBc.out; clear hbx)
       | (go_at_call 120; (with_reducible refine (G2.out _).mono ?_); rintro e x2 ⟨rfl, hbx⟩; replace HBc := lh (HBc.out.trans (hbx.mono HBc.out.size)); obtain ⟨_, _, _, _, _, _, _, _, _, _, _, _, _, _, _, _, _, _, _, _, _, _, _, _⟩ := HALL.out _ HBc.out; clear hbx)
       | (go_at_call 120; (with_reducible refine (G3.out _).mono ?_); rintro e x3 ⟨rfl, hbx⟩; replace HBc := lh (HBc.out.trans (hbx.mono HBc.out.size)); obtain ⟨_, _, _, _, _, _, _, _, _, _, _, _, _, _, _, _, _, _, _, _, _, _, _, _⟩ := HALL.out _ HBc.out; clear hbx)
       | (go_at_call 80; (with_reducible refine (G4.out _).mono ?_); rintro e x4 ⟨rfl, hbx⟩; replace HBc := lh (HBc.out.trans (hbx.mono HBc.out.size)); obtain ⟨_, _, _, _, _, _, _, _, _, _, _, _, _, _, _, _, _, _, _, _, _, _, _, _⟩ := HALL.out _ HBc.out; clear hbx))
      go_ret
      exact ⟨ret_b HRES.out, HOUT.out _ HBc.out⟩
    | false =>
     clear hy5
     have HRES := lh (show false = res from by rw [<- hres, Bool.false_and])
     clear hres
     go_wp2_with (first
      | (go_at_call 79; (with_reducible refine (G0.out _).mono ?_); rintro e x0 ⟨rfl, rfl⟩)
      | (go_at_call 118; (with_reducible refine (G1.out _).mono ?_); rintro e x1 ⟨rfl, hbx⟩; replace HBc := lh (HBc.out.trans (hbx.mono HBc.out.size)); obtain ⟨_, _, _, _, _, _, _, _, _, _, _, _, _, _, _, _, _, _, _, _, _, _, _, _⟩ := HALL.out _ HBc.out; clear hbx)
      | (go_at_call 120; (with_reducible refine (G2.out _).mono ?_); rintro e x2 ⟨rfl, hbx⟩; replace HBc := lh (HBc.out.trans (hbx.mono HBc.out.size)); obtain ⟨_, _, _, _, _, _, _, _, _, _, _, _, _, _, _, _, _, _, _, _, _, _, _, _⟩ := HALL.out _ HBc.out; clear hbx)
      | (go_at_call 120; (with_reducible refine (G3.out _).mono ?_); rintro e x3 ⟨rfl, hbx⟩; replace HBc := lh (HBc.out.trans (hbx.mono HBc.out.size)); obtain ⟨_, _, _, _, _, _, _, _, _, _, _, _, _, _, _, _, _, _, _, _, _, _, _, _⟩ := HALL.out _ HBc.out; clear hbx)
      | (go_at_call 80; (with_reducible refine (G4.out _).mono ?_); rintro e x4 ⟨rfl, hbx⟩; replace HBc := lh (HBc.out.trans (hbx.mono HBc.out.size)); obtain ⟨_, _, _, _, _, _, _, _, _, _, _, _, _, _, _, _, _, _, _, _, _, _, _, _⟩ := HALL.out _ HBc.out; clear hbx))
     go_ret
     exact ⟨ret_b HRES.out, HOUT.out _ HBc.out⟩
   | false =>
    clear hy5
    have HRES := lh (show false = res from by rw [<- hres, Bool.false_and])
    clear hres
    go_wp2_with (first
     | (go_at_call 79; (with_reducible refine (G0.out _).mono ?_); rintro e x0 ⟨rfl, rfl⟩)
     | (go_at_call 118; (with_reducible refine (G1.out _).mono ?_); rintro e x1 ⟨rfl, hbx⟩; replace HBc := lh (HBc.out.trans (hbx.mono HBc.out.size)); obtain ⟨_, _, _, _, _, _, _, _, _, _, _, _, _, _, _, _, _, _, _, _, _, _, _, _⟩ := HALL.out _ HBc.out; clear hbx)
     | (go_at_call 120; (with_reducible refine (G2.out _).mono ?_); rintro e x2 ⟨rfl, hbx⟩; replace HBc := lh (HBc.out.trans (hbx.mono HBc.out.size)); obtain ⟨_, _, _, _, _, _, _, _, _, _, _, _, _, _, _, _, _, _, _, _, _, _, _, _⟩ := HALL.out _ HBc.out; clear hbx)
     | (go_at_call 120; (with_reducible refine (G3.out _).mono ?_); rintro e x3 ⟨rfl, hbx⟩; replace HBc := lh (HBc.out.trans (hbx.mono HBc.out.size)); obtain ⟨_, _, _, _, _, _, _, _, _, _, _, _, _, _, _, _, _, _, _, _, _, _, _, _⟩ := HALL.out _ HBc.out; clear hbx)
     | (go_at_call 80; (with_reducible refine (G4.out _).mono ?_); rintro e x4 ⟨rfl, hbx⟩; replace HBc := lh (HBc.out.trans (hbx.mono HBc.out.size)); obtain ⟨_, _, _, _, _, _, _, _, _, _, _, _, _, _, _, _, _, _, _, _, _, _, _, _⟩ := HALL.out _ HBc.out; clear hbx))
    go_ret
    exact ⟨ret_b HRES.out, HOUT.out _ HBc.out⟩
  | false =>
   clear hy5
   have HRES := lh (show false = res from by rw [<- hres, Bool.false_and])
   clear hres
   go_wp2_with (first
    | (go_at_call 79; (with_reducible refine (G0.out _).mono ?_); rintro e x0 ⟨rfl, rfl⟩)
    | (go_at_call 118; (with_reducible refine (G1.out _).mono ?_); rintro e x1 ⟨rfl, hbx⟩; replace HBc := lh (HBc.out.trans (hbx.mono HBc.out.size)); obtain ⟨_, _, _, _, _, _, _, _, _, _, _, _, _, _, _, _, _, _, _, _, _, _, _, _⟩ := HALL.out _ HBc.out; clear hbx)
    | (go_at_call 120; (with_reducible refine (G2.out _).mono ?_); rintro e x2 ⟨rfl, hbx⟩; replace HBc := lh (HBc.out.trans (hbx.mono HBc.out.size)); obtain ⟨_, _, _, _, _, _, _, _, _, _, _, _, _, _, _, _, _, _, _, _, _, _, _, _⟩ := HALL.out _ HBc.out; clear hbx)
    | (go_at_call 120; (with_reducible refine (G3.out _).mono ?_); rintro e x3 ⟨rfl, hbx⟩; replace HBc := lh (HBc.out.trans (hbx.mono HBc.out.size)); obtain ⟨_, _, _, _, _, _, _, _, _, _, _, _, _, _, _, _, _, _, _, _, _, _, _, _⟩ := HALL.out _ HBc.out; clear hbx)
    | (go_at_call 80; (with_reducible refine (G4.out _).mono ?_); rintro e x4 ⟨rfl, hbx⟩; replace HBc := lh (HBc.out.trans (hbx.mono HBc.out.size)); obtain ⟨_, _, _, _, _, _, _, _, _, _, _, _, _, _, _, _, _, _, _, _, _, _, _, _⟩ := HALL.out _ HBc.out; clear hbx))
   go_ret
   exact ⟨ret_b HRES.out, HOUT.out _ HBc.out⟩
 | false =>
  clear hy5
  have HRES := lh (show false = res from by rw [<- hres, Bool.false_and])
  clear hres
  go_wp2_with (first
   | (go_at_call 79; (with_reducible refine (G0.out _).mono ?_); rintro e x0 ⟨rfl, rfl⟩)
   | (go_at_call 118; (with_reducible refine (G1.out _).mono ?_); rintro e x1 ⟨rfl, hbx⟩; replace HBc := lh (HBc.out.trans (hbx.mono HBc.out.size)); obtain ⟨_, _, _, _, _, _, _, _, _, _, _, _, _, _, _, _, _, _, _, _, _, _, _, _⟩ := HALL.out _ HBc.out; clear hbx)
   | (go_at_call 120; (with_reducible refine (G2.out _).mono ?_); rintro e x2 ⟨rfl, hbx⟩; replace HBc := lh (HBc.out.trans (hbx.mono HBc.out.size)); obtain ⟨_, _, _, _, _, _, _, _, _, _, _, _, _, _, _, _, _, _, _, _, _, _, _, _⟩ := HALL.out _ HBc.out; clear hbx)
   | (go_at_call 120; (with_reducible refine (G3.out _).mono ?_); rintro e x3 ⟨rfl, hbx⟩; replace HBc := lh (HBc.out.trans (hbx.mono HBc.out.size)); obtain ⟨_, _, _, _, _, _, _, _, _, _, _, _, _, _, _, _, _, _, _, _, _, _, _, _⟩ := HALL.out _ HBc.out; clear hbx)
   | (go_at_call 80; (with_reducible refine (G4.out _).mono ?_); rintro e x4 ⟨rfl, hbx⟩; replace HBc := lh (HBc.out.trans (hbx.mono HBc.out.size)); obtain ⟨_, _, _, _, _, _, _, _, _, _, _, _, _, _, _, _, _, _, _, _, _, _, _, _⟩ := HALL.out _ HBc.out; clear hbx))
  go_ret
  exact ⟨ret_b HRES.out, HOUT.out _ HBc.out⟩
theorem exit_eql (a0 a1 a2 a3 a4 a5 a6 a7 a8 a9 x y : Int) (w : World) :
 (binOp .eql 53 (.agg #[(5:Int), a0, a1, a2, .int .i32 a3, a4, a5, .int .i32 a6, a7, a8, .int .i32 a9, x, y]) (.agg #[(5:Int), (0:Int), (0:Int), (0:Int), .int .i32 0, (0:Int), (0:Int), .int .i32 0, (0:Int), (0:Int), .int .i32 0, (0:Int), (0:Int)])).run Tryz.prog w = .ok (.bool (a0 == 0 && (a1 == 0 && (a2 == 0 && (a3 == 0 && (a4 == 0 && (a5 == 0 && (a6 == 0 && (a7 == 0 && (a8 == 0 && (a9 == 0 && (x == 0 && y == 0)))))))))))) w := by
 have e51 := fun (W : World) => eq51g 9997 x y 0 0 W
 go_simp
 clear e51
 by_cases h : a0 = 0
 rotate_left
 . have hb : (a0 == 0) = false := by simpa using h
   first | (rw [if_neg h]; simp [hb]) | simp [hb, h]
 have hb : (a0 == 0) = true := by simpa using h
 first | rw [if_pos h] | skip
 simp only [hb, Bool.true_and]
 clear hb
 clear h
 by_cases h : a1 = 0
 rotate_left
 . have hb : (a1 == 0) = false := by simpa using h
   first | (rw [if_neg h]; simp [hb]) | simp [hb, h]
 have hb : (a1 == 0) = true := by simpa using h
 first | rw [if_pos h] | skip
 simp only [hb, Bool.true_and]
 clear hb
 clear h
 by_cases h : a2 = 0
 rotate_left
 . have hb : (a2 == 0) = false := by simpa using h
   first | (rw [if_neg h]; simp [hb]) | simp [hb, h]
 have hb : (a2 == 0) = true := by simpa using h
 first | rw [if_pos h] | skip
 simp only [hb, Bool.true_and]
 clear hb
 clear h
 by_cases h : a3 = 0
 rotate_left
 . have hb : (a3 == 0) = false := by simpa using h
   first | (rw [if_neg h]; simp [hb]) | simp [hb, h]
 have hb : (a3 == 0) = true := by simpa using h
 first | rw [if_pos h] | skip
 simp only [hb, Bool.true_and]
 clear hb
 clear h
 by_cases h : a4 = 0
 rotate_left
 . have hb : (a4 == 0) = false := by simpa using h
   first | (rw [if_neg h]; simp [hb]) | simp [hb, h]
 have hb : (a4 == 0) = true := by simpa using h
 first | rw [if_pos h] | skip
 simp only [hb, Bool.true_and]
 clear hb
 clear h
 by_cases h : a5 = 0
 rotate_left
 . have hb : (a5 == 0) = false := by simpa using h
   first | (rw [if_neg h]; simp [hb]) | simp [hb, h]
 have hb : (a5 == 0) = true := by simpa using h
 first | rw [if_pos h] | skip
 simp only [hb, Bool.true_and]
 clear hb
 clear h
 by_cases h : a6 = 0
 rotate_left
 . have hb : (a6 == 0) = false := by simpa using h
   first | (rw [if_neg h]; simp [hb]) | simp [hb, h]
 have hb : (a6 == 0) = true := by simpa using h
 first | rw [if_pos h] | skip
 simp only [hb, Bool.true_and]
 clear hb
 clear h
 by_cases h : a7 = 0
 rotate_left
 . have hb : (a7 == 0) = false := by simpa using h
   first | (rw [if_neg h]; simp [hb]) | simp [hb, h]
 have hb : (a7 == 0) = true := by simpa using h
 first | rw [if_pos h] | skip
 simp only [hb, Bool.true_and]
 clear hb
 clear h
 by_cases h : a8 = 0
 rotate_left
 . have hb : (a8 == 0) = false := by simpa using h
   first | (rw [if_neg h]; simp [hb]) | simp [hb, h]
 have hb : (a8 == 0) = true := by simpa using h
 first | rw [if_pos h] | skip
 simp only [hb, Bool.true_and]
 clear hb
 clear h
 by_cases h : a9 = 0
 rotate_left
 . have hb : (a9 == 0) = false := by simpa using h
   first | (rw [if_neg h]; simp [hb]) | simp [hb, h]
 have hb : (a9 == 0) = true := by simpa using h
 first | rw [if_pos h] | skip
 simp only [hb, Bool.true_and]
 clear hb
 clear h
 cases hx : (x == 0) <;> cases hy : (y == 0) <;> simp_all
theorem term_e (g s r sl p : Int) (n1 c1 n2 c2 n3 c3 : Nat) (A1 A2 A3 : Option Addr) (k sb dk dn dv ak an av bk bn bv t0 t1 : Int) (w : World) (hk : k = 5) :
 Calls Tryz.prog 82 #[.agg #[g, s, r, sl, p, .slice A1 n1 c1, .slice A2 n2 c2, .slice A3 n3 c3], .agg #[k, sb, dk, dn, .int .i32 dv, ak, an, .int .i32 av, bk, bn, .int .i32 bv, t0, t1]] w fun e w' => e = .returned (.bool (sb == 0 && (dk == 0 && (dn == 0 && (dv == 0 && (ak == 0 && (an == 0 && (av == 0 && (bk == 0 && (bn == 0 && (bv == 0 && (t0 == 0 && t1 == 0)))))))))))) /\ Below w.heap.size w w' := by
 obtain rfl := hk
 have HE := fun (W : World) => exit_eql sb dk dn dv ak an av bk bn bv t0 t1 W
 obtain ⟨y, hy⟩ : ∃ y, (sb == 0 && (dk == 0 && (dn == 0 && (dv == 0 && (ak == 0 && (an == 0 && (av == 0 && (bk == 0 && (bn == 0 && (bv == 0 && (t0 == 0 && t1 == 0))))))))))) = y := ⟨_, rfl⟩
 rw [hy] at HE ⊢
 clear hy
 have HB := lh (show ∀ o o' o'', Below w.heap.size w (((w.alloc o).alloc o').alloc o'') from fun o o' o'' => ((bo _).alloc (by simp) _).alloc (by simp; omega) _)
 go_enter Tryz.func82, Tryz.ntmps82
 go_wp2
 go_ret
 exact ⟨rfl, HB.out _ _ _⟩
theorem term_x (g s r sl p : Int) (n1 c1 n2 c2 n3 c3 : Nat) (A1 A2 A3 : Option Addr) (k sb dk dn dv ak an av bk bn bv t0 t1 : Int) (w : World) (hk : k < 1 \/ 5 < k) :
 Calls Tryz.prog 82 #[.agg #[g, s, r, sl, p, .slice A1 n1 c1, .slice A2 n2 c2, .slice A3 n3 c3], .agg #[k, sb, dk, dn, .int .i32 dv, ak, an, .int .i32 av, bk, bn, .int .i32 bv, t0, t1]] w fun e w' => e = .returned (.bool false) /\ Below w.heap.size w w' := by
 have e1 : (k == 1) = false := by simp; omega
 have e2 : (k == 2) = false := by simp; omega
 have e3 : (k == 3) = false := by simp; omega
 have e4 : (k == 4) = false := by simp; omega
 have e5 : (k == 5) = false := by simp; omega
 clear hk
 have HB := lh (show ∀ o o' o'', Below w.heap.size w (((w.alloc o).alloc o').alloc o'') from fun o o' o'' => ((bo _).alloc (by simp) _).alloc (by simp; omega) _)
 go_enter Tryz.func82, Tryz.ntmps82
 go_wp2
 go_ret
 exact ⟨rfl, HB.out _ _ _⟩
theorem term_r (g s r sl p : Int) (n1 c1 n2 c2 n3 c3 : Nat) (A1 A2 A3 : Option Addr) (t : TermV) (w : World) (r0 : 0 <= r) (r1 : r <= 9223372036854775807) (h3 : n3 <= 65536) :
 Calls Tryz.prog 82 #[.agg #[g, s, r, sl, p, .slice A1 n1 c1, .slice A2 n2 c2, .slice A3 n3 c3], t.val] w fun e w' => e = .returned (.bool (endR r n3 t)) /\ Below w.heap.size w w' := by
 obtain ⟨k, sb, ⟨dk, dn, dv⟩, ⟨ak, an, av⟩, ⟨bk, bn, bv⟩, t0, t1⟩ := t
 simp only [TermV.val]
 by_cases h1 : k = 1 \/ k = 3
 . have H := term_j g s r sl p n1 c1 n2 c2 n3 c3 A1 A2 A3 k sb dk dn dv ak an av bk bn bv t0 t1 w r0 r1 h3 h1
   unfold endR
   rw [if_pos h1]
   exact H
 . by_cases h2 : k = 2
   . have H := term_br g s r sl p n1 c1 n2 c2 n3 c3 A1 A2 A3 k sb dk dn dv ak an av bk bn bv t0 t1 w r0 r1 h3 h2
     unfold endR
     rw [if_neg h1, if_pos h2]
     exact H
   . by_cases h4 : k = 4
     . have H := term_c g s r sl p n1 c1 n2 c2 n3 c3 A1 A2 A3 k sb dk dn dv ak an av bk bn bv t0 t1 w r0 r1 h3 h4
       unfold endR
       rw [if_neg h1, if_neg h2, if_pos h4]
       exact H
     . by_cases h5 : k = 5
       . have H := term_e g s r sl p n1 c1 n2 c2 n3 c3 A1 A2 A3 k sb dk dn dv ak an av bk bn bv t0 t1 w h5
         have e : endR r n3 ⟨k, sb, ⟨dk, dn, dv⟩, ⟨ak, an, av⟩, ⟨bk, bn, bv⟩, t0, t1⟩ = (sb == 0 && (dk == 0 && (dn == 0 && (dv == 0 && (ak == 0 && (an == 0 && (av == 0 && (bk == 0 && (bn == 0 && (bv == 0 && (t0 == 0 && t1 == 0))))))))))) := by
          unfold endR zerO
          rw [if_neg h1, if_neg h2, if_neg h4, if_pos h5]
          simp only [Bool.and_assoc]
          rfl
         rw [e]
         exact H
       . have H := term_x g s r sl p n1 c1 n2 c2 n3 c3 A1 A2 A3 k sb dk dn dv ak an av bk bn bv t0 t1 w (by omega)
         unfold endR
         rw [if_neg h1, if_neg h2, if_neg h4, if_neg h5]
         exact H
end Go.Proofs.YtkncilgmlkeifaaGreatDoor
