import Derived.Test.YtkncilgmlkeifaaGreatDoorTkp
import Derived.Test.YtkncilgmlkeifaaGreatDoorRcd
import Derived.Test.YtkncilgmlkeifaaGreatDoorRcf
import Derived.Test.YtkncilgmlkeifaaGreatDoorRcg
import Derived.Test.YtkncilgmlkeifaaGreatDoorCdm
import Derived.Deep.RegionHeld3
/-
  The reference's checker: it looks at an instruction and at an end as the program does (plain facts).
-/
set_option linter.unusedVariables false
set_option linter.unusedSimpArgs false
set_option maxRecDepth 100000
set_option maxHeartbeats 8000000
namespace Go.Proofs.YtkncilgmlkeifaaGreatDoor
open Go.ChangeShapes Go.WideShapes Go.ChangeAt Go.RowKit Go.Shelf
theorem hasB_of (m : Int) (f : Int -> Bool) (h0 : ∀ n : Fin 32, (bits BinOp.and IntKind.u32 (m / 2 ^ (n : Nat)) 1 == 1) = f (n : Nat)) (h1 : ∀ s : Int, (s < 0 \/ 31 < s) -> f s = false) (s : Int) : hasB m s = f s := by
 unfold hasB
 by_cases h : 0 <= s /\ s <= 31
 . obtain ⟨n, rfl⟩ : ∃ n : Nat, s = (n : Int) := ⟨s.toNat, by omega⟩
   have hw : wthB (n : Int) 0 31 = true := by unfold wthB; simp only [Bool.and_eq_true, decide_eq_true_eq]; exact h
   rw [hw, Bool.true_and, Int.toNat_natCast]
   exact h0 ⟨n, by omega⟩
 . have hw : wthB s 0 31 = false := by
    unfold wthB
    rw [Bool.eq_false_iff]
    simp only [ne_eq, Bool.and_eq_true, decide_eq_true_eq]
    exact h
   rw [hw, Bool.false_and, h1 s (by omega)]
theorem wth_no (lo hi s : Int) (hl : 0 <= lo) (hh : hi <= 31) (h : s < 0 \/ 31 < s) : wthB s lo hi = false := by
 unfold wthB
 rw [Bool.eq_false_iff]
 simp only [ne_eq, Bool.and_eq_true, decide_eq_true_eq]
 omega
theorem has2 (s : Int) : hasB 62 s = wthB s 1 5 := hasB_of 62 (fun s => wthB s 1 5) (by decide +kernel) (fun s h => wth_no 1 5 s (by decide) (by decide) h) s
theorem has3 (s : Int) : hasB 1073740800 s = wthB s 10 29 := hasB_of 1073740800 (fun s => wthB s 10 29) (by decide +kernel) (fun s h => wth_no 10 29 s (by decide) (by decide) h) s
theorem has5 (s : Int) : hasB 254 s = wthB s 1 7 := hasB_of 254 (fun s => wthB s 1 7) (by decide +kernel) (fun s h => wth_no 1 7 s (by decide) (by decide) h) s
theorem has9 (s : Int) : hasB 13501440 s = atoB s := hasB_of 13501440 (fun s => atoB s) (by decide +kernel) (fun s h => by
 unfold atoB
 simp only [Bool.or_eq_false_iff, decide_eq_false_iff_not]
 omega) s
theorem has10 (s : Int) : hasB 6 s = (decide (s = 1) || decide (s = 2)) := hasB_of 6 (fun s => decide (s = 1) || decide (s = 2)) (by decide +kernel) (fun s h => by
 simp only [Bool.or_eq_false_iff, decide_eq_false_iff_not]
 omega) s
theorem has4 (s : Int) : hasB 126 s = wthB s 1 6 := hasB_of 126 (fun s => wthB s 1 6) (by decide +kernel) (fun s h => wth_no 1 6 s (by decide) (by decide) h) s
theorem instR_eq (p sl r : Int) (n1 n3 : Nat) (sp : Nat -> Int) (i : InstV) : instR p sl r n1 sp i = instB p sl r n1 n3 sp i := by
 obtain ⟨op, sb, n, ⟨dk, dn, dv⟩, ⟨ak, an, av⟩, ⟨bk, bn, bv⟩, ⟨ck, cn, cv⟩⟩ := i
 have hop : op = 1 \/ op = 2 \/ op = 3 \/ op = 4 \/ op = 5 \/ op = 6 \/ op = 7 \/ op = 8 \/ op = 9 \/ op = 10 \/ op = 11 \/ op = 12 \/ (op < 1 \/ 12 < op) := by omega
 unfold instR instB
 simp only
 rcases hop with rfl | rfl | rfl | rfl | rfl | rfl | rfl | rfl | rfl | rfl | rfl | rfl | h
 rotate_right
 . have h1 : decide (1 <= op /\ op <= 12) = false := decide_eq_false (by omega)
   have h2 : instOK op = false := h1
   rw [h1, h2, Bool.false_and, Bool.false_and]
 all_goals
  rw [Bool.eq_iff_iff]
  simp [instOK, hasV, zeroP, othV, FormV.want, InstV.parts, noOpd, opsB, zerO, lstO, shpF, subR, idxR, idxB, instF, has2, has3, has5, has9, has10]
  first | done | (constructor <;> (intro h; simp_all; done)) | (constructor <;> (intro h; simp_all; try exact decide_eq_false_iff_not.1 h.2.1.2.2; done)) | (intro h0; constructor <;> (intro h; simp_all))
theorem endR_eq (p sl r : Int) (n1 n3 : Nat) (sp : Nat -> Int) (t : TermV) : endR r n3 t = endB p sl r n1 n3 sp t := by
 obtain ⟨k, sb, ⟨dk, dn, dv⟩, ⟨ak, an, av⟩, ⟨bk, bn, bv⟩, t0, t1⟩ := t
 have hop : k = 1 \/ k = 2 \/ k = 3 \/ k = 4 \/ k = 5 \/ (k < 1 \/ 5 < k) := by omega
 unfold endR endB
 simp only
 rcases hop with rfl | rfl | rfl | rfl | rfl | h
 rotate_right
 . have h2 : endOK k = false := decide_eq_false (by omega)
   rw [h2, Bool.false_and, if_neg (by omega), if_neg (by omega), if_neg (by omega), if_neg (by omega)]
 all_goals
  rw [Bool.eq_iff_iff]
  simp [endOK, hasV, zeroP, othV, FormV.want, TermV.parts, noOpd, zerO, endF, has4, List.range_succ]
  first | done | (constructor <;> (intro h; simp_all; done)) | (constructor <;> (intro h; simp_all; try exact decide_eq_false_iff_not.1 h.2.1.2.2; done)) | (intro h0; constructor <;> (intro h; simp_all))
theorem sizR_eq (g s r sl p : Int) : sizB g s r sl p = (sizR g s && (decide (0 <= r) && (decide (0 <= sl) && decide (0 <= p)))) := by
 unfold sizB sizR
 by_cases h : 1 <= s /\ s <= 32
 . have hs : s = 1 \/ s = 2 \/ s = 3 \/ s = 4 \/ s = 5 \/ s = 6 \/ s = 7 \/ s = 8 \/ s = 9 \/ s = 10 \/ s = 11 \/ s = 12 \/ s = 13 \/ s = 14 \/ s = 15 \/ s = 16 \/ s = 17 \/ s = 18 \/ s = 19 \/ s = 20 \/ s = 21 \/ s = 22 \/ s = 23 \/ s = 24 \/ s = 25 \/ s = 26 \/ s = 27 \/ s = 28 \/ s = 29 \/ s = 30 \/ s = 31 \/ s = 32 := by omega
   have hw : wthB s 1 32 = true := by unfold wthB; simp only [Bool.and_eq_true, decide_eq_true_eq]; exact h
   rw [hw, Bool.true_and]
   cases hg : wthB g 1 256 with
   | false =>
    rw [Bool.false_and]
    split <;> simp
   | true =>
    have hg0 : 0 <= g := by unfold wthB at hg; simp only [Bool.and_eq_true, decide_eq_true_eq] at hg; omega
    have hm : ∀ m : Int, Int.tmod g m = g % m := fun m => Int.tmod_eq_emod_of_nonneg hg0
    rw [Bool.true_and]
    rcases hs with rfl | rfl | rfl | rfl | rfl | rfl | rfl | rfl | rfl | rfl | rfl | rfl | rfl | rfl | rfl | rfl | rfl | rfl | rfl | rfl | rfl | rfl | rfl | rfl | rfl | rfl | rfl | rfl | rfl | rfl | rfl | rfl
    all_goals
     first
      | (rw [if_neg (by decide)]; rfl)
      | (rw [if_pos (by decide), hm, Bool.true_and]; rfl)
 . have hw : wthB s 1 32 = false := by
    rw [Bool.eq_false_iff]
    unfold wthB
    simp only [ne_eq, Bool.and_eq_true, decide_eq_true_eq]
    exact h
   rw [hw, Bool.false_and, Bool.and_false, if_neg (by omega), Bool.false_and]
theorem all_no {n : Nat} {f : Nat -> Bool} {k : Nat} (hk : k < n) (h : f k = false) : (List.range n).all f = false := by
 rw [Bool.eq_false_iff, ne_eq, List.all_eq_true]
 intro hh
 have := hh k (by simpa using hk)
 rw [h] at this
 cases this
theorem all_yes {n : Nat} {f : Nat -> Bool} (h : ∀ j, j < n -> f j = true) : (List.range n).all f = true := by
 rw [List.all_eq_true]
 exact fun j hj => h j (by simpa using hj)
theorem one_more {P : Nat -> Prop} {k : Nat} (h : ∀ j, j < k -> P j) (hk : P k) : ∀ j, j < k + 1 -> P j := fun j hj => by
 by_cases e : j = k
 . rw [e]
   exact hk
 . exact h j (by omega)
theorem formed_r (g s r sl p : Int) (n1 c1 n2 c2 n3 c3 : Nat) (A1 A2 A3 : Option Addr) (nm : Nat -> ByteArray) (sp ty ln hd rg bd : Nat -> Int) (IA : Nat -> Option Addr) (IL IC : Nat -> Nat) (I : Nat -> Nat -> InstV) (T : Nat -> TermV) (w : World) (hc : CodeM n1 n2 n3 A1 A2 A3 nm sp ty ln hd rg bd IA IL IC I T w w.heap.size) (hn1 : n1 <= 65536) (hn2 : n2 <= 65536) (hn3 : n3 <= 65536) (r1 : r <= 9223372036854775807) (s1 : sl <= 9223372036854775807) (p1 : p <= 9223372036854775807) :
 Calls Tryz.prog 47 #[.agg #[g, s, r, sl, p, .slice A1 n1 c1, .slice A2 n2 c2, .slice A3 n3 c3]] w fun e w' => e = .returned (.bool (formB g s r sl p n1 n2 n3 nm sp ty ln hd rg bd IL I T)) /\ Below w.heap.size w w' := by
 obtain ⟨res, hres⟩ : ∃ res, formB g s r sl p n1 n2 n3 nm sp ty ln hd rg bd IL I T = res := ⟨_, rfl⟩
 rw [hres]
 unfold formB at hres
 rw [sizR_eq] at hres
 have HS := fun W => size_r g s r sl p n1 c1 n2 c2 n3 c3 A1 A2 A3 W
 obtain ⟨z0, hz0⟩ : ∃ z, sizR g s = z := ⟨_, rfl⟩
 obtain ⟨z1, hz1⟩ : ∃ z, ((List.range n1).all fun j => arrB (nm j) (sp j) (ty j) (ln j)) = z := ⟨_, rfl⟩
 obtain ⟨z2, hz2⟩ : ∃ z, ((List.range n2).all fun j => loopB r n3 (hd j) (rg j) (bd j)) = z := ⟨_, rfl⟩
 obtain ⟨z3, hz3⟩ : ∃ z, ((List.range n3).all fun j => blockB p sl r n1 n3 sp (IL j) (I j) (T j)) = z := ⟨_, rfl⟩
 rw [hz0] at HS hres
 rw [hz1, hz2, hz3] at hres
 have HS := lh HS
 have HC := lh hc
 have HZ1 := lh hz1
 have HZ2 := lh hz2
 have HZ3 := lh hz3
 have HRES := lh hres
 have HK0 := lh (OneK.start (w := w) (T := 36) (K := #[g, s, r, sl, p, .slice A1 n1 c1, .slice A2 n2 c2, .slice A3 n3 c3]))
 clear hz0 hz1 hz2 hz3 hres hc
 go_enter Tryz.func47, Tryz.ntmps47
 cases z0 with
 | false =>
  have HG := lh (show false = res from by rw [<- HRES.out]; simp)
  go_wp2_with (go_at_call 77; (with_reducible refine (HS.out _).mono ?_); rintro e x1 ⟨rfl, hb1⟩; have HK := lh (HK0.out.step hb1); have ck := HK.out.ck; clear hb1)
  go_ret
  exact ⟨ret_b HG.out, HK.out.below⟩
 | true =>
  by_cases r0 : 0 <= r
  rotate_left
  . have r0' : r < 0 := by omega
    have HG := lh (show false = res from by rw [<- HRES.out, decide_eq_false r0]; simp)
    clear r0
    go_wp2_with (go_at_call 77; (with_reducible refine (HS.out _).mono ?_); rintro e x1 ⟨rfl, hb1⟩; have HK := lh (HK0.out.step hb1); have ck := HK.out.ck; clear hb1)
    go_ret
    exact ⟨ret_b HG.out, HK.out.below⟩
  by_cases s0 : 0 <= sl
  rotate_left
  . have s0' : sl < 0 := by omega
    have r0' : ¬ r < 0 := by omega
    have HG := lh (show false = res from by rw [<- HRES.out, decide_eq_false s0]; simp)
    clear s0
    go_wp2_with (go_at_call 77; (with_reducible refine (HS.out _).mono ?_); rintro e x1 ⟨rfl, hb1⟩; have HK := lh (HK0.out.step hb1); have ck := HK.out.ck; clear hb1)
    go_ret
    exact ⟨ret_b HG.out, HK.out.below⟩
  by_cases p0 : 0 <= p
  rotate_left
  . have p0' : p < 0 := by omega
    have r0' : ¬ r < 0 := by omega
    have s0' : ¬ sl < 0 := by omega
    have HG := lh (show false = res from by rw [<- HRES.out, decide_eq_false p0]; simp)
    clear p0
    go_wp2_with (go_at_call 77; (with_reducible refine (HS.out _).mono ?_); rintro e x1 ⟨rfl, hb1⟩; have HK := lh (HK0.out.step hb1); have ck := HK.out.ck; clear hb1)
    go_ret
    exact ⟨ret_b HG.out, HK.out.below⟩
  have p0' : ¬ p < 0 := by omega
  have r0' : ¬ r < 0 := by omega
  have s0' : ¬ sl < 0 := by omega
  by_cases h3 : 0 < n3
  rotate_left
  . obtain rfl : n3 = 0 := by omega
    have HG := lh (show false = res from by rw [<- HRES.out, decide_eq_false h3]; simp)
    clear h3
    go_wp2_with (go_at_call 77; (with_reducible refine (HS.out _).mono ?_); rintro e x1 ⟨rfl, hb1⟩; have HK := lh (HK0.out.step hb1); have ck := HK.out.ck; clear hb1)
    go_ret
    exact ⟨ret_b HG.out, HK.out.below⟩
  have h3' : ((n3 : Int) == 0) = false := by simp; omega
  have HR2 := lh (show (z1 && (z2 && z3)) = res from by rw [<- HRES.out, decide_eq_true r0, decide_eq_true s0, decide_eq_true p0, decide_eq_true h3]; simp)
  obtain ⟨b3, o3, hA3, hlt3, hcb⟩ := HC.out.blocks h3
  subst hA3
  have HCB := lh hcb
  have HL3 := lh hlt3
  clear hcb hlt3 HRES
  go_upto_region 4 with (go_at_call 77; (with_reducible refine (HS.out _).mono ?_); rintro e x1 ⟨rfl, hb1⟩; have HK := lh (HK0.out.step hb1); have ck := HK.out.ck; clear hb1)
  clear ck HK0 HS r0' s0' p0' h3'
  have HKx := HK
  generalize x1 = W1 at *
  clear HKx
  go_loopw [3] (fun v wr => ∃ k : Nat, k <= n1 /\ v = .int .i64 k /\ Hid (∀ j, j < k -> arrB (nm j) (sp j) (ty j) (ln j) = true) /\ Hid (OneK w 36 #[g, s, r, sl, p, .slice A1 n1 c1, .slice A2 n2 c2, .slice (some ⟨b3, o3, none⟩) n3 c3] wr)) (fun v _ => n1 - (intOf v).toNat)
  case atStart => exact ⟨0, Nat.zero_le _, rfl, lh (fun j hj => absurd hj (by omega)), HK⟩
  case round =>
   clear HK
   obtain ⟨k, hk, rfl, HJ, HK⟩ := hrel
   have ck := HK.out.ck
   by_cases hlt : k < n1
   . have hki : (k : Int) < (n1 : Int) := by omega
     obtain ⟨b1, o1, hA1, hlt1, hca⟩ := (HC.out.arr.at HK.out.below) (by omega)
     obtain ⟨m0, m1, m2, m3⟩ := hca k hlt
     subst hA1
     have HN := lh (fun W => name_any (nm k) W (HC.out.names k))
     have HAN := lh (fun (h : arrB (nm k) (sp k) (ty k) (ln k) = false) => show false = res from by rw [<- HR2.out, <- HZ1.out, all_no hlt h, Bool.false_and])
     have HAY := lh (fun (h : arrB (nm k) (sp k) (ty k) (ln k) = true) => one_more (P := fun j => arrB (nm j) (sp j) (ty j) (ln j) = true) HJ.out h)
     obtain ⟨xn, hxn⟩ : ∃ x, nm k = x := ⟨_, rfl⟩
     obtain ⟨xs, hxs⟩ : ∃ x, sp k = x := ⟨_, rfl⟩
     obtain ⟨xt, hxt⟩ : ∃ x, ty k = x := ⟨_, rfl⟩
     obtain ⟨xl, hxl⟩ : ∃ x, ln k = x := ⟨_, rfl⟩
     rw [hxn] at m0 HN
     rw [hxs] at m1
     rw [hxt] at m2
     rw [hxl] at m3
     rw [hxn, hxs, hxt, hxl] at HAN HAY
     clear hxn hxs hxt hxl hca hlt1
     go_upto_region 7 with (fail)
     have HKA := lh (HK.out.step (bo (.cells #[.string xn, xs, xt, xl] 91)))
     have h4 : (wr.alloc (.cells #[.string xn, xs, xt, xl] 91)).heap[wr.heap.size]? = some (.cells #[.string xn, xs, xt, xl] 91 (0, 0)) := heap_alloc_new _ _
     clear m0 m1 m2 m3 ck HK
     generalize (wr.alloc (.cells #[.string xn, xs, xt, xl] 91)) = W2 at *
     generalize wr.heap.size = b4 at *
     have y0 := cell_blk h4 (i := 0) rfl
     have y1 := cell_blk h4 (i := 1) rfl
     have y2 := cell_blk h4 (i := 2) rfl
     have y3 := cell_blk h4 (i := 3) rfl
     have HK := HKA
     clear h4
     unfold arrB at HAN HAY
     have H1 := fun (W : World) => between_any xs 1 3 W
     have H2 := fun (W : World) => between_any xt 1 3 W
     have H3 := fun (W : World) => between_any xl 1 4096 W
     replace HN := HN.out
     obtain ⟨u0, hu0⟩ : ∃ u, nameB xn = u := ⟨_, rfl⟩
     obtain ⟨u1, hu1⟩ : ∃ u, wthB xs 1 3 = u := ⟨_, rfl⟩
     obtain ⟨u2, hu2⟩ : ∃ u, wthB xt 1 3 = u := ⟨_, rfl⟩
     obtain ⟨u3, hu3⟩ : ∃ u, wthB xl 1 4096 = u := ⟨_, rfl⟩
     rw [hu0] at HN
     rw [hu1] at H1
     rw [hu2] at H2
     rw [hu3] at H3
     rw [hu0, hu1, hu2, hu3] at HAN HAY
     clear hu0 hu1 hu2 hu3
     replace HN := lh HN
     replace H1 := lh H1
     replace H2 := lh H2
     replace H3 := lh H3
     cases u0 with
     | false =>
      have HG := lh (HAN.out (by simp))
      go_wp2_with (((first | go_at_call 78 | go_at_call 79); (with_reducible first | refine (HN.out _).mono ?_ | refine (H1.out _).mono ?_ | refine (H2.out _).mono ?_ | refine (H3.out _).mono ?_); rintro e x1 ⟨rfl, rfl⟩))
      go_ret
      exact ⟨ret_b HG.out, HK.out.below⟩
     | true =>
      cases u1 with
      | false =>
       have HG := lh (HAN.out (by simp))
       go_wp2_with (((first | go_at_call 78 | go_at_call 79); (with_reducible first | refine (HN.out _).mono ?_ | refine (H1.out _).mono ?_ | refine (H2.out _).mono ?_ | refine (H3.out _).mono ?_); rintro e x1 ⟨rfl, rfl⟩))
       go_ret
       exact ⟨ret_b HG.out, HK.out.below⟩
      | true =>
       cases u2 with
       | false =>
        have HG := lh (HAN.out (by simp))
        go_wp2_with (((first | go_at_call 78 | go_at_call 79); (with_reducible first | refine (HN.out _).mono ?_ | refine (H1.out _).mono ?_ | refine (H2.out _).mono ?_ | refine (H3.out _).mono ?_); rintro e x1 ⟨rfl, rfl⟩))
        go_ret
        exact ⟨ret_b HG.out, HK.out.below⟩
       | true =>
        cases u3 with
        | false =>
         have HG := lh (HAN.out (by simp))
         go_wp2_with (((first | go_at_call 78 | go_at_call 79); (with_reducible first | refine (HN.out _).mono ?_ | refine (H1.out _).mono ?_ | refine (H2.out _).mono ?_ | refine (H3.out _).mono ?_); rintro e x1 ⟨rfl, rfl⟩))
         go_ret
         exact ⟨ret_b HG.out, HK.out.below⟩
        | true =>
         have HG := lh (HAY.out rfl)
         go_wp2_with (((first | go_at_call 78 | go_at_call 79); (with_reducible first | refine (HN.out _).mono ?_ | refine (H1.out _).mono ?_ | refine (H2.out _).mono ?_ | refine (H3.out _).mono ?_); rintro e x1 ⟨rfl, rfl⟩))
         go_roundw
         case rel => exact ⟨k + 1, by omega, by go_num, HG, HK⟩
         case measure => simp [intOf]; omega
   . obtain rfl : k = n1 := by omega
     have hki : ¬ (k : Int) < (k : Int) := by omega
     have HZ := lh (show z1 = true from by rw [<- HZ1.out]; exact all_yes HJ.out)
     go_upto_region 10 with (fail)
     clear ck hki
     go_loopw [5] (fun v wy => ∃ m : Nat, m <= n2 /\ v = .int .i64 m /\ Hid (∀ j, j < m -> loopB r n3 (hd j) (rg j) (bd j) = true) /\ Hid (OneK w 36 #[g, s, r, sl, p, .slice A1 k c1, .slice A2 n2 c2, .slice (some ⟨b3, o3, none⟩) n3 c3] wy)) (fun v _ => n2 - (intOf v).toNat)
     case atStart => exact ⟨0, Nat.zero_le _, rfl, lh (fun j hj => absurd hj (by omega)), HK⟩
     case round =>
      clear HK
      obtain ⟨m, hm, rfl, HM, HK⟩ := hrel
      have ck := HK.out.ck
      by_cases hlm : m < n2
      . have hmi : (m : Int) < (n2 : Int) := by omega
        obtain ⟨b2, o2, hA2, hlt2, hcl⟩ := (HC.out.loops.at HK.out.below) (by omega)
        obtain ⟨m0, m1, m2⟩ := hcl m hlm
        subst hA2
        have HAN := lh (fun (h : loopB r n3 (hd m) (rg m) (bd m) = false) => show false = res from by rw [<- HR2.out, HZ.out, <- HZ2.out, all_no hlm h]; rfl)
        have HAY := lh (fun (h : loopB r n3 (hd m) (rg m) (bd m) = true) => one_more (P := fun j => loopB r n3 (hd j) (rg j) (bd j) = true) HM.out h)
        obtain ⟨xh, hxh⟩ : ∃ x, hd m = x := ⟨_, rfl⟩
        obtain ⟨xr, hxr⟩ : ∃ x, rg m = x := ⟨_, rfl⟩
        obtain ⟨xb, hxb⟩ : ∃ x, bd m = x := ⟨_, rfl⟩
        rw [hxh] at m0
        rw [hxr] at m1
        rw [hxb] at m2
        rw [hxh, hxr, hxb] at HAN HAY
        clear hxh hxr hxb hcl hlt2
        go_upto_region 13 with (fail)
        have HKA := lh (HK.out.step (bo (.cells #[xh, xr, xb] 85)))
        have h6 : (wr.alloc (.cells #[xh, xr, xb] 85)).heap[wr.heap.size]? = some (.cells #[xh, xr, xb] 85 (0, 0)) := heap_alloc_new _ _
        clear m0 m1 m2 ck HK
        generalize (wr.alloc (.cells #[xh, xr, xb] 85)) = W2 at *
        generalize wr.heap.size = b6 at *
        have y0 := cell_blk h6 (i := 0) rfl
        have y1 := cell_blk h6 (i := 1) rfl
        have y2 := cell_blk h6 (i := 2) rfl
        have H6 := lh h6
        have HK := HKA
        have ck := HK.out.ck
        clear h6 HKA
        unfold loopB at HAN HAY
        have H0 := fun (W : World) => target_any g s r sl p k c1 n2 c2 n3 c3 (A1) (some ⟨b2, o2, none⟩) (some ⟨b3, o3, none⟩) xh W hn3
        have H1 := fun (W : World) => between_any xr 0 (r - 1) W
        have H2 := fun (W : World) => between_any xb 1 1024 W
        obtain ⟨u0, hu0⟩ : ∃ u, wthB xh 0 ((n3 : Int) - 1) = u := ⟨_, rfl⟩
        obtain ⟨u1, hu1⟩ : ∃ u, wthB xr 0 (r - 1) = u := ⟨_, rfl⟩
        obtain ⟨u2, hu2⟩ : ∃ u, wthB xb 1 1024 = u := ⟨_, rfl⟩
        rw [hu0] at H0
        rw [hu1] at H1
        rw [hu2] at H2
        rw [hu0, hu1, hu2] at HAN HAY
        clear hu0 hu1 hu2
        replace H0 := lh H0
        replace H1 := lh H1
        replace H2 := lh H2
        cases u0 with
        | false =>
         have HG := lh (HAN.out (by simp))
         go_wp2_with (first | (go_at_call 80; (with_reducible refine (H0.out _).mono ?_); rintro e x1 ⟨rfl, hbx⟩; have hy := (hbx.block _ (Array.getElem?_eq_some_iff.1 H6.out).1).trans H6.out; have z0_ := cell_blk hy (i := 0) rfl; have z1_ := cell_blk hy (i := 1) rfl; have z2_ := cell_blk hy (i := 2) rfl; have HK2 := lh (HK.out.step hbx); have ck2 := HK2.out.ck; clear hbx hy) | (go_at_call 79; (with_reducible first | refine (H1.out _).mono ?_ | refine (H2.out _).mono ?_); rintro e x2 ⟨rfl, rfl⟩))
         go_ret
         exact ⟨ret_b HG.out, HK2.out.below⟩
        | true =>
         cases u1 with
         | false =>
          have HG := lh (HAN.out (by simp))
          go_wp2_with (first | (go_at_call 80; (with_reducible refine (H0.out _).mono ?_); rintro e x1 ⟨rfl, hbx⟩; have hy := (hbx.block _ (Array.getElem?_eq_some_iff.1 H6.out).1).trans H6.out; have z0_ := cell_blk hy (i := 0) rfl; have z1_ := cell_blk hy (i := 1) rfl; have z2_ := cell_blk hy (i := 2) rfl; have HK2 := lh (HK.out.step hbx); have ck2 := HK2.out.ck; clear hbx hy) | (go_at_call 79; (with_reducible first | refine (H1.out _).mono ?_ | refine (H2.out _).mono ?_); rintro e x2 ⟨rfl, rfl⟩))
          go_ret
          exact ⟨ret_b HG.out, HK2.out.below⟩
         | true =>
          cases u2 with
          | false =>
           have HG := lh (HAN.out (by simp))
           go_wp2_with (first | (go_at_call 80; (with_reducible refine (H0.out _).mono ?_); rintro e x1 ⟨rfl, hbx⟩; have hy := (hbx.block _ (Array.getElem?_eq_some_iff.1 H6.out).1).trans H6.out; have z0_ := cell_blk hy (i := 0) rfl; have z1_ := cell_blk hy (i := 1) rfl; have z2_ := cell_blk hy (i := 2) rfl; have HK2 := lh (HK.out.step hbx); have ck2 := HK2.out.ck; clear hbx hy) | (go_at_call 79; (with_reducible first | refine (H1.out _).mono ?_ | refine (H2.out _).mono ?_); rintro e x2 ⟨rfl, rfl⟩))
           go_ret
           exact ⟨ret_b HG.out, HK2.out.below⟩
          | true =>
           have HG := lh (HAY.out rfl)
           go_wp2_with (first | (go_at_call 80; (with_reducible refine (H0.out _).mono ?_); rintro e x1 ⟨rfl, hbx⟩; have hy := (hbx.block _ (Array.getElem?_eq_some_iff.1 H6.out).1).trans H6.out; have z0_ := cell_blk hy (i := 0) rfl; have z1_ := cell_blk hy (i := 1) rfl; have z2_ := cell_blk hy (i := 2) rfl; have HK2 := lh (HK.out.step hbx); have ck2 := HK2.out.ck; clear hbx hy) | (go_at_call 79; (with_reducible first | refine (H1.out _).mono ?_ | refine (H2.out _).mono ?_); rintro e x2 ⟨rfl, rfl⟩))
           go_roundw
           case rel => exact ⟨m + 1, by omega, by go_num, HG, HK2⟩
           case measure => simp [intOf]; omega
      . obtain rfl : m = n2 := by omega
        have hmi : ¬ (m : Int) < (m : Int) := by omega
        have HZ' := lh (show z2 = true from by rw [<- HZ2.out]; exact all_yes HM.out)
        go_upto_region 16 with (fail)
        clear ck hmi
        go_loopw [7] (fun v wz => ∃ b : Nat, b <= n3 /\ v = .int .i64 b /\ Hid (∀ j, j < b -> blockB p sl r k n3 sp (IL j) (I j) (T j) = true) /\ Hid (OneK w 36 #[g, s, r, sl, p, .slice A1 k c1, .slice A2 m c2, .slice (some ⟨b3, o3, none⟩) n3 c3] wz)) (fun v _ => n3 - (intOf v).toNat)
        case atStart => exact ⟨0, Nat.zero_le _, rfl, lh (fun j hj => absurd hj (by omega)), HK⟩
        case round =>
         clear HK
         obtain ⟨b, hb, rfl, HBB, HK⟩ := hrel
         have ck := HK.out.ck
         by_cases hlb : b < n3
         . have hbi : (b : Int) < (n3 : Int) := by omega
           have HAN := lh (fun (h : blockB p sl r k n3 sp (IL b) (I b) (T b) = false) => show false = res from by rw [<- HR2.out, HZ.out, HZ'.out, <- HZ3.out, all_no hlb h]; rfl)
           have HAY := lh (fun (h : blockB p sl r k n3 sp (IL b) (I b) (T b) = true) => one_more (P := fun j => blockB p sl r k n3 sp (IL j) (I j) (T j) = true) HBB.out h)
           have HIN := lh (HC.out.insts b hlb)
           have HLN := lh (HC.out.lens b hlb)
           have hcx := HCB.out b hlb
           obtain ⟨t, ht⟩ : ∃ t, T b = t := ⟨_, rfl⟩
           obtain ⟨AI, hAI⟩ : ∃ A, IA b = A := ⟨_, rfl⟩
           obtain ⟨ni, hni⟩ : ∃ n, IL b = n := ⟨_, rfl⟩
           obtain ⟨ci, hci⟩ : ∃ n, IC b = n := ⟨_, rfl⟩
           rw [hAI, hni, hci, ht] at hcx
           rw [hAI, hni] at HIN
           rw [hni] at HLN
           rw [hni, ht] at HAN HAY
           have HCX := lh (show ∀ V, Below w.heap.size w V -> V.cell? ⟨b3, o3 + b * 14, none⟩ = some (.slice AI ni ci) /\ (fun w' => w'.cell? ⟨b3, o3 + b * 14 + 1, none⟩ = some (.int .i64 t.kind) /\ w'.cell? ⟨b3, o3 + b * 14 + 2, none⟩ = some (.int .i64 t.sub) /\ w'.cell? ⟨b3, o3 + b * 14 + 3, none⟩ = some (.int .i64 t.d.k) /\ w'.cell? ⟨b3, o3 + b * 14 + 4, none⟩ = some (.int .i64 t.d.n) /\ w'.cell? ⟨b3, o3 + b * 14 + 5, none⟩ = some (.int .i32 t.d.v) /\ w'.cell? ⟨b3, o3 + b * 14 + 6, none⟩ = some (.int .i64 t.a.k) /\ w'.cell? ⟨b3, o3 + b * 14 + 7, none⟩ = some (.int .i64 t.a.n) /\ w'.cell? ⟨b3, o3 + b * 14 + 8, none⟩ = some (.int .i32 t.a.v) /\ w'.cell? ⟨b3, o3 + b * 14 + 9, none⟩ = some (.int .i64 t.b.k) /\ w'.cell? ⟨b3, o3 + b * 14 + 10, none⟩ = some (.int .i64 t.b.n) /\ w'.cell? ⟨b3, o3 + b * 14 + 11, none⟩ = some (.int .i32 t.b.v) /\ w'.cell? ⟨b3, o3 + b * 14 + 12, none⟩ = some (.int .i64 t.t0) /\ w'.cell? ⟨b3, o3 + b * 14 + 13, none⟩ = some (.int .i64 t.t1)) V from fun V hV => by
            have kk : ∀ o, V.cell? ⟨b3, o, none⟩ = w.cell? ⟨b3, o, none⟩ := fun o => hV.cell (p := ⟨b3, o, none⟩) HL3.out
            obtain ⟨h0, h1, h2, h3, h4, h5, h6, h7, h8, h9, h10, h11, h12, h13⟩ := hcx
            exact ⟨(kk _).trans h0, (kk _).trans h1, (kk _).trans h2, (kk _).trans h3, (kk _).trans h4, (kk _).trans h5, (kk _).trans h6, (kk _).trans h7, (kk _).trans h8, (kk _).trans h9, (kk _).trans h10, (kk _).trans h11, (kk _).trans h12, (kk _).trans h13⟩)
           have hnl := HLN.out
           clear hcx ht hAI hni hci
           have m0 := (HCX.out _ HK.out.below).1
           go_upto_region 19 with (fail)
           clear m0 ck
           obtain ⟨wo, rfl⟩ : ∃ wo : World, wo = wr := ⟨_, rfl⟩
           go_loopw [8] (fun v wz => ∃ q : Nat, q <= ni /\ v = .int .i64 q /\ Hid (∀ j, j < q -> instB p sl r k n3 sp (I b j) = true) /\ Hid (OneK w 36 #[g, s, r, sl, p, .slice A1 k c1, .slice A2 m c2, .slice (some ⟨b3, o3, none⟩) n3 c3] wz)) (fun v _ => ni - (intOf v).toNat)
           case atStart => exact ⟨0, Nat.zero_le _, rfl, lh (fun j hj => absurd hj (by omega)), HK⟩
           case round =>
            clear HK
            obtain ⟨q, hq, rfl, HQ, HK⟩ := hrel
            have ck := HK.out.ck
            have m0 := (HCX.out _ HK.out.below).1
            by_cases hlq : q < ni
            . have hqi : (q : Int) < (ni : Int) := by omega
              obtain ⟨bI, oI, hAI, hltI, hcI⟩ := HIN.out (by omega)
              subst hAI
              obtain ⟨i, hi⟩ : ∃ i, I b q = i := ⟨_, rfl⟩
              have hcq := hcI q hlq
              rw [hi] at hcq
              have HTS := lh (show ∀ V, Below wr.heap.size wr V -> (fun w' => w'.cell? ⟨w.heap.size, 0, none⟩ = some (.int .i64 g) /\ w'.cell? ⟨w.heap.size, 1, none⟩ = some (.int .i64 s) /\ w'.cell? ⟨w.heap.size, 2, none⟩ = some (.int .i64 r) /\ w'.cell? ⟨w.heap.size, 3, none⟩ = some (.int .i64 sl) /\ w'.cell? ⟨w.heap.size, 4, none⟩ = some (.int .i64 p) /\ w'.cell? ⟨w.heap.size, 5, none⟩ = some (.slice A1 k c1) /\ w'.cell? ⟨w.heap.size, 6, none⟩ = some (.slice A2 m c2) /\ w'.cell? ⟨w.heap.size, 7, none⟩ = some (.slice (some ⟨b3, o3, none⟩) n3 c3) /\ w'.cell? ⟨b3, o3 + b * 14, none⟩ = some (.slice (some ⟨bI, oI, none⟩) ni ci) /\ w'.cell? ⟨bI, oI + q * 15, none⟩ = some (.int .i64 i.op) /\ w'.cell? ⟨bI, oI + q * 15 + 1, none⟩ = some (.int .i64 i.sub) /\ w'.cell? ⟨bI, oI + q * 15 + 2, none⟩ = some (.int .i64 i.n) /\ w'.cell? ⟨bI, oI + q * 15 + 3, none⟩ = some (.int .i64 i.d.k) /\ w'.cell? ⟨bI, oI + q * 15 + 4, none⟩ = some (.int .i64 i.d.n) /\ w'.cell? ⟨bI, oI + q * 15 + 5, none⟩ = some (.int .i32 i.d.v) /\ w'.cell? ⟨bI, oI + q * 15 + 6, none⟩ = some (.int .i64 i.a.k) /\ w'.cell? ⟨bI, oI + q * 15 + 7, none⟩ = some (.int .i64 i.a.n) /\ w'.cell? ⟨bI, oI + q * 15 + 8, none⟩ = some (.int .i32 i.a.v) /\ w'.cell? ⟨bI, oI + q * 15 + 9, none⟩ = some (.int .i64 i.b.k) /\ w'.cell? ⟨bI, oI + q * 15 + 10, none⟩ = some (.int .i64 i.b.n) /\ w'.cell? ⟨bI, oI + q * 15 + 11, none⟩ = some (.int .i32 i.b.v) /\ w'.cell? ⟨bI, oI + q * 15 + 12, none⟩ = some (.int .i64 i.c.k) /\ w'.cell? ⟨bI, oI + q * 15 + 13, none⟩ = some (.int .i64 i.c.n) /\ w'.cell? ⟨bI, oI + q * 15 + 14, none⟩ = some (.int .i32 i.c.v)) V from fun V hV => by
               have hk := HK.out.step hV
               have hw := hk.below
               have kk : ∀ o, V.cell? ⟨bI, o, none⟩ = w.cell? ⟨bI, o, none⟩ := fun o => hw.cell (p := ⟨bI, o, none⟩) hltI
               obtain ⟨h0, h1, h2, h3, h4, h5, h6, h7, h8, h9, h10, h11, h12, h13, h14⟩ := hcq
               exact ⟨hk.ck 0, hk.ck 1, hk.ck 2, hk.ck 3, hk.ck 4, hk.ck 5, hk.ck 6, hk.ck 7, (HCX.out _ hw).1, (kk _).trans h0, (kk _).trans h1, (kk _).trans h2, (kk _).trans h3, (kk _).trans h4, (kk _).trans h5, (kk _).trans h6, (kk _).trans h7, (kk _).trans h8, (kk _).trans h9, (kk _).trans h10, (kk _).trans h11, (kk _).trans h12, (kk _).trans h13, (kk _).trans h14⟩)
              have HBc := lh (show Below wr.heap.size wr wr.drew from ⟨rfl, rfl, rfl, Nat.le_refl _, fun _ _ => rfl⟩)
              have HI := fun (V : World) (hV : Below wr.heap.size wr V) => inst_r g s r sl p k c1 m c2 n3 c3 A1 A2 (some ⟨b3, o3, none⟩) nm sp ty ln i V r0 r1 p0 p1 s0 s1 hn1 (HC.out.arr.at (HK.out.step hV).below)
              have HAN2 := lh (fun (h : instB p sl r k n3 sp i = false) => HAN.out (by unfold blockB; rw [all_no (f := fun j => instB p sl r k n3 sp (I b j)) hlq (by rw [hi]; exact h), Bool.false_and]))
              have HAY2 := lh (fun (h : instB p sl r k n3 sp i = true) => one_more (P := fun j => instB p sl r k n3 sp (I b j) = true) HQ.out (by rw [hi]; exact h))
              have hie := instR_eq p sl r k n3 sp i
              clear hcI hcq hltI hi
              simp only [InstV.val] at HI
              rw [hie] at HI
              clear hie
              cases hv : instB p sl r k n3 sp i with
              | true =>
               rw [hv] at HI
               replace HI := lh HI
               have HG := lh (HAY2.out hv)
               clear hv
               go_upto_region 21 with (fail)
               clear ck m0
               refine wp_region_held_drew (S := (fun w' => w'.cell? ⟨w.heap.size, 0, none⟩ = some (.int .i64 g) /\ w'.cell? ⟨w.heap.size, 1, none⟩ = some (.int .i64 s) /\ w'.cell? ⟨w.heap.size, 2, none⟩ = some (.int .i64 r) /\ w'.cell? ⟨w.heap.size, 3, none⟩ = some (.int .i64 sl) /\ w'.cell? ⟨w.heap.size, 4, none⟩ = some (.int .i64 p) /\ w'.cell? ⟨w.heap.size, 5, none⟩ = some (.slice A1 k c1) /\ w'.cell? ⟨w.heap.size, 6, none⟩ = some (.slice A2 m c2) /\ w'.cell? ⟨w.heap.size, 7, none⟩ = some (.slice (some ⟨b3, o3, none⟩) n3 c3) /\ w'.cell? ⟨b3, o3 + b * 14, none⟩ = some (.slice (some ⟨bI, oI, none⟩) ni ci) /\ w'.cell? ⟨bI, oI + q * 15, none⟩ = some (.int .i64 i.op) /\ w'.cell? ⟨bI, oI + q * 15 + 1, none⟩ = some (.int .i64 i.sub) /\ w'.cell? ⟨bI, oI + q * 15 + 2, none⟩ = some (.int .i64 i.n) /\ w'.cell? ⟨bI, oI + q * 15 + 3, none⟩ = some (.int .i64 i.d.k) /\ w'.cell? ⟨bI, oI + q * 15 + 4, none⟩ = some (.int .i64 i.d.n) /\ w'.cell? ⟨bI, oI + q * 15 + 5, none⟩ = some (.int .i32 i.d.v) /\ w'.cell? ⟨bI, oI + q * 15 + 6, none⟩ = some (.int .i64 i.a.k) /\ w'.cell? ⟨bI, oI + q * 15 + 7, none⟩ = some (.int .i64 i.a.n) /\ w'.cell? ⟨bI, oI + q * 15 + 8, none⟩ = some (.int .i32 i.a.v) /\ w'.cell? ⟨bI, oI + q * 15 + 9, none⟩ = some (.int .i64 i.b.k) /\ w'.cell? ⟨bI, oI + q * 15 + 10, none⟩ = some (.int .i64 i.b.n) /\ w'.cell? ⟨bI, oI + q * 15 + 11, none⟩ = some (.int .i32 i.b.v) /\ w'.cell? ⟨bI, oI + q * 15 + 12, none⟩ = some (.int .i64 i.c.k) /\ w'.cell? ⟨bI, oI + q * 15 + 13, none⟩ = some (.int .i64 i.c.n) /\ w'.cell? ⟨bI, oI + q * 15 + 14, none⟩ = some (.int .i32 i.c.v))) (by kernel_rfl) ?_ (fun hHeld => ?_)
               . (try dsimp only); exact HTS.out _ HBc.out
               refine tk 0 ?_
               refine tk 1 ?_
               refine tk 2 ?_
               refine tk 3 ?_
               refine tk 4 ?_
               refine tk 5 ?_
               refine tk 6 ?_
               refine tk 7 ?_
               refine tk 8 ?_
               refine tk 9 ?_
               refine an 10 (fun K hK => ?_)
               go_simp
               (go_at_call 81; refine (HI.out _ HBc.out).mono ?_; rintro e wv ⟨rfl, hbx⟩; replace HBc := lh (HBc.out.trans (hbx.mono HBc.out.size)); clear hbx)
               try go_wp2_with fail
               refine hK.out _ _ ?_ (fun hHeld => ?_)
               . (try dsimp only); exact HTS.out _ HBc.out
               clear hK K
               try simp only [pe]
               refine tk 11 ?_
               refine wpAnyH_done (by kernel_rfl) ?_ _
               go_wp2
               go_roundw
               case rel => exact ⟨q + 1, by omega, by go_num, HG, lh (HK.out.step HBc.out)⟩
               case measure => simp [intOf]; omega
              | false =>
               rw [hv] at HI
               replace HI := lh HI
               have HG := lh (HAN2.out hv)
               clear hv
               go_upto_region 21 with (fail)
               clear ck m0
               refine wp_region_held_drew (S := (fun w' => w'.cell? ⟨w.heap.size, 0, none⟩ = some (.int .i64 g) /\ w'.cell? ⟨w.heap.size, 1, none⟩ = some (.int .i64 s) /\ w'.cell? ⟨w.heap.size, 2, none⟩ = some (.int .i64 r) /\ w'.cell? ⟨w.heap.size, 3, none⟩ = some (.int .i64 sl) /\ w'.cell? ⟨w.heap.size, 4, none⟩ = some (.int .i64 p) /\ w'.cell? ⟨w.heap.size, 5, none⟩ = some (.slice A1 k c1) /\ w'.cell? ⟨w.heap.size, 6, none⟩ = some (.slice A2 m c2) /\ w'.cell? ⟨w.heap.size, 7, none⟩ = some (.slice (some ⟨b3, o3, none⟩) n3 c3) /\ w'.cell? ⟨b3, o3 + b * 14, none⟩ = some (.slice (some ⟨bI, oI, none⟩) ni ci) /\ w'.cell? ⟨bI, oI + q * 15, none⟩ = some (.int .i64 i.op) /\ w'.cell? ⟨bI, oI + q * 15 + 1, none⟩ = some (.int .i64 i.sub) /\ w'.cell? ⟨bI, oI + q * 15 + 2, none⟩ = some (.int .i64 i.n) /\ w'.cell? ⟨bI, oI + q * 15 + 3, none⟩ = some (.int .i64 i.d.k) /\ w'.cell? ⟨bI, oI + q * 15 + 4, none⟩ = some (.int .i64 i.d.n) /\ w'.cell? ⟨bI, oI + q * 15 + 5, none⟩ = some (.int .i32 i.d.v) /\ w'.cell? ⟨bI, oI + q * 15 + 6, none⟩ = some (.int .i64 i.a.k) /\ w'.cell? ⟨bI, oI + q * 15 + 7, none⟩ = some (.int .i64 i.a.n) /\ w'.cell? ⟨bI, oI + q * 15 + 8, none⟩ = some (.int .i32 i.a.v) /\ w'.cell? ⟨bI, oI + q * 15 + 9, none⟩ = some (.int .i64 i.b.k) /\ w'.cell? ⟨bI, oI + q * 15 + 10, none⟩ = some (.int .i64 i.b.n) /\ w'.cell? ⟨bI, oI + q * 15 + 11, none⟩ = some (.int .i32 i.b.v) /\ w'.cell? ⟨bI, oI + q * 15 + 12, none⟩ = some (.int .i64 i.c.k) /\ w'.cell? ⟨bI, oI + q * 15 + 13, none⟩ = some (.int .i64 i.c.n) /\ w'.cell? ⟨bI, oI + q * 15 + 14, none⟩ = some (.int .i32 i.c.v))) (by kernel_rfl) ?_ (fun hHeld => ?_)
               . (try dsimp only); exact HTS.out _ HBc.out
               refine tk 0 ?_
               refine tk 1 ?_
               refine tk 2 ?_
               refine tk 3 ?_
               refine tk 4 ?_
               refine tk 5 ?_
               refine tk 6 ?_
               refine tk 7 ?_
               refine tk 8 ?_
               refine tk 9 ?_
               refine an 10 (fun K hK => ?_)
               go_simp
               (go_at_call 81; refine (HI.out _ HBc.out).mono ?_; rintro e wv ⟨rfl, hbx⟩; replace HBc := lh (HBc.out.trans (hbx.mono HBc.out.size)); clear hbx)
               try go_wp2_with fail
               refine hK.out _ _ ?_ (fun hHeld => ?_)
               . (try dsimp only); exact HTS.out _ HBc.out
               clear hK K
               try simp only [pe]
               refine tk 11 ?_
               refine wpAnyH_done (by kernel_rfl) ?_ _
               go_wp2
               go_ret
               exact ⟨ret_b HG.out, (HK.out.step HBc.out).below⟩
            . obtain rfl : q = ni := by omega
              have hqi : ¬ (q : Int) < (q : Int) := by omega
              have HTS := lh (show ∀ V, Below wr.heap.size wr V -> (fun w' => w'.cell? ⟨w.heap.size, 0, none⟩ = some (.int .i64 g) /\ w'.cell? ⟨w.heap.size, 1, none⟩ = some (.int .i64 s) /\ w'.cell? ⟨w.heap.size, 2, none⟩ = some (.int .i64 r) /\ w'.cell? ⟨w.heap.size, 3, none⟩ = some (.int .i64 sl) /\ w'.cell? ⟨w.heap.size, 4, none⟩ = some (.int .i64 p) /\ w'.cell? ⟨w.heap.size, 5, none⟩ = some (.slice A1 k c1) /\ w'.cell? ⟨w.heap.size, 6, none⟩ = some (.slice A2 m c2) /\ w'.cell? ⟨w.heap.size, 7, none⟩ = some (.slice (some ⟨b3, o3, none⟩) n3 c3) /\ w'.cell? ⟨b3, o3 + b * 14 + 1, none⟩ = some (.int .i64 t.kind) /\ w'.cell? ⟨b3, o3 + b * 14 + 2, none⟩ = some (.int .i64 t.sub) /\ w'.cell? ⟨b3, o3 + b * 14 + 3, none⟩ = some (.int .i64 t.d.k) /\ w'.cell? ⟨b3, o3 + b * 14 + 4, none⟩ = some (.int .i64 t.d.n) /\ w'.cell? ⟨b3, o3 + b * 14 + 5, none⟩ = some (.int .i32 t.d.v) /\ w'.cell? ⟨b3, o3 + b * 14 + 6, none⟩ = some (.int .i64 t.a.k) /\ w'.cell? ⟨b3, o3 + b * 14 + 7, none⟩ = some (.int .i64 t.a.n) /\ w'.cell? ⟨b3, o3 + b * 14 + 8, none⟩ = some (.int .i32 t.a.v) /\ w'.cell? ⟨b3, o3 + b * 14 + 9, none⟩ = some (.int .i64 t.b.k) /\ w'.cell? ⟨b3, o3 + b * 14 + 10, none⟩ = some (.int .i64 t.b.n) /\ w'.cell? ⟨b3, o3 + b * 14 + 11, none⟩ = some (.int .i32 t.b.v) /\ w'.cell? ⟨b3, o3 + b * 14 + 12, none⟩ = some (.int .i64 t.t0) /\ w'.cell? ⟨b3, o3 + b * 14 + 13, none⟩ = some (.int .i64 t.t1)) V from fun V hV => by
               have hk := HK.out.step hV
               exact ⟨hk.ck 0, hk.ck 1, hk.ck 2, hk.ck 3, hk.ck 4, hk.ck 5, hk.ck 6, hk.ck 7, (HCX.out _ hk.below).2⟩)
              have HBc := lh (show Below wr.heap.size wr wr.drew from ⟨rfl, rfl, rfl, Nat.le_refl _, fun _ _ => rfl⟩)
              have HT := fun (V : World) => term_r g s r sl p k c1 m c2 n3 c3 A1 A2 (some ⟨b3, o3, none⟩) t V r0 r1 hn3
              have hte := endR_eq p sl r k n3 sp t
              have HBQ := lh (show ∀ u, endB p sl r k n3 sp t = u -> blockB p sl r k n3 sp q (I b) t = u from fun u hu => by unfold blockB; rw [all_yes HQ.out, hu, Bool.true_and])
              simp only [TermV.val] at HT
              rw [hte] at HT
              clear hte
              cases hv : endB p sl r k n3 sp t with
              | true =>
               rw [hv] at HT
               replace HT := lh HT
               have HG := lh (HAY.out (HBQ.out _ hv))
               clear hv
               go_upto_region 23 with (fail)
               clear ck m0
               refine wp_region_held_drew (S := (fun w' => w'.cell? ⟨w.heap.size, 0, none⟩ = some (.int .i64 g) /\ w'.cell? ⟨w.heap.size, 1, none⟩ = some (.int .i64 s) /\ w'.cell? ⟨w.heap.size, 2, none⟩ = some (.int .i64 r) /\ w'.cell? ⟨w.heap.size, 3, none⟩ = some (.int .i64 sl) /\ w'.cell? ⟨w.heap.size, 4, none⟩ = some (.int .i64 p) /\ w'.cell? ⟨w.heap.size, 5, none⟩ = some (.slice A1 k c1) /\ w'.cell? ⟨w.heap.size, 6, none⟩ = some (.slice A2 m c2) /\ w'.cell? ⟨w.heap.size, 7, none⟩ = some (.slice (some ⟨b3, o3, none⟩) n3 c3) /\ w'.cell? ⟨b3, o3 + b * 14 + 1, none⟩ = some (.int .i64 t.kind) /\ w'.cell? ⟨b3, o3 + b * 14 + 2, none⟩ = some (.int .i64 t.sub) /\ w'.cell? ⟨b3, o3 + b * 14 + 3, none⟩ = some (.int .i64 t.d.k) /\ w'.cell? ⟨b3, o3 + b * 14 + 4, none⟩ = some (.int .i64 t.d.n) /\ w'.cell? ⟨b3, o3 + b * 14 + 5, none⟩ = some (.int .i32 t.d.v) /\ w'.cell? ⟨b3, o3 + b * 14 + 6, none⟩ = some (.int .i64 t.a.k) /\ w'.cell? ⟨b3, o3 + b * 14 + 7, none⟩ = some (.int .i64 t.a.n) /\ w'.cell? ⟨b3, o3 + b * 14 + 8, none⟩ = some (.int .i32 t.a.v) /\ w'.cell? ⟨b3, o3 + b * 14 + 9, none⟩ = some (.int .i64 t.b.k) /\ w'.cell? ⟨b3, o3 + b * 14 + 10, none⟩ = some (.int .i64 t.b.n) /\ w'.cell? ⟨b3, o3 + b * 14 + 11, none⟩ = some (.int .i32 t.b.v) /\ w'.cell? ⟨b3, o3 + b * 14 + 12, none⟩ = some (.int .i64 t.t0) /\ w'.cell? ⟨b3, o3 + b * 14 + 13, none⟩ = some (.int .i64 t.t1))) (by kernel_rfl) ?_ (fun hHeld => ?_)
               . (try dsimp only); exact HTS.out _ HBc.out
               refine tk 0 ?_
               refine tk 1 ?_
               refine tk 2 ?_
               refine tk 3 ?_
               refine tk 4 ?_
               refine tk 5 ?_
               refine tk 6 ?_
               refine an 7 (fun K hK => ?_)
               go_simp
               (go_at_call 82; refine (HT.out _).mono ?_; rintro e wv ⟨rfl, hbx⟩; replace HBc := lh (HBc.out.trans (hbx.mono HBc.out.size)); clear hbx)
               try go_wp2_with fail
               refine hK.out _ _ ?_ (fun hHeld => ?_)
               . (try dsimp only); exact HTS.out _ HBc.out
               clear hK K
               try simp only [pe]
               refine tk 8 ?_
               refine wpAnyH_done (by kernel_rfl) ?_ _
               go_wp2
               go_roundw
               case rel => exact ⟨b + 1, by omega, by go_num, HG, lh (HK.out.step HBc.out)⟩
               case measure => simp [intOf]; omega
              | false =>
               rw [hv] at HT
               replace HT := lh HT
               have HG := lh (HAN.out (HBQ.out _ hv))
               clear hv
               go_upto_region 23 with (fail)
               clear ck m0
               refine wp_region_held_drew (S := (fun w' => w'.cell? ⟨w.heap.size, 0, none⟩ = some (.int .i64 g) /\ w'.cell? ⟨w.heap.size, 1, none⟩ = some (.int .i64 s) /\ w'.cell? ⟨w.heap.size, 2, none⟩ = some (.int .i64 r) /\ w'.cell? ⟨w.heap.size, 3, none⟩ = some (.int .i64 sl) /\ w'.cell? ⟨w.heap.size, 4, none⟩ = some (.int .i64 p) /\ w'.cell? ⟨w.heap.size, 5, none⟩ = some (.slice A1 k c1) /\ w'.cell? ⟨w.heap.size, 6, none⟩ = some (.slice A2 m c2) /\ w'.cell? ⟨w.heap.size, 7, none⟩ = some (.slice (some ⟨b3, o3, none⟩) n3 c3) /\ w'.cell? ⟨b3, o3 + b * 14 + 1, none⟩ = some (.int .i64 t.kind) /\ w'.cell? ⟨b3, o3 + b * 14 + 2, none⟩ = some (.int .i64 t.sub) /\ w'.cell? ⟨b3, o3 + b * 14 + 3, none⟩ = some (.int .i64 t.d.k) /\ w'.cell? ⟨b3, o3 + b * 14 + 4, none⟩ = some (.int .i64 t.d.n) /\ w'.cell? ⟨b3, o3 + b * 14 + 5, none⟩ = some (.int .i32 t.d.v) /\ w'.cell? ⟨b3, o3 + b * 14 + 6, none⟩ = some (.int .i64 t.a.k) /\ w'.cell? ⟨b3, o3 + b * 14 + 7, none⟩ = some (.int .i64 t.a.n) /\ w'.cell? ⟨b3, o3 + b * 14 + 8, none⟩ = some (.int .i32 t.a.v) /\ w'.cell? ⟨b3, o3 + b * 14 + 9, none⟩ = some (.int .i64 t.b.k) /\ w'.cell? ⟨b3, o3 + b * 14 + 10, none⟩ = some (.int .i64 t.b.n) /\ w'.cell? ⟨b3, o3 + b * 14 + 11, none⟩ = some (.int .i32 t.b.v) /\ w'.cell? ⟨b3, o3 + b * 14 + 12, none⟩ = some (.int .i64 t.t0) /\ w'.cell? ⟨b3, o3 + b * 14 + 13, none⟩ = some (.int .i64 t.t1))) (by kernel_rfl) ?_ (fun hHeld => ?_)
               . (try dsimp only); exact HTS.out _ HBc.out
               refine tk 0 ?_
               refine tk 1 ?_
               refine tk 2 ?_
               refine tk 3 ?_
               refine tk 4 ?_
               refine tk 5 ?_
               refine tk 6 ?_
               refine an 7 (fun K hK => ?_)
               go_simp
               (go_at_call 82; refine (HT.out _).mono ?_; rintro e wv ⟨rfl, hbx⟩; replace HBc := lh (HBc.out.trans (hbx.mono HBc.out.size)); clear hbx)
               try go_wp2_with fail
               refine hK.out _ _ ?_ (fun hHeld => ?_)
               . (try dsimp only); exact HTS.out _ HBc.out
               clear hK K
               try simp only [pe]
               refine tk 8 ?_
               refine wpAnyH_done (by kernel_rfl) ?_ _
               go_wp2
               go_ret
               exact ⟨ret_b HG.out, (HK.out.step HBc.out).below⟩
         . obtain rfl : b = n3 := by omega
           have hbi : ¬ (b : Int) < (b : Int) := by omega
           have HG := lh (show true = res from by rw [<- HR2.out, HZ.out, HZ'.out, <- HZ3.out, all_yes HBB.out]; rfl)
           go_wp2
           go_ret
           exact ⟨ret_b HG.out, HK.out.below⟩
theorem Check_r (g s r sl p : Int) (n1 c1 n2 c2 n3 c3 : Nat) (A1 A2 A3 : Option Addr) (nm : Nat -> ByteArray) (sp ty ln hd rg bd : Nat -> Int) (IA : Nat -> Option Addr) (IL IC : Nat -> Nat) (I : Nat -> Nat -> InstV) (T : Nat -> TermV) (w : World) (hc : CodeM n1 n2 n3 A1 A2 A3 nm sp ty ln hd rg bd IA IL IC I T w w.heap.size) (hn1 : n1 <= 65536) (hn2 : n2 <= 65536) (hn3 : n3 <= 65536) :
 Calls Tryz.prog 14 #[.agg #[g, s, r, sl, p, .slice A1 n1 c1, .slice A2 n2 c2, .slice A3 n3 c3]] w fun e w' => e = .returned (.int .i64 (checkE g s r sl p n1 n2 n3 nm sp ty ln hd rg bd IL I T)) /\ Below w.heap.size w w' := by
 have HL := lh (fun (W : World) (hW : OneK w 36 #[g, s, r, sl, p, .slice A1 n1 c1, .slice A2 n2 c2, .slice A3 n3 c3] W) => within_r g s r sl p n1 c1 n2 c2 n3 c3 A1 A2 A3 nm sp ty ln IA IL IC T W (hc.arr.at hW.below) (hc.blocks.at hW.below) hc.lens hn1 hn2 hn3 (fun j _ => hc.names j))
 have HF := lh (fun (W : World) (hW : OneK w 36 #[g, s, r, sl, p, .slice A1 n1 c1, .slice A2 n2 c2, .slice A3 n3 c3] W) (hb : n1 <= 8 /\ n2 <= 400 /\ n3 <= 400 /\ r <= 256 /\ sl <= 256 /\ p <= 8) => formed_r g s r sl p n1 c1 n2 c2 n3 c3 A1 A2 A3 nm sp ty ln hd rg bd IA IL IC I T W (hc.at hW.below) hn1 hn2 hn3 (by omega) (by omega) (by omega))
 have HBD := lh (fun h => limB_bounds (r := r) (sl := sl) (p := p) (n1 := n1) (n2 := n2) (n3 := n3) (IL := IL) (nm := nm) h)
 unfold checkE
 obtain ⟨zl, hzl⟩ : ∃ z, limB r sl p n1 n2 n3 IL nm = z := ⟨_, rfl⟩
 rw [hzl] at HL HBD ⊢
 obtain ⟨zf, hzf⟩ : ∃ z, formB g s r sl p n1 n2 n3 nm sp ty ln hd rg bd IL I T = z := ⟨_, rfl⟩
 rw [hzf] at HF ⊢
 clear hzl hzf hc
 have HK0 := lh (OneK.start (w := w) (T := 36) (K := #[g, s, r, sl, p, .slice A1 n1 c1, .slice A2 n2 c2, .slice A3 n3 c3]))
 cases zl
 . rw [if_neg (by decide)]
   go_enter Tryz.func14, Tryz.ntmps14
   go_wp2_with (first | (go_at_call 46; (with_reducible refine (HL.out _ HK0.out).mono ?_); rintro e w1 ⟨rfl, hb1⟩; have HK2 := lh (HK0.out.step hb1); clear HK0; clear hb1; have HK := HK2; clear HK2; have ck := HK.out.ck))
   go_ret
   exact ⟨rfl, HK.out.below⟩
 . have HB1 := lh (HBD.out rfl)
   clear HBD
   rw [if_pos rfl]
   cases zf
   . rw [if_neg (by decide)]
     go_enter Tryz.func14, Tryz.ntmps14
     go_wp2_with (first | (go_at_call 46; (with_reducible refine (HL.out _ HK0.out).mono ?_); rintro e w1 ⟨rfl, hb1⟩; have HK2 := lh (HK0.out.step hb1); clear HK0; clear hb1; have HK := HK2; clear HK2; have ck := HK.out.ck) | (go_at_call 47; (with_reducible refine (HF.out _ HK.out HB1.out).mono ?_); rintro e w1 ⟨rfl, hb1⟩; have HK2 := lh (HK.out.step hb1); clear HK ck; clear hb1; have HK := HK2; clear HK2; have ck := HK.out.ck))
     go_ret
     exact ⟨rfl, HK.out.below⟩
   . rw [if_pos rfl]
     go_enter Tryz.func14, Tryz.ntmps14
     go_wp2_with (first | (go_at_call 46; (with_reducible refine (HL.out _ HK0.out).mono ?_); rintro e w1 ⟨rfl, hb1⟩; have HK2 := lh (HK0.out.step hb1); clear HK0; clear hb1; have HK := HK2; clear HK2; have ck := HK.out.ck) | (go_at_call 47; (with_reducible refine (HF.out _ HK.out HB1.out).mono ?_); rintro e w1 ⟨rfl, hb1⟩; have HK2 := lh (HK.out.step hb1); clear HK ck; clear hb1; have HK := HK2; clear HK2; have ck := HK.out.ck))
     go_ret
     exact ⟨rfl, HK.out.below⟩
theorem Check_rc (c : CdV) (a : CdA) (w : World) (h : CdM c a w) (hf : c.Fits) :
 Calls Tryz.prog 14 #[cdval c a] w fun e w' => e = .returned (.int .i64 (chkC c)) /\ Below w.heap.size w w' :=
 Check_r _ _ _ _ _ _ _ _ _ _ _ _ _ _ _ _ _ _ _ _ _ _ _ _ _ _ w h hf.1 hf.2.1 hf.2.2
end Go.Proofs.YtkncilgmlkeifaaGreatDoor
