/-
  The reference: the maker: inst.
-/
import Derived.Test.YtkncilgmlkeifaaGreatDoorMkq
set_option linter.unusedVariables false
set_option linter.unusedSimpArgs false
namespace Go.Proofs.YtkncilgmlkeifaaGreatDoor
open Go.ChangeShapes Go.WideShapes Go.ChangeAt Go.RowKit Go.Shelf
def MG (rb n0 : Nat) (L : Value × Value) (K : Nat) (num : Nat -> Int) (ls : List LoV) (init : List BlV) (is : List InstV) (t : TermV) (m : Nat) (w0 W0 W : World) : Prop :=
 ∃ l : List InstV, l.length <= m /\ (∀ i, i ∈ l -> IOk 6 i) /\ MT rb n0 L K num arM ls init (some (is ++ l, t)) w0 W /\ KM W0 W
theorem MG.one {rb n0 K K' : Nat} {L : Value × Value} {num : Nat -> Int} {ls : List LoV} {init : List BlV} {is : List InstV} {t : TermV} {w0 W0 W : World} {i : InstV} (h : MT rb n0 L K' num arM ls init (some (is ++ [i], t)) w0 W) (hi : IOk 6 i) (hK : K' <= K) (k : KM W0 W) : MG rb n0 L K num ls init is t 2 w0 W0 W :=
 ⟨[i], by simp, fun j hj => by rw [List.mem_singleton] at hj; rw [hj]; exact hi, h.le hK, k⟩
theorem MG.two {rb n0 K K' : Nat} {L : Value × Value} {num : Nat -> Int} {ls : List LoV} {init : List BlV} {is : List InstV} {t : TermV} {w0 W0 W : World} {i j : InstV} (h : MT rb n0 L K' num arM ls init (some (is ++ [i] ++ [j], t)) w0 W) (hi : IOk 6 i) (hj : IOk 6 j) (hK : K' <= K) (k : KM W0 W) : MG rb n0 L K num ls init is t 2 w0 W0 W :=
 ⟨[i, j], by simp, fun x hx => by
  rw [List.mem_cons, List.mem_singleton] at hx
  rcases hx with rfl | rfl
  . exact hi
  . exact hj, by rw [List.append_assoc] at h; exact h.le hK, k⟩
def BxS (b : Nat) (W : World) : Prop := W.heap[b]? = some (.cells #[(10:Int), (22:Int), (23:Int), (17:Int), (18:Int), (19:Int)] 3 (0, 0))
def q6 (x : Int) : Int := ([10, 22, 23, 17, 18, 19] : List Int).getD x.toNat 0
theorem BxS.on {b : Nat} {W W' : World} (h : BxS b W) (k : KM W W') : BxS b W' := (k.1 b _ 3 _ h (by decide)).trans h
theorem BxS.cell {b : Nat} {W : World} (h : BxS b W) {x : Int} (hx : 0 <= x /\ x < 6) : W.cell? ⟨b, x.toNat, none⟩ = some (.int .i64 (q6 x)) := by
 have : x = 0 \/ x = 1 \/ x = 2 \/ x = 3 \/ x = 4 \/ x = 5 := by omega
 rcases this with rfl | rfl | rfl | rfl | rfl | rfl
 . exact cell_blk h (i := 0) rfl
 . exact cell_blk h (i := 1) rfl
 . exact cell_blk h (i := 2) rfl
 . exact cell_blk h (i := 3) rfl
 . exact cell_blk h (i := 4) rfl
 . exact cell_blk h (i := 5) rfl
theorem BxS.new (W : World) : BxS W.heap.size (W.alloc (.cells #[(10:Int), (22:Int), (23:Int), (17:Int), (18:Int), (19:Int)] 3)) := heap_alloc_new _ _
theorem q6_ok {x : Int} (hx : 0 <= x /\ x < 6) : q6 x = 10 \/ q6 x = 22 \/ q6 x = 23 \/ q6 x = 17 \/ q6 x = 18 \/ q6 x = 19 := by
 have : x = 0 \/ x = 1 \/ x = 2 \/ x = 3 \/ x = 4 \/ x = 5 := by omega
 rcases this with rfl | rfl | rfl | rfl | rfl | rfl <;> decide
theorem KM.dr (W : World) : KM W W.drew := KM.of (below_drewN (Below.refl _ _) 1)
theorem KM.al {W W' : World} (h : KM W W') (o : Obj) : KM W (W'.alloc o) := h.trans (KM.of ((Below.refl _ _).alloc (Nat.le_refl _) _))
section
variable (rb n0 K : Nat) (num : Nat -> Int) (ls : List LoV) (init : List BlV) (w0 W : World) (A : Option Addr) (n c : Nat) (f : Nat -> Int) (gA cA : Nat)
set_option maxRecDepth 100000 in
set_option maxHeartbeats 8000000 in
theorem minst_any (is : List InstV) (t : TermV) (h : MT rb n0 (.slice A n c, .slice (some ⟨gA, 0, none⟩) 5 cA) K num arM ls init (some (is, t)) w0 W) (hn : n <= 9223372036854775807) (hK : K + 10 <= 1000000) (hB : RBy w0 A n f) (hq : init.length <= 1000000) (hi : is.length + 2 <= 1000000) :
 Calls Tryz.prog 108 #[.pointer (some ⟨rb, 0, none⟩)] W fun e w' => (∃ v, e = .returned v) /\ MG rb n0 (.slice A n c, .slice (some ⟨gA, 0, none⟩) 5 cA) (K + 6) num ls init is t 2 w0 W w' := by
 have h0 : w0.heap.size <= W.heap.size := by obtain ⟨_, _, _, _, _, _, _, _, _, _, h7, _⟩ := h; exact h7.size
 have HN := lh (fun K' W (is' : List InstV) (hk : K' <= K + 8) (h : MT rb n0 (.slice A n c, .slice (some ⟨gA, 0, none⟩) 5 cA) K' num arM ls init (some (is', t)) w0 W) => next_any rb n0 K' num arM ls init (some (is', t)) w0 W A n c f (.slice (some ⟨gA, 0, none⟩) 5 cA) h hn (by omega) hB)
 have HR := lh (fun K' W (is' : List InstV) (hk : K' <= K + 8) (h : MT rb n0 (.slice A n c, .slice (some ⟨gA, 0, none⟩) 5 cA) K' num arM ls init (some (is', t)) w0 W) => reg_any rb n0 K' num arM ls init (some (is', t)) w0 W A n c f (.slice (some ⟨gA, 0, none⟩) 5 cA) h hn (by omega) hB)
 have HV := lh (fun K' W (is' : List InstV) (hk : K' <= K + 8) (h : MT rb n0 (.slice A n c, .slice (some ⟨gA, 0, none⟩) 5 cA) K' num arM ls init (some (is', t)) w0 W) => val_any rb n0 K' num arM ls init (some (is', t)) w0 W A n c f (.slice (some ⟨gA, 0, none⟩) 5 cA) h hn (by omega) hB)
 have HP := lh (fun K' W (is' : List InstV) op sub nn dk dn dv ak an av bk bn bv ck cn cv (hl : is'.length + 1 <= 1000000) (h : MT rb n0 (.slice A n c, .slice (some ⟨gA, 0, none⟩) 5 cA) K' num arM ls init (some (is', t)) w0 W) => put_any rb n0 K' (.slice A n c, .slice (some ⟨gA, 0, none⟩) 5 cA) num arM ls init w0 W is' t op sub nn dk dn dv ak an av bk bn bv ck cn cv h hq (by omega))
 have HL := lh (fun K' W (is' : List InstV) (q : Bool) (hk : K' + 3 <= K + 8) (hl : is'.length <= 1000000) (h : MT rb n0 (.slice A n c, .slice (some ⟨gA, 0, none⟩) 5 cA) K' num arM ls init (some (is', t)) w0 W) => place_any rb n0 K' num ls init w0 W A n c f gA cA q is' t h hn (by omega) hB hq hl)
 have H0 := lh (show MT rb n0 (.slice A n c, .slice (some ⟨gA, 0, none⟩) 5 cA) K num arM ls init (some (is, t)) w0 W from h)
 clear h hB hn hK hq
 go_enter Tryz.func108, Tryz.ntmps108
 go_upto_region 1 with (first
  | (go_at_call 65; (with_reducible refine (HN.out _ _ _ (by omega) H0.out).mono ?_); rintro e W1 ⟨⟨y, rfl, y0, y1⟩, h1, k1⟩; have H1 := lh h1; have HK1 := lh k1; clear h1 k1))
 obtain ⟨z, hz⟩ : ∃ z : Int, y % 16 = z := ⟨_, rfl⟩
 have hz0 : 0 <= z /\ z <= 15 := by omega
 rw [hz]
 clear hz y0 y1 H0
 have hzz : z < 3 \/ (3 <= z /\ z < 7) \/ z = 7 \/ z = 8 \/ z = 9 \/ z = 10 \/ z = 11 \/ z = 12 \/ z = 13 \/ 14 <= z := by omega
 rcases hzz with z3 | ⟨z3, z7⟩ | rfl | rfl | rfl | rfl | rfl | rfl | rfl | z14
 . have e3 : decide (z < 3) = true := by simpa using z3
   go_wp2_with (first
    | (go_at_call 65; (with_reducible refine (HN.out _ _ _ (by omega) H1.out).mono ?_); rintro e W2 ⟨⟨s, rfl, s0, s1⟩, h2, k2⟩; have H2 := lh h2; have HK2 := lh (HK1.out.trans k2); have hw : IntKind.i64.wrap (1 + s % 7) = 1 + s % 7 := IntWalk.i64_in _ (by omega); clear h2 k2)
    | (go_at_call 70; (with_reducible refine (HR.out _ _ _ (by omega) H2.out).mono ?_); rintro e W3 ⟨⟨x, rfl, x0, x1⟩, h3, k3⟩; have H3 := lh h3; have HK3 := lh (HK2.out.trans k3); clear h3 k3)
    | (go_at_call 107; (with_reducible refine (HP.out _ _ _ _ _ _ _ _ _ _ _ _ _ _ _ _ _ _ (by omega) H3.out).mono ?_); rintro e W4 ⟨⟨v, rfl⟩, h4, k4⟩; have HG := lh (show MG rb n0 (.slice A n c, .slice (some ⟨gA, 0, none⟩) 5 cA) (K + 6) num ls init is t 2 w0 W W4 from MG.one h4 (iok_id (by decide) ⟨by omega, by omega⟩ ⟨x0, x1⟩) (by omega) (HK3.out.trans k4)); clear h4 k4))
   refine bodyPost_ret (results_none rfl _ _ _) rfl ?_
   exact ⟨⟨_, rfl⟩, HG.out⟩
 . have e3 : decide (z < 3) = false := by simp; omega
   have e7 : decide (z < 7) = true := by simpa using z7
   go_wp2_with (first
    | (go_at_call 65; (with_reducible refine (HN.out _ _ _ (by omega) H1.out).mono ?_); rintro e W2 ⟨⟨s, rfl, s0, s1⟩, h2, k2⟩; have H2 := lh h2; have HK2 := lh (HK1.out.trans k2); have hw : IntKind.i64.wrap (10 + s % 20) = 10 + s % 20 := IntWalk.i64_in _ (by omega); clear h2 k2)
    | (go_at_call 70; (with_reducible refine (HR.out _ _ _ (by omega) H2.out).mono ?_); rintro e W3 ⟨⟨x, rfl, x0, x1⟩, h3, k3⟩; have H3 := lh h3; have HK3 := lh (HK2.out.trans k3); clear h3 k3)
    | (go_at_call 71; (with_reducible refine (HV.out _ _ _ (by omega) H3.out).mono ?_); rintro e W4 ⟨⟨a, rfl, ha⟩, h4, k4⟩; obtain ⟨ak, an, av⟩ := a; have HOa := lh ha; have H4 := lh h4; have HK4 := lh (HK3.out.trans k4); clear h4 k4 ha)
    | (go_at_call 71; (with_reducible refine (HV.out _ _ _ (by omega) H4.out).mono ?_); rintro e W5 ⟨⟨b, rfl, hb⟩, h5, k5⟩; obtain ⟨bk, bn, bv⟩ := b; have HOb := lh hb; have H5 := lh h5; have HK5 := lh (HK4.out.trans k5); clear h5 k5 hb)
    | (go_at_call 107; (with_reducible refine (HP.out _ _ _ _ _ _ _ _ _ _ _ _ _ _ _ _ _ _ (by omega) H5.out).mono ?_); rintro e W6 ⟨⟨v, rfl⟩, h6, k6⟩; have HG := lh (show MG rb n0 (.slice A n c, .slice (some ⟨gA, 0, none⟩) 5 cA) (K + 6) num ls init is t 2 w0 W W6 from MG.one h6 (iok_bin (by decide) ⟨by omega, by omega⟩ ⟨x0, x1⟩ HOa.out HOb.out) (by omega) (HK5.out.trans k6)); clear h6 k6))
   refine bodyPost_ret (results_none rfl _ _ _) rfl ?_
   exact ⟨⟨_, rfl⟩, HG.out⟩
 . go_wp2_with (first
    | (go_at_call 65; (with_reducible refine (HN.out _ _ _ (by omega) H1.out).mono ?_); rintro e W2 ⟨⟨s, rfl, s0, s1⟩, h2, k2⟩; have H2 := lh h2; have HK2 := lh (HK1.out.trans k2); have hw : IntKind.i64.wrap (1 + s % 5) = 1 + s % 5 := IntWalk.i64_in _ (by omega); clear h2 k2)
    | (go_at_call 70; (with_reducible refine (HR.out _ _ _ (by omega) H2.out).mono ?_); rintro e W3 ⟨⟨x, rfl, x0, x1⟩, h3, k3⟩; have H3 := lh h3; have HK3 := lh (HK2.out.trans k3); clear h3 k3)
    | (go_at_call 71; (with_reducible refine (HV.out _ _ _ (by omega) H3.out).mono ?_); rintro e W4 ⟨⟨a, rfl, ha⟩, h4, k4⟩; obtain ⟨ak, an, av⟩ := a; have HOa := lh ha; have H4 := lh h4; have HK4 := lh (HK3.out.trans k4); clear h4 k4 ha)
    | (go_at_call 107; (with_reducible refine (HP.out _ _ _ _ _ _ _ _ _ _ _ _ _ _ _ _ _ _ (by omega) H4.out).mono ?_); rintro e W5 ⟨⟨v, rfl⟩, h5, k5⟩; have HG := lh (show MG rb n0 (.slice A n c, .slice (some ⟨gA, 0, none⟩) 5 cA) (K + 6) num ls init is t 2 w0 W W5 from MG.one h5 (iok_un (by decide) ⟨by omega, by omega⟩ ⟨x0, x1⟩ HOa.out) (by omega) (HK4.out.trans k5)); clear h5 k5))
   refine bodyPost_ret (results_none rfl _ _ _) rfl ?_
   exact ⟨⟨_, rfl⟩, HG.out⟩
 . go_wp2_with (first
    | (go_at_call 70; (with_reducible refine (HR.out _ _ _ (by omega) H1.out).mono ?_); rintro e W2 ⟨⟨x, rfl, x0, x1⟩, h2, k2⟩; have H2 := lh h2; have HK2 := lh (HK1.out.trans k2); clear h2 k2)
    | (go_at_call 71; (with_reducible refine (HV.out _ _ _ (by omega) H2.out).mono ?_); rintro e W3 ⟨⟨a, rfl, ha⟩, h3, k3⟩; obtain ⟨ak, an, av⟩ := a; have HOa := lh ha; have H3 := lh h3; have HK3 := lh (HK2.out.trans k3); clear h3 k3 ha)
    | (go_at_call 71; (with_reducible refine (HV.out _ _ _ (by omega) H3.out).mono ?_); rintro e W4 ⟨⟨b, rfl, hb⟩, h4, k4⟩; obtain ⟨bk, bn, bv⟩ := b; have HOb := lh hb; have H4 := lh h4; have HK4 := lh (HK3.out.trans k4); clear h4 k4 hb)
    | (go_at_call 71; (with_reducible refine (HV.out _ _ _ (by omega) H4.out).mono ?_); rintro e W5 ⟨⟨d, rfl, hd⟩, h5, k5⟩; obtain ⟨dk, dn, dv⟩ := d; have HOd := lh hd; have H5 := lh h5; have HK5 := lh (HK4.out.trans k5); clear h5 k5 hd)
    | (go_at_call 107; (with_reducible refine (HP.out _ _ _ _ _ _ _ _ _ _ _ _ _ _ _ _ _ _ (by omega) H5.out).mono ?_); rintro e W6 ⟨⟨v, rfl⟩, h6, k6⟩; have HG := lh (show MG rb n0 (.slice A n c, .slice (some ⟨gA, 0, none⟩) 5 cA) (K + 6) num ls init is t 2 w0 W W6 from MG.one h6 (iok_sel (by decide) ⟨x0, x1⟩ HOa.out HOb.out HOd.out) (by omega) (HK5.out.trans k6)); clear h6 k6))
   refine bodyPost_ret (results_none rfl _ _ _) rfl ?_
   exact ⟨⟨_, rfl⟩, HG.out⟩
 . go_wp2_with (first
    | (go_at_call 70; (with_reducible refine (HR.out _ _ _ (by omega) H1.out).mono ?_); rintro e W2 ⟨⟨x, rfl, x0, x1⟩, h2, k2⟩; have H2 := lh h2; have HK2 := lh (HK1.out.trans k2); clear h2 k2)
    | (go_at_call 71; (with_reducible refine (HV.out _ _ _ (by omega) H2.out).mono ?_); rintro e W3 ⟨⟨a, rfl, ha⟩, h3, k3⟩; obtain ⟨ak, an, av⟩ := a; have HOa := lh ha; have H3 := lh h3; have HK3 := lh (HK2.out.trans k3); clear h3 k3 ha)
    | (go_at_call 107; (with_reducible refine (HP.out _ _ _ _ _ _ _ _ _ _ _ _ _ _ _ _ _ _ (by omega) H3.out).mono ?_); rintro e W4 ⟨⟨v, rfl⟩, h4, k4⟩; have HG := lh (show MG rb n0 (.slice A n c, .slice (some ⟨gA, 0, none⟩) 5 cA) (K + 6) num ls init is t 2 w0 W W4 from MG.one h4 (iok_mov (by decide) ⟨x0, x1⟩ HOa.out) (by omega) (HK3.out.trans k4)); clear h4 k4))
   refine bodyPost_ret (results_none rfl _ _ _) rfl ?_
   exact ⟨⟨_, rfl⟩, HG.out⟩
 . go_wp2_with (first
    | (go_at_call 65; (with_reducible refine (HN.out _ _ _ (by omega) H1.out).mono ?_); rintro e W2 ⟨⟨s, rfl, s0, s1⟩, h2, k2⟩; have H2 := lh h2; have HK2 := lh (HK1.out.trans k2); clear h2 k2)
    | (go_at_call 70; (with_reducible refine (HR.out _ _ _ (by omega) H2.out).mono ?_); rintro e W3 ⟨⟨x, rfl, x0, x1⟩, h3, k3⟩; have H3 := lh h3; have HK3 := lh (HK2.out.trans k3); clear h3 k3)
    | (go_at_call 107; (with_reducible refine (HP.out _ _ _ _ _ _ _ _ _ _ _ _ _ _ _ _ _ _ (by omega) H3.out).mono ?_); rintro e W4 ⟨⟨v, rfl⟩, h4, k4⟩; have HG := lh (show MG rb n0 (.slice A n c, .slice (some ⟨gA, 0, none⟩) 5 cA) (K + 6) num ls init is t 2 w0 W W4 from MG.one h4 (iok_param (by decide) ⟨by omega, by omega⟩ ⟨x0, x1⟩) (by omega) (HK3.out.trans k4)); clear h4 k4))
   refine bodyPost_ret (results_none rfl _ _ _) rfl ?_
   exact ⟨⟨_, rfl⟩, HG.out⟩
 . go_wp2_with (first
    | (go_at_call 65; (with_reducible refine (HN.out _ _ _ (by omega) H1.out).mono ?_); rintro e W2 ⟨⟨s, rfl, s0, s1⟩, h2, k2⟩; have H2 := lh h2; have HK2 := lh (HK1.out.trans k2); have hw : IntKind.i64.wrap (1 + s % 2) = 1 + s % 2 := IntWalk.i64_in _ (by omega); clear h2 k2)
    | (go_at_call 107; (with_reducible refine (HP.out _ _ _ _ _ _ _ _ _ _ _ _ _ _ _ _ _ _ (by omega) H2.out).mono ?_); rintro e W3 ⟨⟨v, rfl⟩, h3, k3⟩; have HG := lh (show MG rb n0 (.slice A n c, .slice (some ⟨gA, 0, none⟩) 5 cA) (K + 6) num ls init is t 2 w0 W W3 from MG.one h3 (iok_fence ⟨by omega, by omega⟩) (by omega) (HK2.out.trans k3)); clear h3 k3))
   refine bodyPost_ret (results_none rfl _ _ _) rfl ?_
   exact ⟨⟨_, rfl⟩, HG.out⟩
 . go_upto_region 18 with (first | (go_at_call 141; (with_reducible refine (HL.out _ _ _ _ (by omega) (by omega) H1.out).mono ?_); rintro e W2 ⟨⟨m, y2, rfl, hm, hm3, hy, i, hi2, h2⟩, k2⟩; have H2 := lh h2; have HK2 := lh (HK1.out.trans k2); have HIO := lh hi2; have HMM := lh (And.intro hm (And.intro hm3 hy)); clear h2 k2 hi2 hm hm3 hy))
   have H3 := lh (H2.out.alloc (.cells #[(2:Int), y2, .int .i32 0] 27))
   have hkx : BxE W2.heap.size 2 y2 0 (W2.alloc (.cells #[(2:Int), y2, .int .i32 0] 27)) := heap_alloc_new _ _
   have HK3 := lh (HK2.out.trans (KM.of ((Below.refl _ _).alloc (Nat.le_refl _) (.cells #[(2:Int), y2, .int .i32 0] 27))))
   clear H2 HK2
   generalize (W2.alloc (.cells #[(2:Int), y2, .int .i32 0] 27)) = W3 at *
   generalize W2.heap.size = bd at *
   obtain ⟨d0, d1, d2⟩ := hkx.cells
   have HD3 := lh hkx
   have HKD := lh (show KM W3 W3.drew from KM.of (below_drewN (Below.refl _ _) 1))
   obtain ⟨l0, l1, l2⟩ := (HD3.out.on ((KM.of (Below.refl _ W3)).al (.cells #[(10:Int), (22:Int), (23:Int), (17:Int), (18:Int), (19:Int)] 3))).cells
   clear hkx
   go_region_with (first
    | (go_at_call 65; (with_reducible refine (HN.out _ _ _ (by omega) H3.out.drew).mono ?_); rintro e W4 ⟨⟨s, rfl, s0, s1⟩, h4, k4⟩; obtain ⟨d, hs9⟩ : ∃ d : Int, s % 6 = d := ⟨_, rfl⟩; have hs6 : 0 <= d /\ d < 6 := (by omega); have hs7 := hs6.1; have hs8 := hs6.2; have hs10 : Int.tmod s 6 = d := ((Int.tmod_eq_emod_of_nonneg s0).trans hs9); have k34 := HKD.out.trans k4; have hd4 := HD3.out.on k34; obtain ⟨e0, e1, e2⟩ := hd4.cells; have HD4 := lh hd4; have H4 := lh h4; have HK4 := lh (HK3.out.trans k34); have ca4 := (BxS.new W4).cell hs6; have HD4a := lh (fun o => (hd4.on ((KM.of (Below.refl _ W4)).al o)).cells); obtain ⟨i0, i1, i2⟩ := HD4a.out (.cells #[(10:Int), (22:Int), (23:Int), (17:Int), (18:Int), (19:Int)] 3); have HQ := lh (q6_ok hs6); have HS6 := lh hs6; clear h4 k4 k34 hd4 hs6)
    | (go_at_call 65; (with_reducible refine (HN.out _ _ _ (by omega) (H3.out.alloc _).drew).mono ?_); rintro e W4 ⟨⟨s, rfl, s0, s1⟩, h4, k4⟩; obtain ⟨d, hs9⟩ : ∃ d : Int, s % 6 = d := ⟨_, rfl⟩; have hs6 : 0 <= d /\ d < 6 := (by omega); have hs7 := hs6.1; have hs8 := hs6.2; have hs10 : Int.tmod s 6 = d := ((Int.tmod_eq_emod_of_nonneg s0).trans hs9); have k34 := ((KM.of (Below.refl _ W3)).al (.cells #[(10:Int), (22:Int), (23:Int), (17:Int), (18:Int), (19:Int)] 3)).trans ((KM.dr _).trans k4); have hs4 := (BxS.new W3).on ((KM.dr _).trans k4); have cs4 := hs4.cell hs6; have HS4 := lh hs4; clear hs4; have hd4 := HD3.out.on k34; obtain ⟨e0, e1, e2⟩ := hd4.cells; have HD4 := lh hd4; have H4 := lh h4; have HK4 := lh (HK3.out.trans k34); have ca4 := (BxS.new W4).cell hs6; have HD4a := lh (fun o => (hd4.on ((KM.of (Below.refl _ W4)).al o)).cells); obtain ⟨i0, i1, i2⟩ := HD4a.out (.cells #[(10:Int), (22:Int), (23:Int), (17:Int), (18:Int), (19:Int)] 3); have HQ := lh (q6_ok hs6); have HS6 := lh hs6; clear h4 k4 k34 hd4 hs6)
    | (go_at_call 71; (with_reducible refine (HV.out _ _ _ (by omega) H4.out).mono ?_); rintro e W5 ⟨⟨a, rfl, ha⟩, h5, k5⟩; obtain ⟨ak, an, av⟩ := a; have HOa := lh ha; have k45 := k5; have hs5 := HS4.out.on k45; have cs5 := hs5.cell HS6.out; clear hs5; have hd5 := HD4.out.on k45; obtain ⟨g0, g1, g2⟩ := hd5.cells; have H5 := lh h5; have HK5 := lh (HK4.out.trans k45); have ca5 := (BxS.new W5).cell HS6.out; obtain ⟨j0, j1, j2⟩ := (hd5.on ((KM.of (Below.refl _ W5)).al (.cells #[(10:Int), (22:Int), (23:Int), (17:Int), (18:Int), (19:Int)] 3))).cells; clear h5 k5 k45 hd5 ha)
    | (go_at_call 71; (with_reducible refine (HV.out _ _ _ (by omega) (H4.out.alloc _)).mono ?_); rintro e W5 ⟨⟨a, rfl, ha⟩, h5, k5⟩; obtain ⟨ak, an, av⟩ := a; have HOa := lh ha; have k45 := ((KM.of (Below.refl _ W4)).al (.cells #[(10:Int), (22:Int), (23:Int), (17:Int), (18:Int), (19:Int)] 3)).trans k5; have hs5 := (BxS.new W4).on k5; have cs5 := hs5.cell HS6.out; clear hs5; have hd5 := HD4.out.on k45; obtain ⟨g0, g1, g2⟩ := hd5.cells; have H5 := lh h5; have HK5 := lh (HK4.out.trans k45); have ca5 := (BxS.new W5).cell HS6.out; obtain ⟨j0, j1, j2⟩ := (hd5.on ((KM.of (Below.refl _ W5)).al (.cells #[(10:Int), (22:Int), (23:Int), (17:Int), (18:Int), (19:Int)] 3))).cells; clear h5 k5 k45 hd5 ha)
    | (go_at_call 71; (with_reducible refine (HV.out _ _ _ (by omega) H4.out).mono ?_); rintro e W5 ⟨⟨a, rfl, ha⟩, h5, k5⟩; obtain ⟨ak, an, av⟩ := a; have HOa := lh ha; have k45 := k5; have hd5 := HD4.out.on k45; obtain ⟨g0, g1, g2⟩ := hd5.cells; have H5 := lh h5; have HK5 := lh (HK4.out.trans k45); have ca5 := (BxS.new W5).cell HS6.out; obtain ⟨j0, j1, j2⟩ := (hd5.on ((KM.of (Below.refl _ W5)).al (.cells #[(10:Int), (22:Int), (23:Int), (17:Int), (18:Int), (19:Int)] 3))).cells; clear h5 k5 k45 hd5 ha)
    | (go_at_call 107; (with_reducible refine (HP.out _ _ _ _ _ _ _ _ _ _ _ _ _ _ _ _ _ _ (by simp; omega) H5.out).mono ?_); rintro e W6 ⟨⟨v, rfl⟩, h6, k6⟩; have HG := lh (show MG rb n0 (.slice A n c, .slice (some ⟨gA, 0, none⟩) 5 cA) (K + 6) num ls init is t 2 w0 W W6 from MG.two h6 HIO.out (iok_atom (by decide) HQ.out HMM.out.1 (HMM.out.2.1 (by trivial)) HMM.out.2.2 HOa.out) (by omega) (HK5.out.trans k6)); clear h6 k6)
    | (go_at_call 107; (with_reducible refine (HP.out _ _ _ _ _ _ _ _ _ _ _ _ _ _ _ _ _ _ (by simp; omega) (H5.out.alloc _)).mono ?_); rintro e W6 ⟨⟨v, rfl⟩, h6, k6⟩; have HG := lh (show MG rb n0 (.slice A n c, .slice (some ⟨gA, 0, none⟩) 5 cA) (K + 6) num ls init is t 2 w0 W W6 from MG.two h6 HIO.out (iok_atom (by decide) HQ.out HMM.out.1 (HMM.out.2.1 (by trivial)) HMM.out.2.2 HOa.out) (by omega) ((HK5.out.al (.cells #[(10:Int), (22:Int), (23:Int), (17:Int), (18:Int), (19:Int)] 3)).trans k6)); clear h6 k6))
   all_goals
    go_wp2
    refine bodyPost_ret (results_none rfl _ _ _) rfl ?_
    exact ⟨⟨_, rfl⟩, HG.out⟩
 . go_upto_region 21 with (first | (go_at_call 141; (with_reducible refine (HL.out _ _ _ _ (by omega) (by omega) H1.out).mono ?_); rintro e W2 ⟨⟨m, y2, rfl, hm, hm3, hy, i, hi2, h2⟩, k2⟩; have H2 := lh h2; have HK2 := lh (HK1.out.trans k2); have HIO := lh hi2; have HMM := lh (And.intro hm (And.intro hm3 hy)); clear h2 k2 hi2 hm hm3 hy))
   have H3 := lh (H2.out.alloc (.cells #[(2:Int), y2, .int .i32 0] 27))
   have hkx : BxE W2.heap.size 2 y2 0 (W2.alloc (.cells #[(2:Int), y2, .int .i32 0] 27)) := heap_alloc_new _ _
   have HK3 := lh (HK2.out.trans (KM.of ((Below.refl _ _).alloc (Nat.le_refl _) (.cells #[(2:Int), y2, .int .i32 0] 27))))
   clear H2 HK2
   generalize (W2.alloc (.cells #[(2:Int), y2, .int .i32 0] 27)) = W3 at *
   generalize W2.heap.size = bd at *
   obtain ⟨d0, d1, d2⟩ := hkx.cells
   have HD3 := lh hkx
   have HKD := lh (show KM W3 W3.drew from KM.of (below_drewN (Below.refl _ _) 1))
   clear hkx
   go_region_with (first
    | (go_at_call 70; (with_reducible refine (HR.out _ _ _ (by omega) H3.out.drew).mono ?_); rintro e W4 ⟨⟨x, rfl, x0, x1⟩, h4, k4⟩; have k34 := HKD.out.trans k4; have hd4 := HD3.out.on k34; obtain ⟨e0, e1, e2⟩ := hd4.cells; have H4 := lh h4; have HK4 := lh (HK3.out.trans k34); clear h4 k4 k34 hd4)
    | (go_at_call 107; (with_reducible refine (HP.out _ _ _ _ _ _ _ _ _ _ _ _ _ _ _ _ _ _ (by simp; omega) H4.out).mono ?_); rintro e W5 ⟨⟨v, rfl⟩, h5, k5⟩; have HG := lh (show MG rb n0 (.slice A n c, .slice (some ⟨gA, 0, none⟩) 5 cA) (K + 6) num ls init is t 2 w0 W W5 from MG.two h5 HIO.out (iok_load (by decide) HMM.out.1 ⟨x0, x1⟩ HMM.out.2.2) (by omega) (HK4.out.trans k5)); clear h5 k5))
   all_goals
    go_wp2
    refine bodyPost_ret (results_none rfl _ _ _) rfl ?_
    exact ⟨⟨_, rfl⟩, HG.out⟩
 . skip
   have e3 : decide (z < 3) = false := by simp; omega
   have e7 : decide (z < 7) = false := by simp; omega
   have f7 : (z == 7) = false := by simp; omega
   have f8 : (z == 8) = false := by simp; omega
   have f9 : (z == 9) = false := by simp; omega
   have f10 : (z == 10) = false := by simp; omega
   have f11 : (z == 11) = false := by simp; omega
   have f12 : (z == 12) = false := by simp; omega
   have f13 : (z == 13) = false := by simp; omega
   go_upto_region 22 with (first | (go_at_call 141; (with_reducible refine (HL.out _ _ _ _ (by omega) (by omega) H1.out).mono ?_); rintro e W2 ⟨⟨m, y2, rfl, hm, hm3, hy, i, hi2, h2⟩, k2⟩; have H2 := lh h2; have HK2 := lh (HK1.out.trans k2); have HIO := lh hi2; have HMM := lh (And.intro hm (And.intro hm3 hy)); clear h2 k2 hi2 hm hm3 hy))
   have H3 := lh (H2.out.alloc (.cells #[(2:Int), y2, .int .i32 0] 27))
   have hkx : BxE W2.heap.size 2 y2 0 (W2.alloc (.cells #[(2:Int), y2, .int .i32 0] 27)) := heap_alloc_new _ _
   have HK3 := lh (HK2.out.trans (KM.of ((Below.refl _ _).alloc (Nat.le_refl _) (.cells #[(2:Int), y2, .int .i32 0] 27))))
   clear H2 HK2
   generalize (W2.alloc (.cells #[(2:Int), y2, .int .i32 0] 27)) = W3 at *
   generalize W2.heap.size = bd at *
   obtain ⟨d0, d1, d2⟩ := hkx.cells
   have HD3 := lh hkx
   have HKD := lh (show KM W3 W3.drew from KM.of (below_drewN (Below.refl _ _) 1))
   clear hkx
   go_region_with (first
    | (go_at_call 71; (with_reducible refine (HV.out _ _ _ (by omega) H3.out.drew).mono ?_); rintro e W4 ⟨⟨a, rfl, ha⟩, h4, k4⟩; obtain ⟨ak, an, av⟩ := a; have HOa := lh ha; have k34 := HKD.out.trans k4; have hd4 := HD3.out.on k34; obtain ⟨e0, e1, e2⟩ := hd4.cells; have H4 := lh h4; have HK4 := lh (HK3.out.trans k34); clear h4 k4 k34 hd4 ha)
    | (go_at_call 107; (with_reducible refine (HP.out _ _ _ _ _ _ _ _ _ _ _ _ _ _ _ _ _ _ (by simp; omega) H4.out).mono ?_); rintro e W5 ⟨⟨v, rfl⟩, h5, k5⟩; have HG := lh (show MG rb n0 (.slice A n c, .slice (some ⟨gA, 0, none⟩) 5 cA) (K + 6) num ls init is t 2 w0 W W5 from MG.two h5 HIO.out (iok_store (by decide) HMM.out.1 HMM.out.2.2 HOa.out) (by omega) (HK4.out.trans k5)); clear h5 k5))
   all_goals
    go_wp2
    go_end0
    exact ⟨⟨_, rfl⟩, HG.out⟩
end
end Go.Proofs.YtkncilgmlkeifaaGreatDoor
