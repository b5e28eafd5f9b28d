import Derived.Test.YtkncilgmlkeifaaGreatDoorMkx
import Derived.Deep.LoopGhost
import Derived.Deep.CutRange
/-
  The reference: the maker: region.
-/
set_option linter.unusedVariables false
set_option linter.unusedSimpArgs false
set_option maxRecDepth 100000
set_option maxHeartbeats 16000000
namespace Go.Proofs.YtkncilgmlkeifaaGreatDoor
open Go.ChangeShapes Go.WideShapes Go.ChangeAt Go.RowKit Go.Shelf
section
variable (rb n0 K : Nat) (gr sb : Int) (q nb : Nat) (w0 W0 W : World) (A : Option Addr) (n c : Nat) (f : Nat -> Int) (gA cA : Nat)
theorem region_s (k : Nat) (hk : k <= 2) (h : SB rb n0 (.slice A n c, .slice (some ⟨gA, 0, none⟩) 5 cA) K gr sb q nb (nb + 1) w0 W0 W) (hn : n <= 9223372036854775807) (hK : K + 400 <= 1000000) (hB : RBy w0 A n f) (hN : nb <= 1000) (hq : q <= 10) :
 Calls Tryz.prog 67 #[.pointer (some ⟨rb, 0, none⟩), (k : Int)] W fun e w' => (∃ v, e = .returned v) /\ SA rb n0 (.slice A n c, .slice (some ⟨gA, 0, none⟩) 5 cA) (K + 200) gr sb q (nb + k + 1) (nb + k + 1) 8 w0 W0 w' := by
 obtain ⟨Mx, hMx⟩ : ∃ Mx : Nat, nb + k = Mx := ⟨_, rfl⟩
 rw [hMx]
 have HMx := lh hMx
 have HBK := lh (fun K' W' b (hb : b <= 1100) (h : SB rb n0 (.slice A n c, .slice (some ⟨gA, 0, none⟩) 5 cA) K' gr sb q b (Mx + 1) w0 W0 W') => block_s rb n0 K' gr sb q b (Mx + 1) w0 W0 W' (.slice A n c, .slice (some ⟨gA, 0, none⟩) 5 cA) h (by omega))
 have HI := lh (fun K' W' b (hb : b <= 1100) (hk : K' <= K + 300) (h : SA rb n0 (.slice A n c, .slice (some ⟨gA, 0, none⟩) 5 cA) K' gr sb q b (Mx + 1) 0 w0 W0 W') => insts_s rb n0 K' gr sb q b (Mx + 1) 0 w0 W0 W' A n c f gA cA h hn (by omega) hB (by omega) (by omega))
 have HN := lh (fun K' W' b (hk : K' <= K + 300) (h : SA rb n0 (.slice A n c, .slice (some ⟨gA, 0, none⟩) 5 cA) K' gr sb q b (Mx + 1) 8 w0 W0 W') => nextA rb n0 K' gr sb q b (Mx + 1) 8 w0 W0 W' A n c f gA cA h hn (by omega) hB)
 have HR := lh (fun K' W' b (hk : K' <= K + 300) (h : SA rb n0 (.slice A n c, .slice (some ⟨gA, 0, none⟩) 5 cA) K' gr sb q b (Mx + 1) 8 w0 W0 W') => regA rb n0 K' gr sb q b (Mx + 1) 8 w0 W0 W' A n c f gA cA h hn (by omega) hB)
 have HNC := lh (fun K' W' b (hk : K' <= K + 300) (h : SC rb n0 (.slice A n c, .slice (some ⟨gA, 0, none⟩) 5 cA) K' gr sb q b (Mx + 1) 8 w0 W0 W') => nextC rb n0 K' gr sb q b (Mx + 1) 8 w0 W0 W' A n c f gA cA h hn (by omega) hB)
 have HB0 := lh (HBK.out K W nb (by omega) (h.le (Nat.le_refl _) (by omega)))
 have hK1 : K <= 1000000 := by omega
 clear h hB hn hMx hK
 go_enter Tryz.func67, Tryz.ntmps67
 go_upto_region 1 with (first | (go_at_call 69; (with_reducible refine HB0.out.mono ?_); rintro e W1 ⟨⟨v, rfl⟩, h1⟩; obtain ⟨g1, p1, c9, cf⟩ := h1.c9; have H1 := lh h1; clear h1 cf))
 go_wp2
 rw [show (nb : Int) + (k : Int) = (Mx : Int) from by have := HMx.out; omega]
 go_loopg [6] k (fun gk z wx => ∃ b : Nat, z = .int .i64 (b : Int) /\ b + gk = Mx /\ gk <= k /\ Hid (SA rb n0 (.slice A n c, .slice (some ⟨gA, 0, none⟩) 5 cA) (K + 80 * (k - gk)) gr sb q (b + 1) (Mx + 1) 0 w0 W0 wx))
 case atStart => exact ⟨nb, rfl, HMx.out, Nat.le_refl _, lh (H1.out.le (by omega) (Nat.le_refl _) (Nat.le_refl _))⟩
 case round =>
  obtain ⟨b, rfl, hbk, hgk, HS⟩ := hrel
  have hMk := HMx.out
  cases gk with
  | zero =>
   obtain rfl : b = Mx := by omega
   go_wp2_with (first | (go_at_call 72; (with_reducible refine (HI.out _ _ _ (by omega) (by omega) HS.out).mono ?_); rintro e W2 ⟨⟨v, rfl⟩, h2⟩; have H2 := lh h2; clear h2))
   go_end0
   exact ⟨⟨_, rfl⟩, H2.out.le (by omega) (Nat.le_refl _) (by omega)⟩
  | succ gh =>
   have hlt : (b : Int) < (Mx : Int) := by omega
   go_upto_region 7 with (first | (go_at_call 72; (with_reducible refine (HI.out _ _ _ (by omega) (by omega) HS.out).mono ?_); rintro e W2 ⟨⟨v, rfl⟩, h2⟩; have H2 := lh h2; clear h2))
   obtain ⟨g2, p2, c92, cf2⟩ := H2.out.c9
   obtain ⟨⟨_, e1⟩, ⟨_, e2⟩, ⟨_, e3⟩, ⟨_, e4⟩, ⟨_, e5⟩, ⟨_, e6⟩, ⟨_, e7⟩, ⟨_, e8⟩, ⟨_, e9⟩, ⟨_, e10⟩, ⟨_, e11⟩, ⟨_, e12⟩, ⟨_, e13⟩⟩ := H2.out.ends c92
   have hbb : (b : Int) < (b : Int) + 1 := by omega
   have hb2 : b <= 1050 := by omega
   have hc := H2.out.closeC (t' := ⟨1, 0, ⟨0, 0, 0⟩, ⟨0, 0, 0⟩, ⟨0, 0, 0⟩, (b : Int) + 1, 0⟩) c92 (tok_jump (by omega) (by omega))
   unfold putE at hc
   simp only at hc
   have HC := lh hc
   have HBK2 := lh hbk
   clear hMk hc
   go_cut [] from 20 to 74 (fun wx => Hid (SC rb n0 (.slice A n c, .slice (some ⟨gA, 0, none⟩) 5 cA) (K + 80 * (k - (gh + 1)) + 25) gr sb q (b + 1) (Mx + 1) 8 w0 W0 wx))
   case first =>
    go_wp2
    go_meet
    exact HC
   case rest =>
   have HS3 := lh hcut.out
   clear hcut HC HS H2 c92 cf2 e1 e2 e3 e4 e5 e6 e7 e8 e9 e10 e11 e12 e13 hlt
   go_upto_if 42 with (first | (go_at_call 65; (with_reducible refine (HNC.out _ _ _ (by omega) HS3.out).mono ?_); rintro e W4 ⟨⟨x, rfl, x0, x1⟩, h4⟩; have HS4 := lh h4; clear h4))
   go_cut [] from 20 to 74 (fun wx => Hid (SC rb n0 (.slice A n c, .slice (some ⟨gA, 0, none⟩) 5 cA) (K + 80 * (k - (gh + 1)) + 29) gr sb q (b + 1) (Mx + 1) 8 w0 W0 wx))
   case first =>
    obtain ⟨qq, hqq⟩ : ∃ qq, (x % 2 == 0) = qq := ⟨_, rfl⟩
    rw [hqq]
    clear hqq x0 x1
    cases qq with
    | false =>
     go_wp2
     go_meet
     exact lh (HS4.out.le (by omega))
    | true =>
     go_upto_region 9 with (fail)
     have hs4 := HS4.out.opn
     obtain ⟨g4, p4, c94, cf4⟩ := hs4.c9
     have hlt4 := hs4.lt
     have HS5 := lh hs4.drew
     have HLT := lh hlt4
     have hd0 : (0 : Int) < (Mx : Int) - (b : Int) := by omega
     have hd1 : (Mx : Int) - (b : Int) <= 2 := by omega
     have hd2 : ¬ ((Mx : Int) - (b : Int) = 0) := by omega
     have hd3 : (((Mx : Int) - (b : Int)) == 0) = false := by simpa using hd2
     have hwd : IntKind.i64.wrap ((Mx : Int) - (b : Int)) = (Mx : Int) - (b : Int) := IntWalk.i64_in _ (by omega)
     have hwb : IntKind.i64.wrap ((b : Int) + 1) = (b : Int) + 1 := IntWalk.i64_in _ (by omega)
     clear hs4 hlt4
     go_region_with (first
      | (go_at_call 70; (with_reducible refine (HR.out _ _ _ (by omega) HS5.out).mono ?_); rintro e W5 ⟨⟨y, rfl, y0, y1⟩, h5, q5⟩; have hl5 := q5 HLT.out; have c95 := hl5.2.trans c94; have HL5 := lh hl5.1; have HS6 := lh h5; clear h5 q5 hl5)
      | (go_at_call 65; (with_reducible refine (HN.out _ _ _ (by omega) HS6.out).mono ?_); rintro e W6 ⟨⟨u, rfl, u0, u1⟩, h6, q6⟩; have hl6 := q6 HL5.out; have c96 := hl6.2.trans c95; have HL6 := lh hl6.1; have HS7 := lh h6; obtain ⟨r1, hr1⟩ : ∃ r1, u % ((Mx : Int) - (b : Int)) = r1 := ⟨_, rfl⟩; have hr2 : Int.tmod u ((Mx : Int) - (b : Int)) = r1 := (Int.tmod_eq_emod_of_nonneg u0).trans hr1; have hr3 : 0 <= r1 := hr1 ▸ Int.emod_nonneg _ hd2; have hr4 : r1 < (Mx : Int) - (b : Int) := hr1 ▸ Int.emod_lt_of_pos _ hd0; have hr5 : IntKind.i64.wrap ((b : Int) + 1 + r1) = (b : Int) + 1 + r1 := IntWalk.i64_in _ (by omega); clear h6 q6 hl6)
      | (go_at_call 65; (with_reducible refine (HN.out _ _ _ (by omega) HS7.out).mono ?_); rintro e W7 ⟨⟨z, rfl, z0, z1⟩, h7, q7⟩; have hl7 := q7 HL6.out; have c97 := hl7.2.trans c96; obtain ⟨s1, ht1⟩ : ∃ s1, z % ((Mx : Int) - (b : Int)) = s1 := ⟨_, rfl⟩; have ht2 : Int.tmod z ((Mx : Int) - (b : Int)) = s1 := (Int.tmod_eq_emod_of_nonneg z0).trans ht1; have ht3 : 0 <= s1 := ht1 ▸ Int.emod_nonneg _ hd2; have ht4 : s1 < (Mx : Int) - (b : Int) := ht1 ▸ Int.emod_lt_of_pos _ hd0; have ht5 : IntKind.i64.wrap ((b : Int) + 1 + s1) = (b : Int) + 1 + s1 := IntWalk.i64_in _ (by omega); have cf7 := h7.c9f c97; obtain ⟨⟨_, e1⟩, ⟨_, e2⟩, ⟨_, e3⟩, ⟨_, e4⟩, ⟨_, e5⟩, ⟨_, e6⟩, ⟨_, e7⟩, ⟨_, e8⟩, ⟨_, e9⟩, ⟨_, e10⟩, ⟨_, e11⟩, ⟨_, e12⟩, ⟨_, e13⟩⟩ := h7.ends c97; have hc := h7.closeC (t' := ⟨2, 0, ⟨0, 0, 0⟩, ⟨2, y, 0⟩, ⟨0, 0, 0⟩, (b : Int) + 1 + r1, (b : Int) + 1 + s1⟩) c97 (tok_branch (by omega) (by omega) (by omega) (by omega) (by omega)); unfold putE at hc; simp only at hc; have HC := lh hc; clear h7 q7 hl7 hc))
     all_goals
      go_wp2
      go_meet
      exact lh (HC.out.le (by omega))
   case rest =>
   have HS8 := lh (hcut.out.shut (by decide))
   clear hcut HS3 HS4 x0 x1
   go_wp2_with (first | (go_at_call 69; (with_reducible refine (HBK.out _ _ _ (by omega) HS8.out).mono ?_); rintro e W9 ⟨⟨v, rfl⟩, h9⟩; have HS9 := lh h9; clear h9))
   go_roundg gh
   case measure => omega
   case rel => exact ⟨b + 1, by go_num, by have := HBK2.out; omega, by omega, lh (HS9.out.le (by omega) (Nat.le_refl _) (Nat.le_refl _))⟩
end
section
variable (rb n0 K : Nat) (gr sb : Int) (q N M m : Nat) (w0 W0 W : World) (A : Option Addr) (n c : Nat) (f : Nat -> Int) (gA cA : Nat)
theorem loop_s (h : SA rb n0 (.slice A n c, .slice (some ⟨gA, 0, none⟩) 5 cA) K gr sb q (N + 1) M m w0 W0 W) (hm : m <= 8) (hM : M <= N + 4) (hn : n <= 9223372036854775807) (hK : K + 100 <= 1000000) (hB : RBy w0 A n f) (hN1 : N <= 1000) (hq : q <= 10) :
 Calls Tryz.prog 68 #[.pointer (some ⟨rb, 0, none⟩)] W fun e w' => (∃ v, e = .returned v) /\ SB rb n0 (.slice A n c, .slice (some ⟨gA, 0, none⟩) 5 cA) (K + 100) gr sb (q + 1) (N + 3) (N + 4) w0 W0 w' := by
 obtain ⟨ls, init, is, t, h1, h2, h3, h4, h5, h6, h7, h8⟩ := h
 have hN : init.length = N := by omega
 obtain ⟨v8, c8, ho8⟩ := h3.c8
 obtain ⟨A8, p8, rfl, _⟩ := own_cells ho8
 rw [h1] at c8
 have hisl : is.length <= 8 := by omega
 obtain ⟨P, hP⟩ : ∃ P : Nat, P = N + 1 := ⟨_, rfl⟩
 have HFIN := lh (show ∀ (bd : Int) (l : List InstV) (t3 : TermV) (W' : World), (1 <= bd /\ bd <= 3) -> l.length <= 8 -> (∀ i, i ∈ l -> IOk 6 i) -> TOk (8 + 2 * (q : Int)) (N + 4) t3 -> MT rb n0 (.slice A n c, .slice (some ⟨gA, 0, none⟩) 5 cA) (K + 100) (nmM gr sb (6 + 2 * (q : Int) + 2)) arM (ls ++ [((P : Int), 6 + 2 * (q : Int), bd)]) (init ++ [(is ++ [⟨1, 0, 0, ⟨2, 6 + 2 * (q : Int), 0⟩, ⟨1, 0, 0⟩, ⟨0, 0, 0⟩, ⟨0, 0, 0⟩⟩], ⟨1, 0, ⟨0, 0, 0⟩, ⟨0, 0, 0⟩, ⟨0, 0, 0⟩, (P : Int), 0⟩)] ++ [([⟨3, 26, 0, ⟨2, 6 + 2 * (q : Int) + 1, 0⟩, ⟨2, 6 + 2 * (q : Int), 0⟩, ⟨1, 0, bd⟩, ⟨0, 0, 0⟩⟩], ⟨2, 0, ⟨0, 0, 0⟩, ⟨2, 6 + 2 * (q : Int) + 1, 0⟩, ⟨0, 0, 0⟩, (P : Int) + 1, (P : Int) + 2⟩)]) (some (⟨3, 10, 0, ⟨2, 6 + 2 * (q : Int), 0⟩, ⟨2, 6 + 2 * (q : Int), 0⟩, ⟨1, 0, 1⟩, ⟨0, 0, 0⟩⟩ :: l, t3)) w0 W' -> KM W W' -> SB rb n0 (.slice A n c, .slice (some ⟨gA, 0, none⟩) 5 cA) (K + 100) gr sb (q + 1) (N + 3) (N + 4) w0 W0 W' from fun bd l t3 W' hbd hl hi ht hT hK => by
  have e6 : (6 + 2 * ((q + 1 : Nat) : Int)) = 6 + 2 * (q : Int) + 2 := by omega
  have hT' := hT
  rw [<- e6] at hT'
  refine ⟨_, _, _, ?_, ?_, hT', h4.trans hK, fun x hx => ?_, fun x hx => ?_⟩
  . rw [List.length_append, h1]
    rfl
  . simp [hN]
  . rw [e6]
    rcases List.mem_append.1 hx with hx | hx
    . exact (h5 x hx).mono (by omega) hM
    . rw [List.mem_singleton] at hx
      subst hx
      unfold LOk
      show (0 <= (P : Int) /\ (P : Int) < ((N + 4 : Nat) : Int)) /\ (0 <= 6 + 2 * (q : Int) /\ 6 + 2 * (q : Int) < 6 + 2 * (q : Int) + 2) /\ (1 <= bd /\ bd <= 3)
      exact ⟨⟨by omega, by omega⟩, ⟨by omega, by omega⟩, hbd⟩
  . rw [e6]
    simp only [List.mem_append, List.mem_singleton, Option.toList, or_assoc] at hx
    rcases hx with hx | rfl | rfl | rfl
    . exact (h6 x hx).mono (by omega) hM
    . refine ⟨by show (is ++ [_]).length <= 9; rw [List.length_append]; simp; omega, fun i hi => ?_, tok_jump (by omega) (by omega)⟩
      rcases List.mem_append.1 hi with hi | hi
      . exact (h8 i hi).mono (by omega)
      . rw [List.mem_singleton] at hi
        subst hi
        exact iok_movc (by omega) (by omega) (by decide)
    . refine ⟨by show 1 <= 9; decide, fun i hi => ?_, tok_branch (by omega) (by omega) (by omega) (by omega) (by omega)⟩
      rw [List.mem_singleton] at hi
      subst hi
      exact iok_binc (by decide) (by omega) (by omega) (by omega) (by omega)
    . refine ⟨by show (_ :: l).length <= 9; simp; omega, fun i hi' => ?_, ht.mono (by omega) (Nat.le_refl _)⟩
      rcases List.mem_cons.1 hi' with rfl | hi'
      . exact iok_binc (by decide) (by omega) (by omega) (by omega) (by decide)
      . exact (hi i hi').mono (by omega))
 have HN0 := lh (next_any rb n0 K _ arM ls init (some (is, t)) w0 W A n c f (.slice (some ⟨gA, 0, none⟩) 5 cA) h3 hn (by omega) hB)
 have HPUT := lh (fun K' W' (r : Int) ls' (init' : List BlV) (is' : List InstV) t' op sub nn dk dn dv ak an av bk bn bv ck cn cv (hq : init'.length <= 1000000) (hi : is'.length <= 1000000) h => put_any rb n0 K' (.slice A n c, .slice (some ⟨gA, 0, none⟩) 5 cA) (nmM gr sb r) arM ls' init' w0 W' is' t' op sub nn dk dn dv ak an av bk bn bv ck cn cv h hq hi)
 have HINS := lh (fun K' W' (r : Int) ls' (init' : List BlV) (is' : List InstV) t' (hk : K' + 50 <= 1000000) (hq : init'.length <= 1000000) (hi : is'.length + 20 <= 1000000) h => minsts_any rb n0 K' (nmM gr sb r) ls' init' w0 W' A n c f gA cA is' t' h hn hk hB hq hi)
 have HBL := lh (fun K' W' (r : Int) ls' (init' : List BlV) last' (hq : (init' ++ last'.toList).length <= 1000000) h => mblock_any rb n0 K' (nmM gr sb r) arM ls' init' last' w0 W' (.slice A n c, .slice (some ⟨gA, 0, none⟩) 5 cA) h hq)
 have HNX := lh (fun K' W' (r : Int) ls' init' last' (hk : K' <= 1000000) h => next_k rb n0 K' (nmM gr sb r) arM ls' init' last' w0 W' A n c f (.slice (some ⟨gA, 0, none⟩) 5 cA) h hn hk hB)
 have HRG := lh (fun K' W' (r : Int) ls' init' last' (hk : K' <= 1000000) h => reg_k rb n0 K' (nmM gr sb r) arM ls' init' last' w0 W' A n c f (.slice (some ⟨gA, 0, none⟩) 5 cA) h hn hk hB)
 obtain ⟨iL, hL, hL0, hL1, hL2⟩ := info_parts infoLoop
 have HNl := lh hN
 have HPP := lh hP
 have hP1 : P <= 1001 := by omega
 have HH1 := lh h1
 have HIS := lh hisl
 clear hP h1 h2 h3 h4 h5 h6 h7 h8 hN ho8 hB hn hM hm hisl
 go_enter Tryz.func68, Tryz.ntmps68
 go_upto_region 3 with (first | (go_at_call 65; (with_reducible refine HN0.out.mono ?_); rintro e W1 ⟨⟨x, rfl, x0, x1⟩, g1, k1⟩; have d4 : W1.cell? ⟨rb, 4, none⟩ = some _ := g1.num 2 (by decide); have f4 := g1.frozen 4; have hs := g1.setR (6 + 2 * (q : Int) + 2); have HS := lh (And.intro hs.1 (k1.trans hs.2)); clear g1 k1 hs))
 obtain ⟨W2, hW2⟩ : ∃ W2, W1.setCell ⟨rb, 4, none⟩ (.int .i64 (6 + 2 * (q : Int) + 2)) = W2 := ⟨_, rfl⟩
 obtain ⟨bd, hbd⟩ : ∃ bd : Int, 1 + x % 3 = bd := ⟨_, rfl⟩
 have hb3 : 1 <= bd /\ bd <= 3 := by omega
 rw [hW2] at HS ⊢
 rw [hbd]
 obtain ⟨hb31, hb32⟩ := hb3
 have H2 := lh HS.out.1
 have HK2 := lh HS.out.2
 clear hW2 hbd x0 x1 HS HN0 d4 f4 c8
 obtain ⟨g2, p2, c92, _⟩ := H2.out.c9n HNl.out
 have HQ0 := lh (show init.length <= 1000000 by have := HNl.out; omega)
 have HI0 := lh (show is.length <= 1000000 by have := HIS.out; omega)
 go_upto_region 5 with (first
  | (go_at_call 40; (with_reducible refine (Reg_any _ _).mono ?_); rintro e W3 ⟨rfl, hb⟩; have H3 := lh (H2.out.on hb); have HK3 := lh (HK2.out.trans (KM.of hb)); clear hb)
  | (go_at_call 42; (with_reducible refine (Const_any _ _).mono ?_); rintro e W4 ⟨rfl, hb⟩; have H4 := lh (H3.out.on hb); have HK4 := lh (HK3.out.trans (KM.of hb)); clear hb)
  | (go_at_call 107; (with_reducible refine (HPUT.out _ _ _ _ _ _ _ _ _ _ _ _ _ _ _ _ _ _ _ _ _ _ HQ0.out HI0.out H4.out).mono ?_); rintro e W5 ⟨⟨v, rfl⟩, h5, k5⟩; have H5 := lh h5; have HK5 := lh (HK4.out.trans k5); clear h5 k5))
 clear c92
 obtain ⟨g5, p5, c95, cf5⟩ := H5.out.c9n HNl.out
 obtain ⟨⟨_, e1⟩, ⟨_, e2⟩, ⟨_, e3⟩, ⟨_, e4⟩, ⟨_, e5⟩, ⟨_, e6⟩, ⟨_, e7⟩, ⟨_, e8⟩, ⟨_, e9⟩, ⟨_, e10⟩, ⟨_, e11⟩, ⟨_, e12⟩, ⟨_, e13⟩⟩ := H5.out.ends HNl.out c95
 have hlN : (N : Int) < (N : Int) + 1 := by omega
 have hc := H5.out.termN HNl.out c95 ⟨1, 0, ⟨0, 0, 0⟩, ⟨0, 0, 0⟩, ⟨0, 0, 0⟩, (N : Int) + 1, 0⟩
 unfold putE at hc
 simp only at hc
 have HC := lh hc
 clear hc
 go_cut [] (fun wx => Hid (MT rb n0 (.slice A n c, .slice (some ⟨gA, 0, none⟩) 5 cA) (K + 1) (nmM gr sb (6 + 2 * (q : Int) + 2)) arM ls init (some (is ++ [⟨1, 0, 0, ⟨2, 6 + 2 * (q : Int), 0⟩, ⟨1, 0, 0⟩, ⟨0, 0, 0⟩, ⟨0, 0, 0⟩⟩], ⟨1, 0, ⟨0, 0, 0⟩, ⟨0, 0, 0⟩, ⟨0, 0, 0⟩, (P : Int), 0⟩)) w0 wx /\ KM W wx))
 case first =>
  go_wp2
  go_meet
  exact lh ⟨by rw [show (P : Int) = (N : Int) + 1 from by have := HPP.out; omega]; exact HC.out.1, HK5.out.trans HC.out.2⟩
 case rest =>
 have H6 := lh hcut.out.1
 have HK6 := lh hcut.out.2
 rw [show (N : Int) + 1 = (P : Int) from by have := HPP.out; omega]
 clear hcut HC HK5 HK4 HK3 HK2 H5 H4 H3 H2 c95 cf5 e1 e2 e3 e4 e5 e6 e7 e8 e9 e10 e11 e12 e13 hlN
 obtain ⟨e1, he1⟩ : ∃ e1 : BlV, e1 = (is ++ [⟨1, 0, 0, ⟨2, 6 + 2 * (q : Int), 0⟩, ⟨1, 0, 0⟩, ⟨0, 0, 0⟩, ⟨0, 0, 0⟩⟩], ⟨1, 0, ⟨0, 0, 0⟩, ⟨0, 0, 0⟩, ⟨0, 0, 0⟩, (P : Int), 0⟩) := ⟨_, rfl⟩
 rw [<- he1] at H6
 have HE1 := lh he1
 obtain ⟨v8, c8, ho8⟩ := H6.out.c8
 obtain ⟨A8, p8, rfl, _⟩ := own_cells ho8
 rw [HH1.out] at c8 ho8
 have hb85 : ∀ C : Array Value, Below wc.heap.size wc (wc.alloc (.cells C 85)) := fun C => (Below.refl _ _).alloc (Nat.le_refl _) _
 have HR8 := lh (fun C => show (wc.alloc (.cells C 85)).ownsRow n0 85 3 (.slice A8 q p8) q (flatL ls) from row_kept ho8 (below_kept (S := fun _ => True) (hb85 C)) trivial)
 have hsz : n0 <= wc.heap.size + 1 := by have := H6.out.n0le; omega
 have HP8 := lh (fun C (v : Value) (w8 : World) (a : LoV) (hr : w8.ownsRow n0 85 3 v (q + 1) (flatL ls ++ loC a)) (hg : (wc.alloc (.cells C 85)).grownBy w8 (Value.slice A8 q p8).ownBlock) => (H6.out.alloc (.cells C 85)).pushL (v8 := .slice A8 q p8) ((World.cell?_of_block ((hb85 C).block rb (World.block_lt_of_cell? wc ⟨rb, 8, none⟩ c8))).trans c8) (by rw [HH1.out]; exact hr) hg)
 clear ho8 he1
 have hl1 : (init ++ (some e1).toList).length = P := by simp [HNl.out, HPP.out]
 have HL1 := lh hl1
 have HQ1 := lh (show (init ++ (some e1).toList).length <= 1000000 by omega)
 have HI1 := lh (show ([] : List InstV).length <= 1000000 by simp)
 have hwbd : IntKind.i32.wrap bd = bd := IntWalk.i32_in _ (by omega)
 have HKA := lh (fun C => KM.of (hb85 C))
 clear hl1 hb85
 go_upto_region 9 with (first
  | (at_builtin; refine wpList_append_own _ rfl _ _ 33 rfl n0 85 iL (.agg #[(0:Int), (0:Int), (0:Int)]) 3 24 Tryz.underlying33 hL hL0 hL1 hL2 rfl (by decide) (.slice A8 q p8) q (flatL ls) rfl (HR8.out _) ⟨wc.heap.size, 0, none⟩ 1 1 (loC ((P : Int), 6 + 2 * (q : Int), bd)) rfl rfl (row_new wc #[(P : Int), .int .i64 (6 + 2 * (q : Int)), bd] 85) (by simp [loC, Value.oneCell']) (by unfold maxLen; omega) (by omega) (by simpa using hsz) ?_; intro v' w8 hown' hgrow _; obtain ⟨pf, ⟨u8, pc⟩, pm, pk⟩ := HP8.out _ _ _ _ hown' hgrow; have H7 := lh pm; have HK7 := lh (HK6.out.trans ((HKA.out _).trans pk)); obtain ⟨gg, cap8, rfl, _, _⟩ := hown'.form (by omega); clear hown' hgrow pm pk)
  | (go_at_call 69; (with_reducible refine (HBL.out _ _ _ _ _ _ HQ1.out H7.out).mono ?_); rintro e W8 ⟨⟨v, rfl⟩, h8, k8⟩; have H8 := lh h8; have HK8 := lh (HK7.out.trans k8); clear h8 k8)
  | (go_at_call 40; (with_reducible refine (Reg_any _ _).mono ?_); rintro e W9 ⟨rfl, hb⟩; have H9 := lh (H8.out.on hb); have HK9 := lh (HK8.out.trans (KM.of hb)); clear hb)
  | (go_at_call 40; (with_reducible refine (Reg_any _ _).mono ?_); rintro e W10 ⟨rfl, hb⟩; have H10 := lh (H9.out.on hb); have HK10 := lh (HK9.out.trans (KM.of hb)); clear hb)
  | (go_at_call 42; (with_reducible refine (Const_any _ _).mono ?_); rintro e W11 ⟨rfl, hb⟩; have H11 := lh (H10.out.on hb); have HK11 := lh (HK10.out.trans (KM.of hb)); clear hb)
  | (go_at_call 107; (with_reducible refine (HPUT.out _ _ _ _ _ _ _ _ _ _ _ _ _ _ _ _ _ _ _ _ _ _ HQ1.out HI1.out H11.out).mono ?_); rintro e W12 ⟨⟨v, rfl⟩, h12, k12⟩; have H12 := lh h12; have HK12 := lh (HK11.out.trans k12); clear h12 k12))
 obtain ⟨g12, p12, c912, cf12⟩ := H12.out.c9n HL1.out
 have HLT := lh (World.block_lt_of_cell? W12 ⟨rb, 9, none⟩ c912)
 have H12d := lh H12.out.drew
 have hPP : (P : Int) < (P : Int) + 1 := by omega
 have hwP1 : IntKind.i64.wrap ((P : Int) + 1) = (P : Int) + 1 := IntWalk.i64_in _ (by omega)
 have hwP2 : IntKind.i64.wrap ((P : Int) + 2) = (P : Int) + 2 := IntWalk.i64_in _ (by omega)
 have hwq : IntKind.i64.wrap (6 + 2 * (q : Int) + 1) = 6 + 2 * (q : Int) + 1 := IntWalk.i64_in _ (by omega)
 clear H6 HK6 H7 HK7 H8 HK8 H9 HK9 H10 HK10 H11 HK11 HP8 HR8 HKA c8
 go_cut [] (fun wx => Hid (MT rb n0 (.slice A n c, .slice (some ⟨gA, 0, none⟩) 5 cA) (K + 1) (nmM gr sb (6 + 2 * (q : Int) + 2)) arM (ls ++ [((P : Int), 6 + 2 * (q : Int), bd)]) (init ++ (some e1).toList) (some ([⟨3, 26, 0, ⟨2, 6 + 2 * (q : Int) + 1, 0⟩, ⟨2, 6 + 2 * (q : Int), 0⟩, ⟨1, 0, bd⟩, ⟨0, 0, 0⟩⟩], ⟨2, 0, ⟨0, 0, 0⟩, ⟨2, 6 + 2 * (q : Int) + 1, 0⟩, ⟨0, 0, 0⟩, (P : Int) + 1, (P : Int) + 2⟩)) w0 wx /\ KM W wx))
 case first =>
  go_region_with (first
   | (go_at_call 40; (with_reducible refine (Reg_any _ _).mono ?_); rintro e W13 ⟨rfl, hb⟩; have q13 := (K9.of (rb := rb) hb) HLT.out; have c913 := q13.2.trans c912; have h13 := H12d.out.on hb; have cf13 := h13.c9f c913; obtain ⟨⟨_, k1⟩, ⟨_, k2⟩, ⟨_, k3⟩, ⟨_, k4⟩, ⟨_, k5⟩, ⟨_, k6⟩, ⟨_, k7⟩, ⟨_, k8⟩, ⟨_, k9⟩, ⟨_, k10⟩, ⟨_, k11⟩, ⟨_, k12⟩, ⟨_, k13⟩⟩ := h13.ends HL1.out c913; have hc := h13.termN HL1.out c913 ⟨2, 0, ⟨0, 0, 0⟩, ⟨2, 6 + 2 * (q : Int) + 1, 0⟩, ⟨0, 0, 0⟩, (P : Int) + 1, (P : Int) + 2⟩; have HK13 := lh (HK12.out.trans ((KM.dr _).trans (KM.of hb))); unfold putE at hc; simp only at hc; have HC := lh hc; clear q13 h13 hb hc))
  all_goals
   go_wp2
   go_meet
   exact lh ⟨HC.out.1, HK13.out.trans HC.out.2⟩
 case rest =>
 have H14 := lh hcut.out.1
 have HK14 := lh hcut.out.2
 clear hcut H12 H12d HK12 HLT c912 cf12 hwP1 hwP2 hwq
 obtain ⟨e2, he2⟩ : ∃ e2 : BlV, e2 = ([⟨3, 26, 0, ⟨2, 6 + 2 * (q : Int) + 1, 0⟩, ⟨2, 6 + 2 * (q : Int), 0⟩, ⟨1, 0, bd⟩, ⟨0, 0, 0⟩⟩], ⟨2, 0, ⟨0, 0, 0⟩, ⟨2, 6 + 2 * (q : Int) + 1, 0⟩, ⟨0, 0, 0⟩, (P : Int) + 1, (P : Int) + 2⟩) := ⟨_, rfl⟩
 rw [<- he2] at H14
 have HE2 := lh he2
 have hl2 : (init ++ (some e1).toList ++ (some e2).toList).length = P + 1 := by rw [List.length_append, HL1.out]; rfl
 have HL2 := lh hl2
 have HQ2 := lh (show (init ++ (some e1).toList ++ (some e2).toList).length <= 1000000 by omega)
 have hK51 : K + 1 + 50 <= 1000000 := by omega
 clear hl2 he2
 go_upto_region 13 with (first
  | (go_at_call 69; (with_reducible refine (HBL.out _ _ _ _ _ _ HQ2.out H14.out).mono ?_); rintro e W15 ⟨⟨v, rfl⟩, h15, k15⟩; have H15 := lh h15; have HK15 := lh (HK14.out.trans k15); clear h15 k15)
  | (go_at_call 40; (with_reducible refine (Reg_any _ _).mono ?_); rintro e W16 ⟨rfl, hb⟩; have H16 := lh (H15.out.on hb); have HK16 := lh (HK15.out.trans (KM.of hb)); clear hb)
  | (go_at_call 40; (with_reducible refine (Reg_any _ _).mono ?_); rintro e W17 ⟨rfl, hb⟩; have H17 := lh (H16.out.on hb); have HK17 := lh (HK16.out.trans (KM.of hb)); clear hb)
  | (go_at_call 42; (with_reducible refine (Const_any _ _).mono ?_); rintro e W18 ⟨rfl, hb⟩; have H18 := lh (H17.out.on hb); have HK18 := lh (HK17.out.trans (KM.of hb)); clear hb)
  | (go_at_call 107; (with_reducible refine (HPUT.out _ _ _ _ _ _ _ _ _ _ _ _ _ _ _ _ _ _ _ _ _ _ HQ2.out HI1.out H18.out).mono ?_); rintro e W19 ⟨⟨v, rfl⟩, h19, k19⟩; have H19 := lh h19; have HK19 := lh (HK18.out.trans k19); clear h19 k19)
  | (go_at_call 72; (with_reducible refine (HINS.out _ _ _ _ _ _ _ hK51 HQ2.out (by simp) H19.out).mono ?_); rintro e W20 ⟨⟨v, rfl⟩, l, hl1, hl2, h20, k20⟩; have HLL := lh (And.intro hl1 hl2); have H20 := lh h20; have HK20 := lh (HK19.out.trans k20); clear h20 k20 hl1 hl2))
 clear H14 HK14 H15 HK15 H16 HK16 H17 HK17 H18 HK18 H19 HK19
 obtain ⟨g20, p20, c920, cf20⟩ := H20.out.c9n HL2.out
 obtain ⟨⟨_, k1⟩, ⟨_, k2⟩, ⟨_, k3⟩, ⟨_, k4⟩, ⟨_, k5⟩, ⟨_, k6⟩, ⟨_, k7⟩, ⟨_, k8⟩, ⟨_, k9⟩, ⟨_, k10⟩, ⟨_, k11⟩, ⟨_, k12⟩, ⟨_, k13⟩⟩ := H20.out.ends HL2.out c920
 have hPQ : (P : Int) + 1 < (P : Int) + 1 + 1 := by omega
 have hPN : ((P : Int) + 1).toNat = P + 1 := by omega
 have hP0 : 0 <= (P : Int) + 1 := by omega
 have hc := H20.out.termN HL2.out c920 ⟨1, 0, ⟨0, 0, 0⟩, ⟨0, 0, 0⟩, ⟨0, 0, 0⟩, (P : Int), 0⟩
 unfold putE at hc
 simp only at hc
 have HC := lh hc
 clear hc
 go_cut [] (fun wx => Hid (MT rb n0 (.slice A n c, .slice (some ⟨gA, 0, none⟩) 5 cA) (K + 1 + 25) (nmM gr sb (6 + 2 * (q : Int) + 2)) arM (ls ++ [((P : Int), 6 + 2 * (q : Int), bd)]) (init ++ (some e1).toList ++ (some e2).toList) (some (⟨3, 10, 0, ⟨2, 6 + 2 * (q : Int), 0⟩, ⟨2, 6 + 2 * (q : Int), 0⟩, ⟨1, 0, 1⟩, ⟨0, 0, 0⟩⟩ :: l, ⟨1, 0, ⟨0, 0, 0⟩, ⟨0, 0, 0⟩, ⟨0, 0, 0⟩, (P : Int), 0⟩)) w0 wx /\ KM W wx))
 case first =>
  go_wp2
  go_meet
  exact lh ⟨HC.out.1, HK20.out.trans HC.out.2⟩
 case rest =>
 have H21 := lh hcut.out.1
 have HK21 := lh hcut.out.2
 clear hcut HC H20 HK20 c920 cf20 k1 k2 k3 k4 k5 k6 k7 k8 k9 k10 k11 k12 k13
 have hK30 : K + 1 + 25 <= 1000000 := by omega
 have hK31 : K + 1 + 25 + 1 <= 1000000 := by omega
 have hwP1 : IntKind.i64.wrap ((P : Int) + 1) = (P : Int) + 1 := IntWalk.i64_in _ (by omega)
 have hwP2 : IntKind.i64.wrap ((P : Int) + 2) = (P : Int) + 2 := IntWalk.i64_in _ (by omega)
 go_upto_if 119 with (first | (go_at_call 65; (with_reducible refine (HNX.out _ _ _ _ _ _ hK30 H21.out).mono ?_); rintro e W22 ⟨⟨x, rfl, x0, x1⟩, h22, k22, q22⟩; have H22 := lh h22; have HK22 := lh (HK21.out.trans k22); clear h22 k22 q22))
 obtain ⟨qq, hqq⟩ : ∃ qq, (x % 3 == 0) = qq := ⟨_, rfl⟩
 rw [hqq]
 clear hqq x0 x1
 cases qq with
 | false =>
  go_wp2
  go_end0
  refine ⟨⟨_, rfl⟩, HFIN.out bd l _ _ ⟨hb31, hb32⟩ HLL.out.1 HLL.out.2 (tok_jump (x := (P : Int)) (by have := HPP.out; omega) (by omega)) ?_ HK22.out⟩
  have h := H22.out.le (K' := K + 100) (by omega)
  rw [HE1.out, HE2.out] at h
  exact h
 | true =>
  go_upto_region 15 with (fail)
  obtain ⟨g22, p22, c922, cf22⟩ := H22.out.c9n HL2.out
  have HLT := lh (World.block_lt_of_cell? W22 ⟨rb, 9, none⟩ c922)
  have H22d := lh H22.out.drew
  go_region_with (first
   | (go_at_call 70; (with_reducible refine (HRG.out _ _ _ _ _ _ hK31 H22d.out).mono ?_); rintro e W23 ⟨⟨y, rfl, y0, y1⟩, h23, k23, q23⟩; have q24 := q23 HLT.out; have c923 := q24.2.trans c922; have cf23 := h23.c9f c923; obtain ⟨⟨_, k1⟩, ⟨_, k2⟩, ⟨_, k3⟩, ⟨_, k4⟩, ⟨_, k5⟩, ⟨_, k6⟩, ⟨_, k7⟩, ⟨_, k8⟩, ⟨_, k9⟩, ⟨_, k10⟩, ⟨_, k11⟩, ⟨_, k12⟩, ⟨_, k13⟩⟩ := h23.ends HL2.out c923; have hc := h23.termN HL2.out c923 ⟨2, 0, ⟨0, 0, 0⟩, ⟨2, y, 0⟩, ⟨0, 0, 0⟩, (P : Int), (P : Int) + 2⟩; have HK23 := lh (HK22.out.trans ((KM.dr _).trans k23)); unfold putE at hc; simp only at hc; have HC := lh hc; clear q23 q24 h23 k23 hc))
  all_goals
   go_wp2
   go_end0
   refine ⟨⟨_, rfl⟩, HFIN.out bd l _ _ ⟨hb31, hb32⟩ HLL.out.1 HLL.out.2 (tok_branch (c := y) (x := (P : Int)) (y := (P : Int) + 2) (by omega) (by omega) (by have := HPP.out; omega) (by have := HPP.out; omega) (by omega)) ?_ (HK23.out.trans HC.out.2)⟩
   have h := HC.out.1.le (K' := K + 100) (by omega)
   rw [HE1.out, HE2.out] at h
   exact h
end
end Go.Proofs.YtkncilgmlkeifaaGreatDoor
