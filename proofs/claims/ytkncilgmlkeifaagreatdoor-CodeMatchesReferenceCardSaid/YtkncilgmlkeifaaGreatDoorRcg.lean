/-
  The reference's checker: the contracts of size, total and Within.
-/
import Derived.Test.YtkncilgmlkeifaaGreatDoorRcd
import Derived.Test.YtkncilgmlkeifaaGreatDoorChk
import Derived.Test.YtkncilgmlkeifaaGreatDoorLin
set_option linter.unusedVariables false
set_option linter.unusedSimpArgs false
set_option maxRecDepth 100000
set_option maxHeartbeats 4000000
namespace Go.Proofs.YtkncilgmlkeifaaGreatDoor
open Go.ChangeShapes Go.WideShapes Go.ChangeAt Go.RowKit Go.Shelf
def sizR (g s : Int) : Bool := if s = 1 \/ s = 2 \/ s = 4 \/ s = 8 \/ s = 16 \/ s = 32 then wthB g 1 256 && decide (Int.tmod g s = 0) else false
theorem size_r (g s r sl p : Int) (n1 c1 n2 c2 n3 c3 : Nat) (A1 A2 A3 : Option Addr) (w : World) :
 Calls Tryz.prog 77 #[.agg #[g, s, r, sl, p, .slice A1 n1 c1, .slice A2 n2 c2, .slice A3 n3 c3]] w fun e w' => e = .returned (.bool (sizR g s)) /\ Below w.heap.size w w' := by
 have HB := lh (show ∀ o, Below w.heap.size w (w.alloc o) from fun o => bo o)
 have HG := lh (fun W => between_any g 1 256 W)
 go_enter Tryz.func77, Tryz.ntmps77
 go_wp2
 go_loop [3] (fun v => ∃ m : Int, v = .int .i64 m /\ Hid ((m = 1) \/ (m = 2 /\ s ≠ 1) \/ (m = 4 /\ s ≠ 1 /\ s ≠ 2) \/ (m = 8 /\ s ≠ 1 /\ s ≠ 2 /\ s ≠ 4) \/ (m = 16 /\ s ≠ 1 /\ s ≠ 2 /\ s ≠ 4 /\ s ≠ 8) \/ (m = 32 /\ s ≠ 1 /\ s ≠ 2 /\ s ≠ 4 /\ s ≠ 8 /\ s ≠ 16) \/ (m = 64 /\ s ≠ 1 /\ s ≠ 2 /\ s ≠ 4 /\ s ≠ 8 /\ s ≠ 16 /\ s ≠ 32))) (fun v => 64 - (intOf v).toNat)
 case atStart => exact ⟨1, rfl, lh (.inl rfl)⟩
 case round =>
  obtain ⟨m, rfl, HM⟩ := hrel
  have hm := HM.out
  clear HM
  rcases hm with rfl | ⟨rfl, h0⟩ | ⟨rfl, h0, h1⟩ | ⟨rfl, h0, h1, h2⟩ | ⟨rfl, h0, h1, h2, h3⟩ | ⟨rfl, h0, h1, h2, h3, h4⟩ | ⟨rfl, h0, h1, h2, h3, h4, h5⟩
  . by_cases hs : s = 1
    . subst hs
      have HR := lh (show sizR g 1 = (wthB g 1 256 && decide (Int.tmod g 1 = 0)) from if_pos (by decide))
      cases hw : wthB g 1 256 with
      | false =>
       have HW := HG.out
       rw [hw] at HW HR
       have HW' := lh HW
       clear HW hw
       go_wp2_with (go_at_call 79; (with_reducible refine (HW'.out _).mono ?_); rintro e w1 ⟨rfl, rfl⟩)
       go_ret
       exact ⟨ret_b HR.out.symm, HB.out _⟩
      | true =>
       have HW := HG.out
       rw [hw, Bool.true_and] at HR
       rw [hw] at HW
       have HW' := lh HW
       clear HW hw
       by_cases hg : Int.tmod g 1 = 0
       . have hg' : (Int.tmod g 1 == 0) = true := by simp
         have HR2 := lh (HR.out.trans (decide_eq_true hg))
         go_wp2_with (go_at_call 79; (with_reducible refine (HW'.out _).mono ?_); rintro e w1 ⟨rfl, rfl⟩)
         go_ret
         exact ⟨ret_b (HR2.out.symm), HB.out _⟩
       . exact absurd (Int.tmod_one g) hg
    . have e1 : (s == 1) = false := by simpa using hs
      have HN := lh (And.intro hs (show True from trivial))
      go_wp2
      go_round
      case rel => exact ⟨2, by first | rfl | go_num, lh (by have := HN.out.1; omega)⟩
      case measure => simp [intOf]
  . by_cases hs : s = 2
    . subst hs
      have HR := lh (show sizR g 2 = (wthB g 1 256 && decide (Int.tmod g 2 = 0)) from if_pos (by decide))
      cases hw : wthB g 1 256 with
      | false =>
       have HW := HG.out
       rw [hw] at HW HR
       have HW' := lh HW
       clear HW hw
       go_wp2_with (go_at_call 79; (with_reducible refine (HW'.out _).mono ?_); rintro e w1 ⟨rfl, rfl⟩)
       go_ret
       exact ⟨ret_b HR.out.symm, HB.out _⟩
      | true =>
       have HW := HG.out
       rw [hw, Bool.true_and] at HR
       rw [hw] at HW
       have HW' := lh HW
       clear HW hw
       by_cases hg : Int.tmod g 2 = 0
       . have hg' : (Int.tmod g 2 == 0) = true := by simpa using hg
         have HR2 := lh (HR.out.trans (decide_eq_true hg))
         go_wp2_with (go_at_call 79; (with_reducible refine (HW'.out _).mono ?_); rintro e w1 ⟨rfl, rfl⟩)
         go_ret
         exact ⟨ret_b (HR2.out.symm), HB.out _⟩
       . have hg' : (Int.tmod g 2 == 0) = false := by simpa using hg
         have HR2 := lh (HR.out.trans (decide_eq_false hg))
         go_wp2_with (go_at_call 79; (with_reducible refine (HW'.out _).mono ?_); rintro e w1 ⟨rfl, rfl⟩)
         go_ret
         exact ⟨ret_b (HR2.out.symm), HB.out _⟩
    . have e1 : (s == 2) = false := by simpa using hs
      have HN := lh (And.intro hs (show True from trivial))
      go_wp2
      go_round
      case rel => exact ⟨4, by first | rfl | go_num, lh (by have := HN.out.1; omega)⟩
      case measure => simp [intOf]
  . by_cases hs : s = 4
    . subst hs
      have HR := lh (show sizR g 4 = (wthB g 1 256 && decide (Int.tmod g 4 = 0)) from if_pos (by decide))
      cases hw : wthB g 1 256 with
      | false =>
       have HW := HG.out
       rw [hw] at HW HR
       have HW' := lh HW
       clear HW hw
       go_wp2_with (go_at_call 79; (with_reducible refine (HW'.out _).mono ?_); rintro e w1 ⟨rfl, rfl⟩)
       go_ret
       exact ⟨ret_b HR.out.symm, HB.out _⟩
      | true =>
       have HW := HG.out
       rw [hw, Bool.true_and] at HR
       rw [hw] at HW
       have HW' := lh HW
       clear HW hw
       by_cases hg : Int.tmod g 4 = 0
       . have hg' : (Int.tmod g 4 == 0) = true := by simpa using hg
         have HR2 := lh (HR.out.trans (decide_eq_true hg))
         go_wp2_with (go_at_call 79; (with_reducible refine (HW'.out _).mono ?_); rintro e w1 ⟨rfl, rfl⟩)
         go_ret
         exact ⟨ret_b (HR2.out.symm), HB.out _⟩
       . have hg' : (Int.tmod g 4 == 0) = false := by simpa using hg
         have HR2 := lh (HR.out.trans (decide_eq_false hg))
         go_wp2_with (go_at_call 79; (with_reducible refine (HW'.out _).mono ?_); rintro e w1 ⟨rfl, rfl⟩)
         go_ret
         exact ⟨ret_b (HR2.out.symm), HB.out _⟩
    . have e1 : (s == 4) = false := by simpa using hs
      have HN := lh (And.intro hs (show True from trivial))
      go_wp2
      go_round
      case rel => exact ⟨8, by first | rfl | go_num, lh (by have := HN.out.1; omega)⟩
      case measure => simp [intOf]
  . by_cases hs : s = 8
    . subst hs
      have HR := lh (show sizR g 8 = (wthB g 1 256 && decide (Int.tmod g 8 = 0)) from if_pos (by decide))
      cases hw : wthB g 1 256 with
      | false =>
       have HW := HG.out
       rw [hw] at HW HR
       have HW' := lh HW
       clear HW hw
       go_wp2_with (go_at_call 79; (with_reducible refine (HW'.out _).mono ?_); rintro e w1 ⟨rfl, rfl⟩)
       go_ret
       exact ⟨ret_b HR.out.symm, HB.out _⟩
      | true =>
       have HW := HG.out
       rw [hw, Bool.true_and] at HR
       rw [hw] at HW
       have HW' := lh HW
       clear HW hw
       by_cases hg : Int.tmod g 8 = 0
       . have hg' : (Int.tmod g 8 == 0) = true := by simpa using hg
         have HR2 := lh (HR.out.trans (decide_eq_true hg))
         go_wp2_with (go_at_call 79; (with_reducible refine (HW'.out _).mono ?_); rintro e w1 ⟨rfl, rfl⟩)
         go_ret
         exact ⟨ret_b (HR2.out.symm), HB.out _⟩
       . have hg' : (Int.tmod g 8 == 0) = false := by simpa using hg
         have HR2 := lh (HR.out.trans (decide_eq_false hg))
         go_wp2_with (go_at_call 79; (with_reducible refine (HW'.out _).mono ?_); rintro e w1 ⟨rfl, rfl⟩)
         go_ret
         exact ⟨ret_b (HR2.out.symm), HB.out _⟩
    . have e1 : (s == 8) = false := by simpa using hs
      have HN := lh (And.intro hs (show True from trivial))
      go_wp2
      go_round
      case rel => exact ⟨16, by first | rfl | go_num, lh (by have := HN.out.1; omega)⟩
      case measure => simp [intOf]
  . by_cases hs : s = 16
    . subst hs
      have HR := lh (show sizR g 16 = (wthB g 1 256 && decide (Int.tmod g 16 = 0)) from if_pos (by decide))
      cases hw : wthB g 1 256 with
      | false =>
       have HW := HG.out
       rw [hw] at HW HR
       have HW' := lh HW
       clear HW hw
       go_wp2_with (go_at_call 79; (with_reducible refine (HW'.out _).mono ?_); rintro e w1 ⟨rfl, rfl⟩)
       go_ret
       exact ⟨ret_b HR.out.symm, HB.out _⟩
      | true =>
       have HW := HG.out
       rw [hw, Bool.true_and] at HR
       rw [hw] at HW
       have HW' := lh HW
       clear HW hw
       by_cases hg : Int.tmod g 16 = 0
       . have hg' : (Int.tmod g 16 == 0) = true := by simpa using hg
         have HR2 := lh (HR.out.trans (decide_eq_true hg))
         go_wp2_with (go_at_call 79; (with_reducible refine (HW'.out _).mono ?_); rintro e w1 ⟨rfl, rfl⟩)
         go_ret
         exact ⟨ret_b (HR2.out.symm), HB.out _⟩
       . have hg' : (Int.tmod g 16 == 0) = false := by simpa using hg
         have HR2 := lh (HR.out.trans (decide_eq_false hg))
         go_wp2_with (go_at_call 79; (with_reducible refine (HW'.out _).mono ?_); rintro e w1 ⟨rfl, rfl⟩)
         go_ret
         exact ⟨ret_b (HR2.out.symm), HB.out _⟩
    . have e1 : (s == 16) = false := by simpa using hs
      have HN := lh (And.intro hs (show True from trivial))
      go_wp2
      go_round
      case rel => exact ⟨32, by first | rfl | go_num, lh (by have := HN.out.1; omega)⟩
      case measure => simp [intOf]
  . by_cases hs : s = 32
    . subst hs
      have HR := lh (show sizR g 32 = (wthB g 1 256 && decide (Int.tmod g 32 = 0)) from if_pos (by decide))
      cases hw : wthB g 1 256 with
      | false =>
       have HW := HG.out
       rw [hw] at HW HR
       have HW' := lh HW
       clear HW hw
       go_wp2_with (go_at_call 79; (with_reducible refine (HW'.out _).mono ?_); rintro e w1 ⟨rfl, rfl⟩)
       go_ret
       exact ⟨ret_b HR.out.symm, HB.out _⟩
      | true =>
       have HW := HG.out
       rw [hw, Bool.true_and] at HR
       rw [hw] at HW
       have HW' := lh HW
       clear HW hw
       by_cases hg : Int.tmod g 32 = 0
       . have hg' : (Int.tmod g 32 == 0) = true := by simpa using hg
         have HR2 := lh (HR.out.trans (decide_eq_true hg))
         go_wp2_with (go_at_call 79; (with_reducible refine (HW'.out _).mono ?_); rintro e w1 ⟨rfl, rfl⟩)
         go_ret
         exact ⟨ret_b (HR2.out.symm), HB.out _⟩
       . have hg' : (Int.tmod g 32 == 0) = false := by simpa using hg
         have HR2 := lh (HR.out.trans (decide_eq_false hg))
         go_wp2_with (go_at_call 79; (with_reducible refine (HW'.out _).mono ?_); rintro e w1 ⟨rfl, rfl⟩)
         go_ret
         exact ⟨ret_b (HR2.out.symm), HB.out _⟩
    . have e1 : (s == 32) = false := by simpa using hs
      have HN := lh (And.intro hs (show True from trivial))
      go_wp2
      go_round
      case rel => exact ⟨64, by first | rfl | go_num, lh (by have := HN.out.1; omega)⟩
      case measure => simp [intOf]
  . have HR := lh (show sizR g s = false from if_neg (by omega))
    clear h0 h1 h2 h3 h4 h5
    go_wp2
    go_ret
    exact ⟨ret_b HR.out.symm, HB.out _⟩
theorem total_r (g s r sl p : Int) (n1 c1 n2 c2 n3 c3 : Nat) (A1 A2 A3 : Option Addr) (IA : Nat -> Option Addr) (IL IC : Nat -> Nat) (T : Nat -> TermV) (w : World) (h3 : RBl w w.heap.size A3 n3 IA IL IC T) (hI : ∀ j, j < n3 -> IL j <= 65536) (hn : n3 <= 65536) :
 Calls Tryz.prog 76 #[.agg #[g, s, r, sl, p, .slice A1 n1 c1, .slice A2 n2 c2, .slice A3 n3 c3]] w fun e w' => e = .returned (.int .i64 (sumL IL n3 : Nat)) /\ Below w.heap.size w w' := by
 have HB := lh (show Below w.heap.size w (w.alloc (.cells #[g, s, r, sl, p, .slice A1 n1 c1, .slice A2 n2 c2, .slice A3 n3 c3] 36)) from bo _)
 have HX := lh (show (w.alloc (.cells #[g, s, r, sl, p, .slice A1 n1 c1, .slice A2 n2 c2, .slice A3 n3 c3] 36)).heap[w.heap.size]? = some (.cells #[g, s, r, sl, p, .slice A1 n1 c1, .slice A2 n2 c2, .slice A3 n3 c3] 36 (0, 0)) from heap_alloc_new _ _)
 have HS := lh (sumL_le hI)
 have HI := lh hI
 have H3 := lh (h3.below HB.out)
 clear h3 hI
 go_enter Tryz.func76, Tryz.ntmps76
 go_upto_region 3 with (fail)
 generalize (w.alloc (.cells #[g, s, r, sl, p, .slice A1 n1 c1, .slice A2 n2 c2, .slice A3 n3 c3] 36)) = W1 at *
 have hx := HX.out
 have kc0 := cell_blk hx (i := 0) rfl
 have kc1 := cell_blk hx (i := 1) rfl
 have kc2 := cell_blk hx (i := 2) rfl
 have kc3 := cell_blk hx (i := 3) rfl
 have kc4 := cell_blk hx (i := 4) rfl
 have kc5 := cell_blk hx (i := 5) rfl
 have kc6 := cell_blk hx (i := 6) rfl
 have kc7 := cell_blk hx (i := 7) rfl
 clear hx
 go_loop [3, 4] (fun t i => ∃ k : Nat, k <= n3 /\ i = .int .i64 k /\ t = .int .i64 (sumL IL k : Nat)) (fun _ i => n3 - (intOf i).toNat)
 case atStart => exact ⟨0, Nat.zero_le _, rfl, rfl⟩
 case round =>
  obtain ⟨k, hk, rfl, rfl⟩ := hrel
  have hs := HS.out k hk
  by_cases hlt : k < n3
  . obtain ⟨b, off, rfl, hb3, hc⟩ := H3.out (by omega)
    obtain ⟨m0, _⟩ := hc k hlt
    have hi := HI.out k hlt
    have hki : (k : Int) < (n3 : Int) := by omega
    have HSL := lh (show sumL IL (k + 1) = sumL IL k + IL k from rfl)
    clear hc
    go_wp2
    go_round
    case rel => exact ⟨k + 1, by omega, by go_num, by rw [HSL.out]; go_num⟩
    case measure => simp [intOf]; omega
  . obtain rfl : k = n3 := by omega
    have hki : ¬ (k : Int) < (k : Int) := by omega
    go_wp2
    go_ret
    exact ⟨rfl, HB.out⟩
theorem within_r (g s r sl p : Int) (n1 c1 n2 c2 n3 c3 : Nat) (A1 A2 A3 : Option Addr) (nm : Nat -> ByteArray) (sp ty ln : Nat -> Int) (IA : Nat -> Option Addr) (IL IC : Nat -> Nat) (T : Nat -> TermV) (w : World) (h1 : RAr w w.heap.size A1 n1 nm sp ty ln) (h3 : RBl w w.heap.size A3 n3 IA IL IC T) (hI : ∀ j, j < n3 -> IL j <= 65536) (hn1 : n1 <= 65536) (hn2 : n2 <= 65536) (hn3 : n3 <= 65536) (hnm : ∀ j, j < n1 -> (nm j).size <= 9223372036854775807) :
 Calls Tryz.prog 46 #[.agg #[g, s, r, sl, p, .slice A1 n1 c1, .slice A2 n2 c2, .slice A3 n3 c3]] w fun e w' => e = .returned (.bool (limB r sl p n1 n2 n3 IL nm)) /\ Below w.heap.size w w' := by
 obtain ⟨res, hres⟩ : ∃ res, limB r sl p n1 n2 n3 IL nm = res := ⟨_, rfl⟩
 rw [hres]
 have HT0 := lh (fun (V : World) (hV : Below w.heap.size w V) => total_r g s r sl p n1 c1 n2 c2 n3 c3 A1 A2 A3 IA IL IC T V (RBl.at h3 hV) hI hn3)
 have HSL := lh (sumL_le hI n3 (Nat.le_refl _))
 obtain ⟨S, hS⟩ : ∃ S, sumL IL n3 = S := ⟨_, rfl⟩
 have HLIM := lh (show res = (decide (n1 <= 8) && (decide (n2 <= 400) && (decide (n3 <= 400) && (decide (r <= 256) && (decide (sl <= 256) && (decide (p <= 8) && (decide (S <= 2000) && (List.range n1).all fun j => decide (((nm j).size : Int) <= 12)))))))) from by rw [<- hres, <- hS]; rfl)
 rw [hS] at HT0 HSL
 have HSB := HSL.out
 have HB := lh (show Below w.heap.size w (w.alloc (.cells #[g, s, r, sl, p, .slice A1 n1 c1, .slice A2 n2 c2, .slice A3 n3 c3] 36)) from bo _)
 have HX := lh (show (w.alloc (.cells #[g, s, r, sl, p, .slice A1 n1 c1, .slice A2 n2 c2, .slice A3 n3 c3] 36)).heap[w.heap.size]? = some (.cells #[g, s, r, sl, p, .slice A1 n1 c1, .slice A2 n2 c2, .slice A3 n3 c3] 36 (0, 0)) from heap_alloc_new _ _)
 have H1 := lh h1
 have HNM := lh hnm
 clear hres hS h1 h3 hI hnm HSL
 have hS2 : S <= 4294967296 := Nat.le_trans HSB (Nat.mul_le_mul_right 65536 hn3)
 clear HSB
 go_enter Tryz.func46, Tryz.ntmps46
 go_upto_region 1 with (fail)
 have HW1 : Hid (Below w.heap.size w (w.alloc (.cells #[g, s, r, sl, p, .slice A1 n1 c1, .slice A2 n2 c2, .slice A3 n3 c3] 36))) := HB
 obtain ⟨W1, hW1⟩ : ∃ W1, w.alloc (.cells #[g, s, r, sl, p, .slice A1 n1 c1, .slice A2 n2 c2, .slice A3 n3 c3] 36) = W1 := ⟨_, rfl⟩
 rw [hW1] at HB HX ⊢
 clear HW1 hW1
 have HALL := lh (show ∀ V, Below W1.heap.size W1 V -> V.cell? ⟨w.heap.size, 0, none⟩ = some (.int .i64 g) /\ V.cell? ⟨w.heap.size, 1, none⟩ = some (.int .i64 s) /\ V.cell? ⟨w.heap.size, 2, none⟩ = some (.int .i64 r) /\ V.cell? ⟨w.heap.size, 3, none⟩ = some (.int .i64 sl) /\ V.cell? ⟨w.heap.size, 4, none⟩ = some (.int .i64 p) /\ V.cell? ⟨w.heap.size, 5, none⟩ = some (.slice A1 n1 c1) /\ V.cell? ⟨w.heap.size, 6, none⟩ = some (.slice A2 n2 c2) /\ V.cell? ⟨w.heap.size, 7, none⟩ = some (.slice A3 n3 c3) from fun V hV => by
  have q := (hV.block _ (Array.getElem?_eq_some_iff.1 HX.out).1).trans HX.out
  exact ⟨cell_blk q (i := 0) rfl, cell_blk q (i := 1) rfl, cell_blk q (i := 2) rfl, cell_blk q (i := 3) rfl, cell_blk q (i := 4) rfl, cell_blk q (i := 5) rfl, cell_blk q (i := 6) rfl, cell_blk q (i := 7) rfl⟩)
 have HBc := lh (Below.refl W1.heap.size W1)
 have HTT := lh (fun (V : World) (hV : Below W1.heap.size W1 V) => HT0.out V (HB.out.trans (hV.mono HB.out.size)))
 have HOUT := lh (fun (V : World) (hV : Below W1.heap.size W1 V) => HB.out.trans (hV.mono HB.out.size))
 obtain ⟨a0, a1, a2, a3, a4, a5, a6, a7⟩ := HALL.out _ HBc.out
 clear HT0 HX HB
 by_cases q0 : n1 <= 8
 rotate_left
 . have p0 : (8 : Int) < (n1 : Int) := by omega
   have HRES := lh (show false = res from by rw [HLIM.out, decide_eq_false q0]; simp)
   clear q0
   go_wp2_with (go_at_call 76; (with_reducible refine (HTT.out _ HBc.out).mono ?_); rintro e x1 ⟨rfl, hbx⟩; replace HBc := lh (HBc.out.trans (hbx.mono HBc.out.size)); obtain ⟨e0, e1, e2, e3, e4, e5, e6, e7⟩ := HALL.out _ HBc.out; clear hbx)
   go_ret
   exact ⟨ret_b HRES.out, HOUT.out _ HBc.out⟩
 have p0 : ¬ (8 : Int) < (n1 : Int) := by omega
 by_cases q1 : n3 <= 400
 rotate_left
 . have p1 : (400 : Int) < (n3 : Int) := by omega
   have HRES := lh (show false = res from by rw [HLIM.out, decide_eq_false q1]; simp)
   clear q1
   go_wp2_with (go_at_call 76; (with_reducible refine (HTT.out _ HBc.out).mono ?_); rintro e x1 ⟨rfl, hbx⟩; replace HBc := lh (HBc.out.trans (hbx.mono HBc.out.size)); obtain ⟨e0, e1, e2, e3, e4, e5, e6, e7⟩ := HALL.out _ HBc.out; clear hbx)
   go_ret
   exact ⟨ret_b HRES.out, HOUT.out _ HBc.out⟩
 have p1 : ¬ (400 : Int) < (n3 : Int) := by omega
 by_cases q2 : S <= 2000
 rotate_left
 . have p2 : (2000 : Int) < (S : Int) := by omega
   have HRES := lh (show false = res from by rw [HLIM.out, decide_eq_false q2]; simp)
   clear q2
   go_wp2_with (go_at_call 76; (with_reducible refine (HTT.out _ HBc.out).mono ?_); rintro e x1 ⟨rfl, hbx⟩; replace HBc := lh (HBc.out.trans (hbx.mono HBc.out.size)); obtain ⟨e0, e1, e2, e3, e4, e5, e6, e7⟩ := HALL.out _ HBc.out; clear hbx)
   go_ret
   exact ⟨ret_b HRES.out, HOUT.out _ HBc.out⟩
 have p2 : ¬ (2000 : Int) < (S : Int) := by omega
 by_cases q3 : n2 <= 400
 rotate_left
 . have p3 : (400 : Int) < (n2 : Int) := by omega
   have HRES := lh (show false = res from by rw [HLIM.out, decide_eq_false q3]; simp)
   clear q3
   go_wp2_with (go_at_call 76; (with_reducible refine (HTT.out _ HBc.out).mono ?_); rintro e x1 ⟨rfl, hbx⟩; replace HBc := lh (HBc.out.trans (hbx.mono HBc.out.size)); obtain ⟨e0, e1, e2, e3, e4, e5, e6, e7⟩ := HALL.out _ HBc.out; clear hbx)
   go_ret
   exact ⟨ret_b HRES.out, HOUT.out _ HBc.out⟩
 have p3 : ¬ (400 : Int) < (n2 : Int) := by omega
 by_cases q4 : r <= 256
 rotate_left
 . have p4 : 256 < r := by omega
   have HRES := lh (show false = res from by rw [HLIM.out, decide_eq_false q4]; simp)
   clear q4
   go_wp2_with (go_at_call 76; (with_reducible refine (HTT.out _ HBc.out).mono ?_); rintro e x1 ⟨rfl, hbx⟩; replace HBc := lh (HBc.out.trans (hbx.mono HBc.out.size)); obtain ⟨e0, e1, e2, e3, e4, e5, e6, e7⟩ := HALL.out _ HBc.out; clear hbx)
   go_ret
   exact ⟨ret_b HRES.out, HOUT.out _ HBc.out⟩
 have p4 : ¬ 256 < r := by omega
 by_cases q5 : sl <= 256
 rotate_left
 . have p5 : 256 < sl := by omega
   have HRES := lh (show false = res from by rw [HLIM.out, decide_eq_false q5]; simp)
   clear q5
   go_wp2_with (go_at_call 76; (with_reducible refine (HTT.out _ HBc.out).mono ?_); rintro e x1 ⟨rfl, hbx⟩; replace HBc := lh (HBc.out.trans (hbx.mono HBc.out.size)); obtain ⟨e0, e1, e2, e3, e4, e5, e6, e7⟩ := HALL.out _ HBc.out; clear hbx)
   go_ret
   exact ⟨ret_b HRES.out, HOUT.out _ HBc.out⟩
 have p5 : ¬ 256 < sl := by omega
 by_cases q6 : p <= 8
 rotate_left
 . have p6 : 8 < p := by omega
   have HRES := lh (show false = res from by rw [HLIM.out, decide_eq_false q6]; simp)
   clear q6
   go_wp2_with (go_at_call 76; (with_reducible refine (HTT.out _ HBc.out).mono ?_); rintro e x1 ⟨rfl, hbx⟩; replace HBc := lh (HBc.out.trans (hbx.mono HBc.out.size)); obtain ⟨e0, e1, e2, e3, e4, e5, e6, e7⟩ := HALL.out _ HBc.out; clear hbx)
   go_ret
   exact ⟨ret_b HRES.out, HOUT.out _ HBc.out⟩
 have p6 : ¬ 8 < p := by omega
 have HRES := lh (show (List.range n1).all (fun j => decide (((nm j).size : Int) <= 12)) = res from by rw [HLIM.out, decide_eq_true q0, decide_eq_true q1, decide_eq_true q2, decide_eq_true q3, decide_eq_true q4, decide_eq_true q5, decide_eq_true q6]; simp only [Bool.true_and])
 clear q0 q1 q2 q3 q4 q5 q6
 go_upto_region 4 with (go_at_call 76; (with_reducible refine (HTT.out _ HBc.out).mono ?_); rintro e x1 ⟨rfl, hbx⟩; replace HBc := lh (HBc.out.trans (hbx.mono HBc.out.size)); obtain ⟨e0, e1, e2, e3, e4, e5, e6, e7⟩ := HALL.out _ HBc.out; clear hbx)
 clear p1 p2 p3 p4 p5 p6
 have HW := HBc
 generalize x1 = W2 at *
 go_loop [3] (fun i => ∃ k : Nat, k <= n1 /\ i = .int .i64 k /\ Hid (∀ j, j < k -> decide (((nm j).size : Int) <= 12) = true)) (fun i => n1 - (intOf i).toNat)
 case atStart => exact ⟨0, Nat.zero_le _, rfl, lh (fun j hj => absurd hj (by omega))⟩
 case round =>
  obtain ⟨k, hk, rfl, HJ⟩ := hrel
  by_cases hlt : k < n1
  . have hki : (k : Int) < (n1 : Int) := by omega
    obtain ⟨b, off, rfl, hb1, hc⟩ := (H1.out.below (HOUT.out _ HBc.out)) (by omega)
    obtain ⟨m0, _⟩ := hc k hlt
    have hz := HNM.out k hlt
    have HK := lh (show ∀ v, decide (((nm k).size : Int) <= 12) = v -> v = true -> ∀ j, j < k + 1 -> decide (((nm j).size : Int) <= 12) = true from fun v hv hv2 j hj => by
     by_cases e : j = k
     . rw [e, hv, hv2]
     . exact HJ.out j (by omega))
    have HN := lh (show decide (((nm k).size : Int) <= 12) = false -> false = res from fun h => by
     rw [<- HRES.out]
     symm
     rw [Bool.eq_false_iff, ne_eq, List.all_eq_true]
     intro hh
     have := hh k (by simpa using hlt)
     rw [h] at this
     cases this)
    obtain ⟨nk, hnk⟩ : ∃ nk, nm k = nk := ⟨_, rfl⟩
    rw [hnk] at m0 hz HK HN
    clear hc hnk
    by_cases h12 : (nk.size : Int) <= 12
    . have h12' : ¬ (12 : Int) < (nk.size : Int) := by omega
      have HG := lh (HK.out true (decide_eq_true h12) rfl)
      clear h12
      go_wp2
      go_round
      case rel => exact ⟨k + 1, by omega, by go_num, HG⟩
      case measure => simp [intOf]; omega
    . have h12' : (12 : Int) < (nk.size : Int) := by omega
      have HG := lh (HN.out (decide_eq_false h12))
      clear h12
      go_wp2
      go_ret
      exact ⟨ret_b HG.out, HOUT.out _ HBc.out⟩
  . obtain rfl : k = n1 := by omega
    have hki : ¬ (k : Int) < (k : Int) := by omega
    have HG := lh (show true = res from by
     rw [<- HRES.out]
     symm
     rw [List.all_eq_true]
     exact fun j hj => HJ.out j (by simpa using hj))
    go_wp2
    go_ret
    exact ⟨ret_b HG.out, HOUT.out _ HBc.out⟩
end Go.Proofs.YtkncilgmlkeifaaGreatDoor
