import Derived.Test.YtkncilgmlkeifaaGreatDoorTkp
import Derived.Test.YtkncilgmlkeifaaGreatDoorAll
import Derived.Test.YtkncilgmlkeifaaGreatDoorGrd
import Derived.Test.YtkncilgmlkeifaaGreatDoorLin
import Derived.Deep.RegionHeld3
import Derived.Test.YtkncilgmlkeifaaGreatDoorChk
/-
  The reference's checker: contracts of between, letter, name, target, register, value, Atomic, sub.
-/
set_option linter.unusedVariables false
set_option linter.unusedSimpArgs false
set_option maxRecDepth 100000
set_option maxHeartbeats 4000000
namespace Go.Proofs.YtkncilgmlkeifaaGreatDoor
open Go.ChangeShapes Go.WideShapes Go.ChangeAt Go.RowKit Go.Shelf
theorem between_any (n lo hi : Int) (w : World) : Calls Tryz.prog 79 #[n, lo, hi] w fun e w' => e = .returned (.bool (wthB n lo hi)) /\ w = w' := by
 unfold wthB
 by_cases h1 : lo <= n
 . simp only [decide_eq_true h1, Bool.true_and]
   go_enter Tryz.func79, Tryz.ntmps79
   go_wp2
   go_ret
   exact ⟨rfl, rfl⟩
 . simp only [decide_eq_false h1, Bool.false_and]
   go_enter Tryz.func79, Tryz.ntmps79
   go_wp2
   go_ret
   exact ⟨rfl, rfl⟩
def letB (c : UInt8) : Bool := decide (97 <= (c.toNat : Int)) && decide ((c.toNat : Int) <= 122) || decide (65 <= (c.toNat : Int)) && decide ((c.toNat : Int) <= 90)
theorem letter_any (c : UInt8) (w : World) : Calls Tryz.prog 115 #[.int .u8 c.toNat] w fun e w' => e = .returned (.bool (letB c)) /\ w = w' := by
 unfold letB
 by_cases h1 : 97 <= (c.toNat : Int)
 . by_cases h2 : (c.toNat : Int) <= 122
   . simp only [decide_eq_true h1, decide_eq_true h2, Bool.true_and, Bool.true_or]
     go_enter Tryz.func115, Tryz.ntmps115
     go_wp2
     go_ret
     exact ⟨rfl, rfl⟩
   . have h3 : ¬ (c.toNat : Int) <= 90 := by omega
     have h4 : 65 <= (c.toNat : Int) := by omega
     simp only [decide_eq_true h1, decide_eq_false h2, decide_eq_false h3, decide_eq_true h4, Bool.true_and, Bool.or_false]
     go_enter Tryz.func115, Tryz.ntmps115
     go_wp2
     go_ret
     exact ⟨rfl, rfl⟩
 . by_cases h2 : 65 <= (c.toNat : Int)
   . simp only [decide_eq_false h1, decide_eq_true h2, Bool.true_and, Bool.false_and, Bool.false_or]
     go_enter Tryz.func115, Tryz.ntmps115
     go_wp2
     go_ret
     exact ⟨rfl, rfl⟩
   . simp only [decide_eq_false h1, decide_eq_false h2, Bool.false_and, Bool.false_or]
     go_enter Tryz.func115, Tryz.ntmps115
     go_wp2
     go_ret
     exact ⟨rfl, rfl⟩
theorem okC_let (c : UInt8) (i : Nat) : okC c i = (letB c || (decide (48 <= (c.toNat : Int)) && decide ((c.toNat : Int) <= 57) && decide (0 < i))) := rfl
theorem name_any (s : ByteArray) (w : World) (hs : s.size <= 9223372036854775807) : Calls Tryz.prog 78 #[.string s] w fun e w' => e = .returned (.bool (nameB s)) /\ w = w' := by
 have HF := lh (fun i hi h => nameB_false (s := s) (i := i) hi h)
 have HT := lh (fun h => nameB_true (s := s) h)
 obtain ⟨nb, hnb⟩ : ∃ nb, nameB s = nb := ⟨_, rfl⟩
 rw [hnb] at HF HT ⊢
 clear hnb
 go_enter Tryz.func78, Tryz.ntmps78
 go_wp2
 go_loop [3] (fun i => ∃ k : Nat, k <= s.size /\ i = .int .i64 k /\ Hid (∀ i (hi : i < s.size), i < k -> okC s[i] i = true)) (fun i => s.size - (intOf i).toNat)
 case atStart => exact ⟨0, Nat.zero_le _, rfl, lh (fun i hi h => absurd h (by omega))⟩
 case round =>
  obtain ⟨k, hk, rfl, hall⟩ := hrel
  by_cases hlt : k < s.size
  . obtain ⟨c, hc⟩ : ∃ c, s[k] = c := ⟨_, rfl⟩
    have HFK := lh (HF.out k hlt)
    have hnext : okC c k = true -> ∀ i (hi : i < s.size), i < k + 1 -> okC s[i] i = true := fun h i hi hik => by
     by_cases e : i = k
     . subst e; rw [hc]; exact h
     . exact hall.out i hi (by omega)
    have HN := lh hnext
    rw [hc] at HFK
    have HC := lh hc
    clear hnext hall hc
    have hcb : s[k] = c := HC.out
    have HL := lh (fun W => letter_any c W)
    cases hl : letB c with
    | true =>
     rw [hl] at HL
     have HG := lh (HN.out (by rw [okC_let, hl]; rfl))
     clear hl
     go_wp2_with (go_at_call 115; (with_reducible refine (HL.out _).mono ?_); rintro e w1 ⟨rfl, rfl⟩)
     go_round
     case rel => exact ⟨k + 1, by omega, by go_num, HG⟩
     case measure => simp [intOf]; omega
    | false =>
     rw [hl] at HL
     have HLX := lh hl
     clear hl
     by_cases hk0 : 0 < k
     . have hk1 : ((k : Int) == 0) = false := by simp; omega
       by_cases h1 : (c.toNat : Int) < 48
       . have HG := lh (HFK.out (by rw [okC_let, HLX.out]; simp; omega))
         clear hk0
         go_wp2_with (go_at_call 115; (with_reducible refine (HL.out _).mono ?_); rintro e w1 ⟨rfl, rfl⟩)
         go_ret
         exact ⟨ret_b HG.out.symm, rfl⟩
       . by_cases h2 : 57 < (c.toNat : Int)
         . have HG := lh (HFK.out (by rw [okC_let, HLX.out]; simp; omega))
           clear hk0
           go_wp2_with (go_at_call 115; (with_reducible refine (HL.out _).mono ?_); rintro e w1 ⟨rfl, rfl⟩)
           go_ret
           exact ⟨ret_b HG.out.symm, rfl⟩
         . have HG := lh (HN.out (by rw [okC_let, HLX.out]; simp; omega))
           clear hk0
           go_wp2_with (go_at_call 115; (with_reducible refine (HL.out _).mono ?_); rintro e w1 ⟨rfl, rfl⟩)
           go_round
           case rel => exact ⟨k + 1, by omega, by go_num, HG⟩
           case measure => simp [intOf]; omega
     . have hk2 : ((k : Int) == 0) = true := by simp; omega
       have HG := lh (HFK.out (by rw [okC_let, HLX.out]; simp; omega))
       clear hk0
       go_wp2_with (go_at_call 115; (with_reducible refine (HL.out _).mono ?_); rintro e w1 ⟨rfl, rfl⟩)
       go_ret
       exact ⟨ret_b HG.out.symm, rfl⟩
  . obtain rfl : k = s.size := by omega
    have HR := lh (HT.out (fun i hi => hall.out i hi hi))
    clear hall
    by_cases h0 : s.size = 0
    . have HR2 := lh (HR.out.trans (show decide (0 < s.size) = false from by rw [h0]; rfl))
      have hl : s.toList.isEmpty = true := by rw [ByteArray.toList_eq, List.isEmpty_iff_length_eq_zero, Array.length_toList]; exact h0
      have hl2 : (!s.toList.isEmpty) = false := by rw [hl]; rfl
      go_wp2
      go_ret
      exact ⟨ret_b HR2.out.symm, rfl⟩
    . have HR2 := lh (HR.out.trans (decide_eq_true (by omega)))
      have hl : s.toList.isEmpty = false := by rw [ByteArray.toList_eq, Bool.eq_false_iff, ne_eq, List.isEmpty_iff_length_eq_zero, Array.length_toList]; exact h0
      have hl2 : (!s.toList.isEmpty) = true := by rw [hl]; rfl
      go_wp2
      go_ret
      exact ⟨ret_b HR2.out.symm, rfl⟩
section
variable (g s r sl p : Int) (n1 c1 n2 c2 n3 c3 : Nat) (A1 A2 A3 : Option Addr)
theorem target_any (n : Int) (w : World) (h3 : n3 <= 65536) :
 Calls Tryz.prog 80 #[.agg #[g, s, r, sl, p, .slice A1 n1 c1, .slice A2 n2 c2, .slice A3 n3 c3], n] w fun e w' => e = .returned (.bool (wthB n 0 ((n3 : Int) - 1))) /\ Below w.heap.size w w' := by
 have H := lh (fun W => between_any n 0 ((n3 : Int) - 1) W)
 go_enter Tryz.func80, Tryz.ntmps80
 go_wp2_with (go_at_call 79; (with_reducible refine (H.out _).mono ?_); rintro e w' ⟨rfl, rfl⟩)
 go_ret
 exact ⟨rfl, bo _⟩
theorem register_r (k n v : Int) (w : World) (r0 : 0 <= r) (r1 : r <= 9223372036854775807) :
 Calls Tryz.prog 118 #[.agg #[g, s, r, sl, p, .slice A1 n1 c1, .slice A2 n2 c2, .slice A3 n3 c3], .agg #[k, n, .int .i32 v]] w fun e w' => e = .returned (.bool (regB r ⟨k, n, v⟩)) /\ Below w.heap.size w w' := by
 have H2 := lh (fun W => between_any n 0 (r - 1) W)
 have hb : ∀ o o', Below w.heap.size w ((w.alloc o).alloc o') := fun o o' => (bo o).alloc (by simp) o'
 have HB := lh hb
 unfold regB
 clear hb
 by_cases hk : k = 2
 . subst hk
   by_cases hv : v = 0
   . subst hv
     simp only [decide_true, Bool.true_and]
     go_enter Tryz.func118, Tryz.ntmps118
     go_wp2_with (go_at_call 79; (with_reducible refine (H2.out _).mono ?_); rintro e w' ⟨rfl, rfl⟩)
     go_ret
     exact ⟨rfl, HB.out _ _⟩
   . simp only [decide_eq_false hv, Bool.false_and, Bool.and_false]
     have hv2 : (v == 0) = false := by simpa using hv
     go_enter Tryz.func118, Tryz.ntmps118
     go_wp2
     go_ret
     exact ⟨rfl, HB.out _ _⟩
 . simp only [decide_eq_false hk, Bool.false_and]
   have hk2 : (k == 2) = false := by simpa using hk
   go_enter Tryz.func118, Tryz.ntmps118
   go_wp2
   go_ret
   exact ⟨rfl, HB.out _ _⟩
theorem value_r (k n v : Int) (w : World) (r0 : 0 <= r) (r1 : r <= 9223372036854775807) :
 Calls Tryz.prog 120 #[.agg #[g, s, r, sl, p, .slice A1 n1 c1, .slice A2 n2 c2, .slice A3 n3 c3], .agg #[k, n, .int .i32 v]] w fun e w' => e = .returned (.bool (valB r ⟨k, n, v⟩)) /\ Below w.heap.size w w' := by
 have H2 := lh (fun W => register_r g s r sl p n1 c1 n2 c2 n3 c3 A1 A2 A3 k n v W r0 r1)
 have hb : ∀ o o', Below w.heap.size w ((w.alloc o).alloc o') := fun o o' => (bo o).alloc (by simp) o'
 have HB := lh hb
 have HSZ := lh (Nat.le_refl w.heap.size)
 unfold valB
 clear hb
 cases hrb : regB r ⟨k, n, v⟩ with
 | true =>
  rw [hrb] at H2
  rw [Bool.or_true]
  clear hrb
  go_enter Tryz.func120, Tryz.ntmps120
  go_wp2_with (go_at_call 118; (with_reducible refine (H2.out _).mono ?_); rintro e w1 ⟨rfl, hb1⟩; have HB1 := lh ((HB.out _ _).trans (hb1.mono (by simp; omega))); obtain ⟨hc, _⟩ := bcell hb1; clear hb1)
  go_ret
  exact ⟨rfl, HB1.out⟩
 | false =>
  rw [hrb] at H2
  rw [Bool.or_false]
  clear hrb
  by_cases hk : k = 1
  . subst hk
    by_cases hv : n = 0
    . subst hv
      simp only [decide_true, Bool.true_and]
      go_enter Tryz.func120, Tryz.ntmps120
      go_wp2_with (go_at_call 118; (with_reducible refine (H2.out _).mono ?_); rintro e w1 ⟨rfl, hb1⟩; have HB1 := lh ((HB.out _ _).trans (hb1.mono (by simp; omega))); obtain ⟨hc, _⟩ := bcell hb1; clear hb1)
      go_ret
      exact ⟨rfl, HB1.out⟩
    . simp only [decide_eq_false hv, Bool.and_false]
      have hv2 : (n == 0) = false := by simpa using hv
      go_enter Tryz.func120, Tryz.ntmps120
      go_wp2_with (go_at_call 118; (with_reducible refine (H2.out _).mono ?_); rintro e w1 ⟨rfl, hb1⟩; have HB1 := lh ((HB.out _ _).trans (hb1.mono (by simp; omega))); obtain ⟨hc, _⟩ := bcell hb1; clear hb1)
      go_ret
      exact ⟨rfl, HB1.out⟩
  . simp only [decide_eq_false hk, Bool.false_and]
    have hk2 : (k == 1) = false := by simpa using hk
    go_enter Tryz.func120, Tryz.ntmps120
    go_wp2_with (go_at_call 118; (with_reducible refine (H2.out _).mono ?_); rintro e w1 ⟨rfl, hb1⟩; have HB1 := lh ((HB.out _ _).trans (hb1.mono (by simp; omega))); obtain ⟨hc, _⟩ := bcell hb1; clear hb1)
    go_ret
    exact ⟨rfl, HB1.out⟩
end
def atoB (s : Int) : Bool := decide (s = 10) || (decide (s = 22) || (decide (s = 23) || (decide (s = 17) || (decide (s = 18) || decide (s = 19)))))
theorem Atomic_any (s : Int) (w : World) : Calls Tryz.prog 144 #[s] w fun e w' => e = .returned (.bool (atoB s)) /\ w = w' := by
 have hs : s = 10 \/ s = 22 \/ s = 23 \/ s = 17 \/ s = 18 \/ s = 19 \/ (s ≠ 10 /\ s ≠ 22 /\ s ≠ 23 /\ s ≠ 17 /\ s ≠ 18 /\ s ≠ 19) := by omega
 unfold atoB
 rcases hs with rfl | rfl | rfl | rfl | rfl | rfl | ⟨h1, h2, h3, h4, h5, h6⟩
 . go_enter Tryz.func144, Tryz.ntmps144
   go_wp2
   go_ret
   exact ⟨rfl, rfl⟩
 . go_enter Tryz.func144, Tryz.ntmps144
   go_wp2
   go_ret
   exact ⟨rfl, rfl⟩
 . go_enter Tryz.func144, Tryz.ntmps144
   go_wp2
   go_ret
   exact ⟨rfl, rfl⟩
 . go_enter Tryz.func144, Tryz.ntmps144
   go_wp2
   go_ret
   exact ⟨rfl, rfl⟩
 . go_enter Tryz.func144, Tryz.ntmps144
   go_wp2
   go_ret
   exact ⟨rfl, rfl⟩
 . go_enter Tryz.func144, Tryz.ntmps144
   go_wp2
   go_ret
   exact ⟨rfl, rfl⟩
 . simp only [decide_eq_false h1, decide_eq_false h2, decide_eq_false h3, decide_eq_false h4, decide_eq_false h5, decide_eq_false h6, Bool.or_false]
   have e1 : (s == 10) = false := by simpa using h1
   have e2 : (s == 22) = false := by simpa using h2
   have e3 : (s == 23) = false := by simpa using h3
   have e4 : (s == 17) = false := by simpa using h4
   have e5 : (s == 18) = false := by simpa using h5
   have e6 : (s == 19) = false := by simpa using h6
   clear h1 h2 h3 h4 h5 h6
   go_enter Tryz.func144, Tryz.ntmps144
   go_wp2
   go_ret
   exact ⟨rfl, rfl⟩
def subR (op s : Int) : Bool := if op = 2 then wthB s 1 5 else if op = 3 then wthB s 10 29 else if op = 5 then wthB s 1 7 else if op = 9 then atoB s else if op = 10 then decide (s = 1) || decide (s = 2) else false
theorem sub_any (i : InstV) (w : World) : Calls Tryz.prog 116 #[i.val] w fun e w' => e = .returned (.bool (subR i.op i.sub)) /\ Below w.heap.size w w' := by
 obtain ⟨op, s, n, ⟨dk, dn, dv⟩, ⟨ak, an, av⟩, ⟨bk, bn, bv⟩, ⟨ck, cn, cv⟩⟩ := i
 simp only [InstV.val]
 have HB := lh (show ∀ o, Below w.heap.size w (w.alloc o) from fun o => bo o)
 have hop : op = 2 \/ op = 3 \/ op = 5 \/ op = 9 \/ op = 10 \/ (op ≠ 2 /\ op ≠ 3 /\ op ≠ 5 /\ op ≠ 9 /\ op ≠ 10) := by omega
 unfold subR
 rcases hop with rfl | rfl | rfl | rfl | rfl | ⟨h1, h2, h3, h4, h5⟩
 . rw [if_pos rfl]
   go_enter Tryz.func116, Tryz.ntmps116
   go_wp2_with (go_at_call 79; (with_reducible refine (between_any s 1 5 _).mono ?_); rintro e w' ⟨rfl, rfl⟩)
   go_ret
   exact ⟨rfl, HB.out _⟩
 . rw [if_neg (by decide), if_pos rfl]
   go_enter Tryz.func116, Tryz.ntmps116
   go_wp2_with (go_at_call 79; (with_reducible refine (between_any s 10 29 _).mono ?_); rintro e w' ⟨rfl, rfl⟩)
   go_ret
   exact ⟨rfl, HB.out _⟩
 . rw [if_neg (by decide), if_neg (by decide), if_pos rfl]
   go_enter Tryz.func116, Tryz.ntmps116
   go_wp2_with (go_at_call 79; (with_reducible refine (between_any s 1 7 _).mono ?_); rintro e w' ⟨rfl, rfl⟩)
   go_ret
   exact ⟨rfl, HB.out _⟩
 . rw [if_neg (by decide), if_neg (by decide), if_neg (by decide), if_pos rfl]
   go_enter Tryz.func116, Tryz.ntmps116
   go_wp2_with (go_at_call 144; (with_reducible refine (Atomic_any s _).mono ?_); rintro e w' ⟨rfl, rfl⟩)
   go_ret
   exact ⟨rfl, HB.out _⟩
 . rw [if_neg (by decide), if_neg (by decide), if_neg (by decide), if_neg (by decide), if_pos rfl]
   by_cases h1 : s = 1
   . subst h1
     go_enter Tryz.func116, Tryz.ntmps116
     go_wp2
     go_ret
     exact ⟨rfl, HB.out _⟩
   . rw [decide_eq_false h1, Bool.false_or]
     have e1 : (s == 1) = false := by simpa using h1
     clear h1
     by_cases h2 : s = 2
     . subst h2
       go_enter Tryz.func116, Tryz.ntmps116
       go_wp2
       go_ret
       exact ⟨rfl, HB.out _⟩
     . rw [decide_eq_false h2]
       have e2 : (s == 2) = false := by simpa using h2
       clear h2
       go_enter Tryz.func116, Tryz.ntmps116
       go_wp2
       go_ret
       exact ⟨rfl, HB.out _⟩
 . rw [if_neg h1, if_neg h2, if_neg h3, if_neg h4, if_neg h5]
   have e1 : (op == 2) = false := by simpa using h1
   have e2 : (op == 3) = false := by simpa using h2
   have e3 : (op == 5) = false := by simpa using h3
   have e4 : (op == 9) = false := by simpa using h4
   have e5 : (op == 10) = false := by simpa using h5
   clear h1 h2 h3 h4 h5
   go_enter Tryz.func116, Tryz.ntmps116
   go_wp2
   go_ret
   exact ⟨rfl, HB.out _⟩
structure ShpV where
 sub : Bool
 n : Bool
 d : Bool
 vs : Int
def shpF (op : Int) : ShpV :=
 if op = 1 then ⟨false, false, true, 1⟩ else if op = 2 then ⟨true, false, true, 1⟩ else if op = 3 then ⟨true, false, true, 2⟩ else if op = 4 then ⟨false, false, true, 3⟩ else if op = 5 then ⟨true, false, true, 0⟩ else if op = 6 then ⟨false, true, true, 0⟩
 else if op = 7 then ⟨false, true, true, 1⟩ else if op = 8 then ⟨false, true, false, 2⟩ else if op = 9 then ⟨true, true, false, 2⟩ else if op = 10 then ⟨true, false, false, 0⟩ else if op = 11 then ⟨false, true, true, 0⟩ else if op = 12 then ⟨false, true, false, 1⟩ else ⟨false, false, false, 0⟩
theorem form_r (op : Int) (w : World) : Calls Tryz.prog 91 #[op] w fun e w' => e = .returned (.tuple #[.agg #[.bool (shpF op).sub, .bool (shpF op).n, .bool (shpF op).d, (shpF op).vs], .bool (decide (1 <= op /\ op <= 12))]) /\ Below w.heap.size w w' := by
 have hop : op = 1 \/ op = 2 \/ op = 3 \/ op = 4 \/ op = 5 \/ op = 6 \/ op = 7 \/ op = 8 \/ op = 9 \/ op = 10 \/ op = 11 \/ op = 12 \/ (op < 1 \/ 12 < op) := by omega
 rcases hop with rfl | rfl | rfl | rfl | rfl | rfl | rfl | rfl | rfl | rfl | rfl | rfl | h
 . go_enter Tryz.func91, Tryz.ntmps91
   go_wp2
   exact bodyPost_ret (v := .tuple #[.agg #[.bool false, .bool false, .bool true, (1:Int)], .bool true]) (by simp [results, Tryz.results91, go_sem]) rfl ⟨rfl, by first | exact bo _ | exact ((((bo _).setCell (by simp) _).setCell (by simp) _).setCell (by simp) _).setCell (by simp) _⟩
 . go_enter Tryz.func91, Tryz.ntmps91
   go_wp2
   exact bodyPost_ret (v := .tuple #[.agg #[.bool true, .bool false, .bool true, (1:Int)], .bool true]) (by simp [results, Tryz.results91, go_sem]) rfl ⟨rfl, by first | exact bo _ | exact ((((bo _).setCell (by simp) _).setCell (by simp) _).setCell (by simp) _).setCell (by simp) _⟩
 . go_enter Tryz.func91, Tryz.ntmps91
   go_wp2
   exact bodyPost_ret (v := .tuple #[.agg #[.bool true, .bool false, .bool true, (2:Int)], .bool true]) (by simp [results, Tryz.results91, go_sem]) rfl ⟨rfl, by first | exact bo _ | exact ((((bo _).setCell (by simp) _).setCell (by simp) _).setCell (by simp) _).setCell (by simp) _⟩
 . go_enter Tryz.func91, Tryz.ntmps91
   go_wp2
   exact bodyPost_ret (v := .tuple #[.agg #[.bool false, .bool false, .bool true, (3:Int)], .bool true]) (by simp [results, Tryz.results91, go_sem]) rfl ⟨rfl, by first | exact bo _ | exact ((((bo _).setCell (by simp) _).setCell (by simp) _).setCell (by simp) _).setCell (by simp) _⟩
 . go_enter Tryz.func91, Tryz.ntmps91
   go_wp2
   exact bodyPost_ret (v := .tuple #[.agg #[.bool true, .bool false, .bool true, (0:Int)], .bool true]) (by simp [results, Tryz.results91, go_sem]) rfl ⟨rfl, by first | exact bo _ | exact ((((bo _).setCell (by simp) _).setCell (by simp) _).setCell (by simp) _).setCell (by simp) _⟩
 . go_enter Tryz.func91, Tryz.ntmps91
   go_wp2
   exact bodyPost_ret (v := .tuple #[.agg #[.bool false, .bool true, .bool true, (0:Int)], .bool true]) (by simp [results, Tryz.results91, go_sem]) rfl ⟨rfl, by first | exact bo _ | exact ((((bo _).setCell (by simp) _).setCell (by simp) _).setCell (by simp) _).setCell (by simp) _⟩
 . go_enter Tryz.func91, Tryz.ntmps91
   go_wp2
   exact bodyPost_ret (v := .tuple #[.agg #[.bool false, .bool true, .bool true, (1:Int)], .bool true]) (by simp [results, Tryz.results91, go_sem]) rfl ⟨rfl, by first | exact bo _ | exact ((((bo _).setCell (by simp) _).setCell (by simp) _).setCell (by simp) _).setCell (by simp) _⟩
 . go_enter Tryz.func91, Tryz.ntmps91
   go_wp2
   exact bodyPost_ret (v := .tuple #[.agg #[.bool false, .bool true, .bool false, (2:Int)], .bool true]) (by simp [results, Tryz.results91, go_sem]) rfl ⟨rfl, by first | exact bo _ | exact ((((bo _).setCell (by simp) _).setCell (by simp) _).setCell (by simp) _).setCell (by simp) _⟩
 . go_enter Tryz.func91, Tryz.ntmps91
   go_wp2
   exact bodyPost_ret (v := .tuple #[.agg #[.bool true, .bool true, .bool false, (2:Int)], .bool true]) (by simp [results, Tryz.results91, go_sem]) rfl ⟨rfl, by first | exact bo _ | exact ((((bo _).setCell (by simp) _).setCell (by simp) _).setCell (by simp) _).setCell (by simp) _⟩
 . go_enter Tryz.func91, Tryz.ntmps91
   go_wp2
   exact bodyPost_ret (v := .tuple #[.agg #[.bool true, .bool false, .bool false, (0:Int)], .bool true]) (by simp [results, Tryz.results91, go_sem]) rfl ⟨rfl, by first | exact bo _ | exact ((((bo _).setCell (by simp) _).setCell (by simp) _).setCell (by simp) _).setCell (by simp) _⟩
 . go_enter Tryz.func91, Tryz.ntmps91
   go_wp2
   exact bodyPost_ret (v := .tuple #[.agg #[.bool false, .bool true, .bool true, (0:Int)], .bool true]) (by simp [results, Tryz.results91, go_sem]) rfl ⟨rfl, by first | exact bo _ | exact ((((bo _).setCell (by simp) _).setCell (by simp) _).setCell (by simp) _).setCell (by simp) _⟩
 . go_enter Tryz.func91, Tryz.ntmps91
   go_wp2
   exact bodyPost_ret (v := .tuple #[.agg #[.bool false, .bool true, .bool false, (1:Int)], .bool true]) (by simp [results, Tryz.results91, go_sem]) rfl ⟨rfl, by first | exact bo _ | exact ((((bo _).setCell (by simp) _).setCell (by simp) _).setCell (by simp) _).setCell (by simp) _⟩
 . have h0 : shpF op = ⟨false, false, false, 0⟩ := by unfold shpF; rw [if_neg (by omega), if_neg (by omega), if_neg (by omega), if_neg (by omega), if_neg (by omega), if_neg (by omega), if_neg (by omega), if_neg (by omega), if_neg (by omega), if_neg (by omega), if_neg (by omega), if_neg (by omega)]
   have h1 : decide (1 <= op /\ op <= 12) = false := decide_eq_false (by omega)
   rw [h0, h1]
   rcases h with h | h
   all_goals
    clear h0 h1
    go_enter Tryz.func91, Tryz.ntmps91
    go_wp2
    exact bodyPost_ret (v := .tuple #[.agg #[.bool false, .bool false, .bool false, (0:Int)], .bool false]) (by simp [results, Tryz.results91, go_sem]) rfl ⟨rfl, by first | exact bo _ | exact ((((bo _).setCell (by simp) _).setCell (by simp) _).setCell (by simp) _).setCell (by simp) _⟩
def idxR (p sl : Int) (n1 : Nat) (sp : Nat -> Int) (op n : Int) : Bool :=
 if op = 6 then wthB n 0 (p - 1) else if op = 11 \/ op = 12 then wthB n 0 (sl - 1) else wthB n 0 ((n1 : Int) - 1) && (decide (op ≠ 9) || !decide (sp n.toNat = 3))
theorem index_any (g s r sl p : Int) (n1 c1 n2 c2 n3 c3 : Nat) (A1 A2 A3 : Option Addr) (nm : Nat -> ByteArray) (sp ty ln : Nat -> Int) (i : InstV) (w : World) (p0 : 0 <= p) (p1 : p <= 9223372036854775807) (s0 : 0 <= sl) (s1 : sl <= 9223372036854775807) (hn : n1 <= 65536) (hr : RAr w w.heap.size A1 n1 nm sp ty ln) :
 Calls Tryz.prog 117 #[.agg #[g, s, r, sl, p, .slice A1 n1 c1, .slice A2 n2 c2, .slice A3 n3 c3], i.val] w fun e w' => e = .returned (.bool (idxR p sl n1 sp i.op i.n)) /\ Below w.heap.size w w' := by
 obtain ⟨op, sb, n, ⟨dk, dn, dv⟩, ⟨ak, an, av⟩, ⟨bk, bn, bv⟩, ⟨ck, cn, cv⟩⟩ := i
 simp only [InstV.val]
 have HB := lh (show ∀ o o', Below w.heap.size w ((w.alloc o).alloc o') from fun o o' => (bo o).alloc (by simp) o')
 have HP := lh (fun W => between_any n 0 (p - 1) W)
 have HS := lh (fun W => between_any n 0 (sl - 1) W)
 have HA := fun W => between_any n 0 ((n1 : Int) - 1) W
 have hop : op = 6 \/ op = 11 \/ op = 12 \/ (op ≠ 6 /\ op ≠ 11 /\ op ≠ 12) := by omega
 unfold idxR
 rcases hop with rfl | rfl | rfl | ⟨h1, h2, h3⟩
 . rw [if_pos rfl]
   go_enter Tryz.func117, Tryz.ntmps117
   go_wp2_with (go_at_call 79; (with_reducible refine (HP.out _).mono ?_); rintro e w' ⟨rfl, rfl⟩)
   go_ret
   exact ⟨rfl, HB.out _ _⟩
 . rw [if_neg (by decide), if_pos (by decide)]
   go_enter Tryz.func117, Tryz.ntmps117
   go_wp2_with (go_at_call 79; (with_reducible refine (HS.out _).mono ?_); rintro e w' ⟨rfl, rfl⟩)
   go_ret
   exact ⟨rfl, HB.out _ _⟩
 . rw [if_neg (by decide), if_pos (by decide)]
   go_enter Tryz.func117, Tryz.ntmps117
   go_wp2_with (go_at_call 79; (with_reducible refine (HS.out _).mono ?_); rintro e w' ⟨rfl, rfl⟩)
   go_ret
   exact ⟨rfl, HB.out _ _⟩
 . rw [if_neg h1, if_neg (by omega)]
   have e1 : (op == 6) = false := by simpa using h1
   have e2 : (op == 11) = false := by simpa using h2
   have e3 : (op == 12) = false := by simpa using h3
   clear h1 h2 h3
   cases h : wthB n 0 ((n1 : Int) - 1) with
   | false =>
    rw [h] at HA; rw [Bool.false_and]
    have G := lh HA; clear HA h
    go_enter Tryz.func117, Tryz.ntmps117
    go_wp2_with (go_at_call 79; (with_reducible refine (G.out _).mono ?_); rintro e w' ⟨rfl, rfl⟩)
    go_ret
    exact ⟨rfl, HB.out _ _⟩
   | true =>
    have hh := h
    unfold wthB at hh
    simp only [Bool.and_eq_true, decide_eq_true_eq] at hh
    obtain ⟨h0, h1⟩ := hh
    obtain ⟨k, rfl⟩ : ∃ k : Nat, n = (k : Int) := ⟨n.toNat, by omega⟩
    have hk : k < n1 := by omega
    rw [h] at HA
    rw [Bool.true_and, Int.toNat_natCast]
    have G := lh HA; clear HA h
    obtain ⟨b, off, rfl, hlt, hc⟩ := hr (by omega)
    have hs := (hc k hk).2.1
    have hs2 : ∀ o o', ((w.alloc o).alloc o').cell? ⟨b, off + k * 4 + 1, none⟩ = some (.int .i64 (sp k)) := fun o o' => (World.cell?_alloc_lt _ _ _ (by show b < (w.alloc o).heap.size; rw [World.size_alloc]; omega)).trans ((World.cell?_alloc_lt _ _ _ (by exact hlt)).trans hs)
    have hki : (k : Int) < (n1 : Int) := by omega
    clear hs hc hr
    by_cases h9 : op = 9
    . subst h9
      have e : (decide ((9 : Int) ≠ 9) || !decide (sp k = 3)) = !decide (sp k = 3) := by simp
      rw [e]
      clear e
      obtain ⟨x, hx⟩ : ∃ x, sp k = x := ⟨_, rfl⟩
      rw [hx] at hs2 ⊢
      clear hx
      go_enter Tryz.func117, Tryz.ntmps117
      go_wp2_with (go_at_call 79; (with_reducible refine (G.out _).mono ?_); rintro e w' ⟨rfl, rfl⟩)
      go_ret
      exact ⟨by simp; rfl, HB.out _ _⟩
    . have e : (decide (op ≠ 9) || !decide (sp k = 3)) = true := by simp [h9]
      rw [e]
      have h9' : (op != 9) = true := by simpa using h9
      have h9'' : ¬ op = 9 := h9
      clear e h9
      go_enter Tryz.func117, Tryz.ntmps117
      go_wp2_with (go_at_call 79; (with_reducible refine (G.out _).mono ?_); rintro e w' ⟨rfl, rfl⟩)
      go_ret
      exact ⟨rfl, HB.out _ _⟩
def zerO (o : OpdV) : Bool := decide (o.k = 0) && (decide (o.n = 0) && decide (o.v = 0))
def opsB (r : Int) (f : Nat -> OpdV) (n : Nat) : Nat -> Bool
 | 0 => true
 | k + 1 => opsB r f n k && (if k < n then valB r (f k) else zerO (f k))
theorem opsB_no {r : Int} {f : Nat -> OpdV} {n : Nat} : ∀ {m k : Nat}, k < m -> (if k < n then valB r (f k) else zerO (f k)) = false -> opsB r f n m = false
 | m + 1, k, hk, h => by
  unfold opsB
  by_cases e : k = m
  . subst e
    rw [h, Bool.and_false]
  . rw [opsB_no (by omega) h, Bool.false_and]
theorem operands_any (g s r sl p : Int) (n1 c1 n2 c2 n3 c3 cl : Nat) (A1 A2 A3 A : Option Addr) (f : Nat -> OpdV) (n : Nat) (w : World) (r0 : 0 <= r) (r1 : r <= 9223372036854775807) (hn : n <= 3) (hf : RO w w.heap.size A 3 f) :
 Calls Tryz.prog 119 #[.agg #[g, s, r, sl, p, .slice A1 n1 c1, .slice A2 n2 c2, .slice A3 n3 c3], .slice A 3 cl, n] w fun e w' => e = .returned (.bool (opsB r f n 3)) /\ Below w.heap.size w w' := by
 have HV0 := lh (fun (x : OpdV) (W : World) => value_r g s r sl p n1 c1 n2 c2 n3 c3 A1 A2 A3 x.k x.n x.v W r0 r1)
 obtain ⟨bl, ol, rfl, hbl, hcl⟩ := hf (by decide)
 have HCL := lh hcl
 have HB0 := lh (show Below w.heap.size w (w.alloc (.cells #[g, s, r, sl, p, .slice A1 n1 c1, .slice A2 n2 c2, .slice A3 n3 c3] 36)) from bo _)
 have HBX := lh (show (w.alloc (.cells #[g, s, r, sl, p, .slice A1 n1 c1, .slice A2 n2 c2, .slice A3 n3 c3] 36)).heap[w.heap.size]? = some (.cells #[g, s, r, sl, p, .slice A1 n1 c1, .slice A2 n2 c2, .slice A3 n3 c3] 36 (0, 0)) from heap_alloc_new _ _)
 have HBL := lh hbl
 clear hf hcl hbl
 go_enter Tryz.func119, Tryz.ntmps119
 go_upto_region 2 with (fail)
 obtain ⟨W1, hW1⟩ : ∃ W1, (w.alloc (.cells #[g, s, r, sl, p, .slice A1 n1 c1, .slice A2 n2 c2, .slice A3 n3 c3] 36)) = W1 := ⟨_, rfl⟩
 rw [hW1] at HB0 HBX ⊢
 clear hW1
 go_loopw [7] (fun v wr => ∃ k : Nat, k <= 3 /\ v = .int .i64 k /\ Hid (∀ j, j < k -> (if j < n then valB r (f j) else zerO (f j)) = true) /\ Hid (Below W1.heap.size W1 wr)) (fun v _ => 3 - (intOf v).toNat)
 case atStart => exact ⟨0, by omega, rfl, lh (fun j hj => absurd hj (by omega)), lh (Below.refl _ _)⟩
 case round =>
  obtain ⟨k, hk, rfl, HJ, HB⟩ := hrel
  by_cases hk3 : k < 3
  . have hki : (k : Int) < 3 := by omega
    obtain ⟨x, hx⟩ : ∃ x, f k = x := ⟨_, rfl⟩
    have HTS := lh (show ∀ V, Below wr.heap.size wr V -> (fun w' => w'.cell? ⟨w.heap.size, 0, none⟩ = some (.int .i64 g) /\ w'.cell? ⟨w.heap.size, 1, none⟩ = some (.int .i64 s) /\ w'.cell? ⟨w.heap.size, 2, none⟩ = some (.int .i64 r) /\ w'.cell? ⟨w.heap.size, 3, none⟩ = some (.int .i64 sl) /\ w'.cell? ⟨w.heap.size, 4, none⟩ = some (.int .i64 p) /\ w'.cell? ⟨w.heap.size, 5, none⟩ = some (.slice A1 n1 c1) /\ w'.cell? ⟨w.heap.size, 6, none⟩ = some (.slice A2 n2 c2) /\ w'.cell? ⟨w.heap.size, 7, none⟩ = some (.slice A3 n3 c3) /\ w'.cell? ⟨bl, ol + k * 3, none⟩ = some (.int .i64 x.k) /\ w'.cell? ⟨bl, ol + k * 3 + 1, none⟩ = some (.int .i64 x.n) /\ w'.cell? ⟨bl, ol + k * 3 + 2, none⟩ = some (.int .i32 x.v)) V from fun V hV => by
     have hb1 := HB.out.trans (hV.mono HB.out.size)
     have q := (hb1.block _ (Array.getElem?_eq_some_iff.1 HBX.out).1).trans HBX.out
     have hb2 := HB0.out.trans (hb1.mono HB0.out.size)
     obtain ⟨q0, q1, q2⟩ := HCL.out k hk3
     rw [hx] at q0 q1 q2
     have kk : ∀ o, V.cell? ⟨bl, o, none⟩ = w.cell? ⟨bl, o, none⟩ := fun o => hb2.cell (p := ⟨bl, o, none⟩) HBL.out
     exact ⟨cell_blk q (i := 0) rfl, cell_blk q (i := 1) rfl, cell_blk q (i := 2) rfl, cell_blk q (i := 3) rfl, cell_blk q (i := 4) rfl, cell_blk q (i := 5) rfl, cell_blk q (i := 6) rfl, cell_blk q (i := 7) rfl, (kk _).trans q0, (kk _).trans q1, (kk _).trans q2⟩)
    have HBc := lh (show Below wr.heap.size wr wr.drew from ⟨rfl, rfl, rfl, Nat.le_refl _, fun _ _ => rfl⟩)
    have HV := HV0.out x
    have HNX := lh (fun (h : (if k < n then valB r x else zerO x) = true) => show ∀ j, j < k + 1 -> (if j < n then valB r (f j) else zerO (f j)) = true from fun j hj => by
     by_cases e : j = k
     . subst e
       rw [hx]
       exact h
     . exact HJ.out j (by omega))
    have HNO := lh (fun (h : (if k < n then valB r x else zerO x) = false) => show opsB r f n 3 = false from opsB_no hk3 (by rw [hx]; exact h))
    have hout : ∀ V, Below wr.heap.size wr V -> Below w.heap.size w V := fun V hV => HB0.out.trans ((HB.out.trans (hV.mono HB.out.size)).mono HB0.out.size)
    have HOUT := lh hout
    clear hx hout
    by_cases hkn : k < n
    . have hkn' : (k : Int) < (n : Int) := by omega
      have hkn2 : ¬ (n : Int) <= (k : Int) := by omega
      have hkn3 : ¬ n <= k := by omega
      have hkn4 : decide ((n : Int) <= (k : Int)) = false := decide_eq_false hkn2
      have hkn5 : decide (n <= k) = false := decide_eq_false hkn3
      rw [if_pos hkn] at HNX HNO
      clear hkn
      cases hv : valB r x with
      | true =>
       have hv' : valB r ⟨x.k, x.n, x.v⟩ = true := hv
       rw [hv'] at HV
       replace HV := lh HV
       have HG := lh (HNX.out hv)
       clear hv hv'
       go_upto_region 4 with (fail)
       refine wp_region_held_drew (S := (fun w' => w'.cell? ⟨w.heap.size, 0, none⟩ = some (.int .i64 g) /\ w'.cell? ⟨w.heap.size, 1, none⟩ = some (.int .i64 s) /\ w'.cell? ⟨w.heap.size, 2, none⟩ = some (.int .i64 r) /\ w'.cell? ⟨w.heap.size, 3, none⟩ = some (.int .i64 sl) /\ w'.cell? ⟨w.heap.size, 4, none⟩ = some (.int .i64 p) /\ w'.cell? ⟨w.heap.size, 5, none⟩ = some (.slice A1 n1 c1) /\ w'.cell? ⟨w.heap.size, 6, none⟩ = some (.slice A2 n2 c2) /\ w'.cell? ⟨w.heap.size, 7, none⟩ = some (.slice A3 n3 c3) /\ w'.cell? ⟨bl, ol + k * 3, none⟩ = some (.int .i64 x.k) /\ w'.cell? ⟨bl, ol + k * 3 + 1, none⟩ = some (.int .i64 x.n) /\ w'.cell? ⟨bl, ol + k * 3 + 2, none⟩ = some (.int .i32 x.v))) (by kernel_rfl) ?_ (fun hHeld => ?_)
       . (try dsimp only); exact HTS.out _ HBc.out
       refine tk 0 ?_
       refine tk 1 ?_
       refine tk 2 ?_
       refine tk 3 ?_
       refine tk 4 ?_
       refine tk 5 ?_
       refine tk 6 ?_
       refine tk 7 ?_
       refine tk 8 ?_
       refine an 9 (fun K hK => ?_)
       go_simp
       (go_at_call 120; refine (HV.out _).mono ?_; rintro e wv ⟨rfl, hbx⟩; replace HBc := lh (HBc.out.trans (hbx.mono HBc.out.size)); clear hbx)
       try go_wp2_with fail
       refine hK.out _ _ ?_ (fun hHeld => ?_)
       . (try dsimp only); exact HTS.out _ HBc.out
       clear hK K
       try simp only [pe]
       refine tk 10 ?_
       refine tk 11 ?_
       refine tk 12 ?_
       refine tk 13 ?_
       refine tk 14 ?_
       refine tk 15 ?_
       refine tk 16 ?_
       refine tn 17 ?_
       refine tn 18 ?_
       refine tn 19 ?_
       refine tn 20 ?_
       refine tn 21 ?_
       refine tn 22 ?_
       refine tk 23 ?_
       refine tk 24 ?_
       refine wpAnyH_done (by kernel_rfl) ?_ _
       go_wp2
       go_roundw
       case rel => exact ⟨k + 1, by omega, by go_num, HG, lh (HB.out.trans (HBc.out.mono HB.out.size))⟩
       case measure => simp [intOf]; omega
      | false =>
       have hv' : valB r ⟨x.k, x.n, x.v⟩ = false := hv
       rw [hv'] at HV
       replace HV := lh HV
       have HG := lh (HNO.out hv)
       clear hv hv'
       go_upto_region 4 with (fail)
       refine wp_region_held_drew (S := (fun w' => w'.cell? ⟨w.heap.size, 0, none⟩ = some (.int .i64 g) /\ w'.cell? ⟨w.heap.size, 1, none⟩ = some (.int .i64 s) /\ w'.cell? ⟨w.heap.size, 2, none⟩ = some (.int .i64 r) /\ w'.cell? ⟨w.heap.size, 3, none⟩ = some (.int .i64 sl) /\ w'.cell? ⟨w.heap.size, 4, none⟩ = some (.int .i64 p) /\ w'.cell? ⟨w.heap.size, 5, none⟩ = some (.slice A1 n1 c1) /\ w'.cell? ⟨w.heap.size, 6, none⟩ = some (.slice A2 n2 c2) /\ w'.cell? ⟨w.heap.size, 7, none⟩ = some (.slice A3 n3 c3) /\ w'.cell? ⟨bl, ol + k * 3, none⟩ = some (.int .i64 x.k) /\ w'.cell? ⟨bl, ol + k * 3 + 1, none⟩ = some (.int .i64 x.n) /\ w'.cell? ⟨bl, ol + k * 3 + 2, none⟩ = some (.int .i32 x.v))) (by kernel_rfl) ?_ (fun hHeld => ?_)
       . (try dsimp only); exact HTS.out _ HBc.out
       refine tk 0 ?_
       refine tk 1 ?_
       refine tk 2 ?_
       refine tk 3 ?_
       refine tk 4 ?_
       refine tk 5 ?_
       refine tk 6 ?_
       refine tk 7 ?_
       refine tk 8 ?_
       refine an 9 (fun K hK => ?_)
       go_simp
       (go_at_call 120; refine (HV.out _).mono ?_; rintro e wv ⟨rfl, hbx⟩; replace HBc := lh (HBc.out.trans (hbx.mono HBc.out.size)); clear hbx)
       try go_wp2_with fail
       refine hK.out _ _ ?_ (fun hHeld => ?_)
       . (try dsimp only); exact HTS.out _ HBc.out
       clear hK K
       try simp only [pe]
       refine tk 10 ?_
       refine tk 11 ?_
       refine tk 12 ?_
       refine tn 13 ?_
       refine tn 14 ?_
       refine tn 15 ?_
       refine tn 16 ?_
       refine tn 17 ?_
       refine tn 18 ?_
       refine tn 19 ?_
       refine tn 20 ?_
       refine tn 21 ?_
       refine tn 22 ?_
       refine tn 23 ?_
       refine tk 24 ?_
       refine wpAnyH_done (by kernel_rfl) ?_ _
       go_wp2
       go_ret
       exact ⟨ret_b HG.out.symm, HOUT.out _ HBc.out⟩
    . have hkn' : ¬ (k : Int) < (n : Int) := by omega
      have hkn2 : (n : Int) <= (k : Int) := by omega
      rw [if_neg hkn] at HNX HNO
      clear hkn HV
      obtain ⟨xk, xn, xv⟩ := x
      by_cases h1 : xk = 0
      . subst h1
        by_cases h2 : xn = 0
        . subst h2
          by_cases h3 : xv = 0
          . subst h3
            have HG := lh (HNX.out rfl)
            clear HNX HNO
            go_upto_region 4 with (fail)
            refine wp_region_held_drew (S := (fun w' => w'.cell? ⟨w.heap.size, 0, none⟩ = some (.int .i64 g) /\ w'.cell? ⟨w.heap.size, 1, none⟩ = some (.int .i64 s) /\ w'.cell? ⟨w.heap.size, 2, none⟩ = some (.int .i64 r) /\ w'.cell? ⟨w.heap.size, 3, none⟩ = some (.int .i64 sl) /\ w'.cell? ⟨w.heap.size, 4, none⟩ = some (.int .i64 p) /\ w'.cell? ⟨w.heap.size, 5, none⟩ = some (.slice A1 n1 c1) /\ w'.cell? ⟨w.heap.size, 6, none⟩ = some (.slice A2 n2 c2) /\ w'.cell? ⟨w.heap.size, 7, none⟩ = some (.slice A3 n3 c3) /\ w'.cell? ⟨bl, ol + k * 3, none⟩ = some (.int .i64 0) /\ w'.cell? ⟨bl, ol + k * 3 + 1, none⟩ = some (.int .i64 0) /\ w'.cell? ⟨bl, ol + k * 3 + 2, none⟩ = some (.int .i32 0))) (by kernel_rfl) ?_ (fun hHeld => ?_)
            . (try dsimp only); exact HTS.out _ HBc.out
            refine tk 0 ?_
            refine tk 1 ?_
            refine tk 2 ?_
            refine tk 3 ?_
            refine tn 4 ?_
            refine tn 5 ?_
            refine tn 6 ?_
            refine tn 7 ?_
            refine tn 8 ?_
            refine tn 9 ?_
            refine tn 10 ?_
            refine tk 11 ?_
            refine tk 12 ?_
            refine tk 13 ?_
            refine tk 14 ?_
            refine tk 15 ?_
            refine tk 16 ?_
            refine tk 17 ?_
            refine tk 18 ?_
            refine tk 19 ?_
            refine tk 20 ?_
            refine tk 21 ?_
            refine tk 22 ?_
            refine tk 23 ?_
            refine tk 24 ?_
            refine wpAnyH_done (by kernel_rfl) ?_ _
            go_wp2
            go_roundw
            case rel => exact ⟨k + 1, by omega, by go_num, HG, lh (HB.out.trans (HBc.out.mono HB.out.size))⟩
            case measure => simp [intOf]; omega
          . have HG := lh (HNO.out (by unfold zerO; simp [h3]))
            have h3' : (xv == 0) = false := by simpa using h3
            clear HNX HNO
            go_upto_region 4 with (fail)
            refine wp_region_held_drew (S := (fun w' => w'.cell? ⟨w.heap.size, 0, none⟩ = some (.int .i64 g) /\ w'.cell? ⟨w.heap.size, 1, none⟩ = some (.int .i64 s) /\ w'.cell? ⟨w.heap.size, 2, none⟩ = some (.int .i64 r) /\ w'.cell? ⟨w.heap.size, 3, none⟩ = some (.int .i64 sl) /\ w'.cell? ⟨w.heap.size, 4, none⟩ = some (.int .i64 p) /\ w'.cell? ⟨w.heap.size, 5, none⟩ = some (.slice A1 n1 c1) /\ w'.cell? ⟨w.heap.size, 6, none⟩ = some (.slice A2 n2 c2) /\ w'.cell? ⟨w.heap.size, 7, none⟩ = some (.slice A3 n3 c3) /\ w'.cell? ⟨bl, ol + k * 3, none⟩ = some (.int .i64 0) /\ w'.cell? ⟨bl, ol + k * 3 + 1, none⟩ = some (.int .i64 0) /\ w'.cell? ⟨bl, ol + k * 3 + 2, none⟩ = some (.int .i32 xv))) (by kernel_rfl) ?_ (fun hHeld => ?_)
            . (try dsimp only); exact HTS.out _ HBc.out
            refine tk 0 ?_
            refine tk 1 ?_
            refine tk 2 ?_
            refine tk 3 ?_
            refine tn 4 ?_
            refine tn 5 ?_
            refine tn 6 ?_
            refine tn 7 ?_
            refine tn 8 ?_
            refine tn 9 ?_
            refine tn 10 ?_
            refine tk 11 ?_
            refine tk 12 ?_
            refine tk 13 ?_
            refine tk 14 ?_
            refine tk 15 ?_
            refine tk 16 ?_
            refine tk 17 ?_
            refine tk 18 ?_
            refine tk 19 ?_
            refine tk 20 ?_
            refine tk 21 ?_
            refine tk 22 ?_
            refine tk 23 ?_
            refine tk 24 ?_
            refine wpAnyH_done (by kernel_rfl) ?_ _
            go_wp2
            go_ret
            exact ⟨ret_b HG.out.symm, HOUT.out _ HBc.out⟩
        . have HG := lh (HNO.out (by unfold zerO; simp [h2]))
          have h2' : (xn == 0) = false := by simpa using h2
          clear HNX HNO
          go_upto_region 4 with (fail)
          refine wp_region_held_drew (S := (fun w' => w'.cell? ⟨w.heap.size, 0, none⟩ = some (.int .i64 g) /\ w'.cell? ⟨w.heap.size, 1, none⟩ = some (.int .i64 s) /\ w'.cell? ⟨w.heap.size, 2, none⟩ = some (.int .i64 r) /\ w'.cell? ⟨w.heap.size, 3, none⟩ = some (.int .i64 sl) /\ w'.cell? ⟨w.heap.size, 4, none⟩ = some (.int .i64 p) /\ w'.cell? ⟨w.heap.size, 5, none⟩ = some (.slice A1 n1 c1) /\ w'.cell? ⟨w.heap.size, 6, none⟩ = some (.slice A2 n2 c2) /\ w'.cell? ⟨w.heap.size, 7, none⟩ = some (.slice A3 n3 c3) /\ w'.cell? ⟨bl, ol + k * 3, none⟩ = some (.int .i64 0) /\ w'.cell? ⟨bl, ol + k * 3 + 1, none⟩ = some (.int .i64 xn) /\ w'.cell? ⟨bl, ol + k * 3 + 2, none⟩ = some (.int .i32 xv))) (by kernel_rfl) ?_ (fun hHeld => ?_)
          . (try dsimp only); exact HTS.out _ HBc.out
          refine tk 0 ?_
          refine tk 1 ?_
          refine tk 2 ?_
          refine tk 3 ?_
          refine tn 4 ?_
          refine tn 5 ?_
          refine tn 6 ?_
          refine tn 7 ?_
          refine tn 8 ?_
          refine tn 9 ?_
          refine tn 10 ?_
          refine tk 11 ?_
          refine tk 12 ?_
          refine tk 13 ?_
          refine tk 14 ?_
          refine tk 15 ?_
          refine tk 16 ?_
          refine tk 17 ?_
          refine tk 18 ?_
          refine tk 19 ?_
          refine tk 20 ?_
          refine tk 21 ?_
          refine tk 22 ?_
          refine tk 23 ?_
          refine tk 24 ?_
          refine wpAnyH_done (by kernel_rfl) ?_ _
          go_wp2
          go_ret
          exact ⟨ret_b HG.out.symm, HOUT.out _ HBc.out⟩
      . have HG := lh (HNO.out (by unfold zerO; simp [h1]))
        have h1' : (xk == 0) = false := by simpa using h1
        clear HNX HNO
        go_upto_region 4 with (fail)
        refine wp_region_held_drew (S := (fun w' => w'.cell? ⟨w.heap.size, 0, none⟩ = some (.int .i64 g) /\ w'.cell? ⟨w.heap.size, 1, none⟩ = some (.int .i64 s) /\ w'.cell? ⟨w.heap.size, 2, none⟩ = some (.int .i64 r) /\ w'.cell? ⟨w.heap.size, 3, none⟩ = some (.int .i64 sl) /\ w'.cell? ⟨w.heap.size, 4, none⟩ = some (.int .i64 p) /\ w'.cell? ⟨w.heap.size, 5, none⟩ = some (.slice A1 n1 c1) /\ w'.cell? ⟨w.heap.size, 6, none⟩ = some (.slice A2 n2 c2) /\ w'.cell? ⟨w.heap.size, 7, none⟩ = some (.slice A3 n3 c3) /\ w'.cell? ⟨bl, ol + k * 3, none⟩ = some (.int .i64 xk) /\ w'.cell? ⟨bl, ol + k * 3 + 1, none⟩ = some (.int .i64 xn) /\ w'.cell? ⟨bl, ol + k * 3 + 2, none⟩ = some (.int .i32 xv))) (by kernel_rfl) ?_ (fun hHeld => ?_)
        . (try dsimp only); exact HTS.out _ HBc.out
        refine tk 0 ?_
        refine tk 1 ?_
        refine tk 2 ?_
        refine tk 3 ?_
        refine tn 4 ?_
        refine tn 5 ?_
        refine tn 6 ?_
        refine tn 7 ?_
        refine tn 8 ?_
        refine tn 9 ?_
        refine tn 10 ?_
        refine tk 11 ?_
        refine tk 12 ?_
        refine tk 13 ?_
        refine tk 14 ?_
        refine tk 15 ?_
        refine tk 16 ?_
        refine tk 17 ?_
        refine tk 18 ?_
        refine tk 19 ?_
        refine tk 20 ?_
        refine tk 21 ?_
        refine tk 22 ?_
        refine tk 23 ?_
        refine tk 24 ?_
        refine wpAnyH_done (by kernel_rfl) ?_ _
        go_wp2
        go_ret
        exact ⟨ret_b HG.out.symm, HOUT.out _ HBc.out⟩
  . obtain rfl : k = 3 := by omega
    have hki : ¬ ((3 : Nat) : Int) < 3 := by omega
    have HG := lh (show opsB r f n 3 = true from by
     unfold opsB opsB opsB opsB
     rw [HJ.out 0 (by omega), HJ.out 1 (by omega), HJ.out 2 (by omega)]
     rfl)
    go_wp2
    go_ret
    exact ⟨ret_b HG.out.symm, HB0.out.trans (HB.out.mono HB0.out.size)⟩
def instR (p sl r : Int) (n1 : Nat) (sp : Nat -> Int) (i : InstV) : Bool :=
 decide (1 <= i.op /\ i.op <= 12) && ((if (shpF i.op).sub = true then subR i.op i.sub else decide (i.sub = 0)) && ((if (shpF i.op).n = true then idxR p sl n1 sp i.op i.n else decide (i.n = 0)) && ((if (shpF i.op).d = true then regB r i.d else zerO i.d) && opsB r (lstO [i.a, i.b, i.c]) (shpF i.op).vs.toNat 3)))
theorem shp_vs (op : Int) : ∃ v : Nat, (shpF op).vs = (v : Int) /\ v <= 3 := by
 have hop : op = 1 \/ op = 2 \/ op = 3 \/ op = 4 \/ op = 5 \/ op = 6 \/ op = 7 \/ op = 8 \/ op = 9 \/ op = 10 \/ op = 11 \/ op = 12 \/ (op < 1 \/ 12 < op) := by omega
 rcases hop with rfl | rfl | rfl | rfl | rfl | rfl | rfl | rfl | rfl | rfl | rfl | rfl | h
 . exact ⟨1, rfl, by decide⟩
 . exact ⟨1, rfl, by decide⟩
 . exact ⟨2, rfl, by decide⟩
 . exact ⟨3, rfl, by decide⟩
 . exact ⟨0, rfl, by decide⟩
 . exact ⟨0, rfl, by decide⟩
 . exact ⟨1, rfl, by decide⟩
 . exact ⟨2, rfl, by decide⟩
 . exact ⟨2, rfl, by decide⟩
 . exact ⟨0, rfl, by decide⟩
 . exact ⟨0, rfl, by decide⟩
 . exact ⟨1, rfl, by decide⟩
 . have h0 : shpF op = ⟨false, false, false, 0⟩ := by unfold shpF; rw [if_neg (by omega), if_neg (by omega), if_neg (by omega), if_neg (by omega), if_neg (by omega), if_neg (by omega), if_neg (by omega), if_neg (by omega), if_neg (by omega), if_neg (by omega), if_neg (by omega), if_neg (by omega)]
   rw [h0]
   exact ⟨0, rfl, by decide⟩
theorem inst_r (g s r sl p : Int) (n1 c1 n2 c2 n3 c3 : Nat) (A1 A2 A3 : Option Addr) (nm : Nat -> ByteArray) (sp ty ln : Nat -> Int) (i : InstV) (w : World) (r0 : 0 <= r) (r1 : r <= 9223372036854775807) (p0 : 0 <= p) (p1 : p <= 9223372036854775807) (s0 : 0 <= sl) (s1 : sl <= 9223372036854775807) (hn : n1 <= 65536) (hr : RAr w w.heap.size A1 n1 nm sp ty ln) :
 Calls Tryz.prog 81 #[.agg #[g, s, r, sl, p, .slice A1 n1 c1, .slice A2 n2 c2, .slice A3 n3 c3], i.val] w fun e w' => e = .returned (.bool (instR p sl r n1 sp i)) /\ Below w.heap.size w w' := by
 obtain ⟨v, hv, hv3⟩ := shp_vs i.op
 have HF := fun W => form_r i.op W
 have HS0 := fun W => sub_any i W
 have HI0 := fun (V : World) (hV : Below w.heap.size w V) => index_any g s r sl p n1 c1 n2 c2 n3 c3 A1 A2 A3 nm sp ty ln i V p0 p1 s0 s1 hn (hr.at hV)
 have HD0 := fun W => register_r g s r sl p n1 c1 n2 c2 n3 c3 A1 A2 A3 i.d.k i.d.n i.d.v W r0 r1
 have HO0 := fun (W : World) (A : Option Addr) (cl : Nat) (h : RO W W.heap.size A 3 (lstO [i.a, i.b, i.c])) => operands_any g s r sl p n1 c1 n2 c2 n3 c3 cl A1 A2 A3 A (lstO [i.a, i.b, i.c]) v W r0 r1 hv3 h
 have HN := lh (fun (W : World) (g : Nat) (hg : g = W.heap.size) => ro3 W i.a i.b i.c 27 (W.heap.size + 1) g hg (by omega))
 unfold instR
 rw [hv, Int.toNat_natCast]
 rw [hv] at HF
 obtain ⟨S, hS⟩ : ∃ S, (shpF i.op).sub = S := ⟨_, rfl⟩
 obtain ⟨N, hN⟩ : ∃ N, (shpF i.op).n = N := ⟨_, rfl⟩
 obtain ⟨D, hD⟩ : ∃ D, (shpF i.op).d = D := ⟨_, rfl⟩
 obtain ⟨is, his⟩ : ∃ is, decide (1 <= i.op /\ i.op <= 12) = is := ⟨_, rfl⟩
 obtain ⟨x5, hx5⟩ : ∃ x5, opsB r (lstO [i.a, i.b, i.c]) v 3 = x5 := ⟨_, rfl⟩
 rw [hS, hN, hD, his] at HF
 rw [hS, hN, hD, his, hx5]
 rw [hx5] at HO0
 clear hS hN hD his hx5 hv hv3 hr
 obtain ⟨res, hres⟩ : ∃ res, (is && ((if S = true then subR i.op i.sub else decide (i.sub = 0)) && ((if N = true then idxR p sl n1 sp i.op i.n else decide (i.n = 0)) && ((if D = true then regB r i.d else zerO i.d) && x5)))) = res := ⟨_, rfl⟩
 rw [hres]
 obtain ⟨op, sb, n, ⟨dk, dn, dv⟩, ⟨ak, an, av⟩, ⟨bk, bn, bv⟩, ⟨ck, cn, cv⟩⟩ := i
 simp only at hres
 simp only [InstV.val] at HS0 HI0 HD0 HO0 HN HF ⊢
 replace HF := lh HF
 replace HS0 := lh HS0
 replace HI0 := lh HI0
 replace HD0 := lh HD0
 have HO := lh HO0
 clear HO0
 have HBx := lh (show Below w.heap.size w ((w.alloc (.cells #[g, s, r, sl, p, .slice A1 n1 c1, .slice A2 n2 c2, .slice A3 n3 c3] 36)).alloc (.cells #[op, sb, n, dk, dn, .int .i32 dv, ak, an, .int .i32 av, bk, bn, .int .i32 bv, ck, cn, .int .i32 cv] 61)) from (bo _).alloc (by simp) _)
 have H2 := lh (show ((w.alloc (.cells #[g, s, r, sl, p, .slice A1 n1 c1, .slice A2 n2 c2, .slice A3 n3 c3] 36)).alloc (.cells #[op, sb, n, dk, dn, .int .i32 dv, ak, an, .int .i32 av, bk, bn, .int .i32 bv, ck, cn, .int .i32 cv] 61)).heap[w.heap.size]? = some (.cells #[g, s, r, sl, p, .slice A1 n1 c1, .slice A2 n2 c2, .slice A3 n3 c3] 36 (0, 0)) from (Below.heap_alloc _ _ _ (by simp)).trans (heap_alloc_new _ _))
 have H3 := lh (show ((w.alloc (.cells #[g, s, r, sl, p, .slice A1 n1 c1, .slice A2 n2 c2, .slice A3 n3 c3] 36)).alloc (.cells #[op, sb, n, dk, dn, .int .i32 dv, ak, an, .int .i32 av, bk, bn, .int .i32 bv, ck, cn, .int .i32 cv] 61)).heap[w.heap.size + 1]? = some (.cells #[op, sb, n, dk, dn, .int .i32 dv, ak, an, .int .i32 av, bk, bn, .int .i32 bv, ck, cn, .int .i32 cv] 61 (0, 0)) from by
  have := heap_alloc_new (w.alloc (.cells #[g, s, r, sl, p, .slice A1 n1 c1, .slice A2 n2 c2, .slice A3 n3 c3] 36)) (.cells #[op, sb, n, dk, dn, .int .i32 dv, ak, an, .int .i32 av, bk, bn, .int .i32 bv, ck, cn, .int .i32 cv] 61)
  rwa [World.size_alloc] at this)
 go_enter Tryz.func81, Tryz.ntmps81
 go_upto_region 2 with (first
  | (go_at_call 91; (with_reducible refine (HF.out _).mono ?_); rintro e w1 ⟨rfl, hb1⟩; have HB1 := lh hb1; clear hb1))
 have HB2 := lh (show Below w.heap.size w (w1.alloc (.cells #[.bool S, .bool N, .bool D, v] 153)) from (HBx.out.trans (HB1.out.mono HBx.out.size)).alloc (HBx.out.trans (HB1.out.mono HBx.out.size)).size _)
 have K2 := lh (show (w1.alloc (.cells #[.bool S, .bool N, .bool D, v] 153)).heap[w.heap.size]? = some (.cells #[g, s, r, sl, p, .slice A1 n1 c1, .slice A2 n2 c2, .slice A3 n3 c3] 36 (0, 0)) from by
  have h1 := (HB1.out.block _ (Array.getElem?_eq_some_iff.1 H2.out).1).trans H2.out
  exact (Below.heap_alloc _ _ _ (Array.getElem?_eq_some_iff.1 h1).1).trans h1)
 have K3 := lh (show (w1.alloc (.cells #[.bool S, .bool N, .bool D, v] 153)).heap[w.heap.size + 1]? = some (.cells #[op, sb, n, dk, dn, .int .i32 dv, ak, an, .int .i32 av, bk, bn, .int .i32 bv, ck, cn, .int .i32 cv] 61 (0, 0)) from by
  have h1 := (HB1.out.block _ (Array.getElem?_eq_some_iff.1 H3.out).1).trans H3.out
  exact (Below.heap_alloc _ _ _ (Array.getElem?_eq_some_iff.1 h1).1).trans h1)
 have K5 := lh (show (w1.alloc (.cells #[.bool S, .bool N, .bool D, v] 153)).heap[w1.heap.size]? = some (.cells #[.bool S, .bool N, .bool D, v] 153 (0, 0)) from heap_alloc_new _ _)
 clear HBx H2 H3 HB1 HF
 generalize (w1.alloc (.cells #[.bool S, .bool N, .bool D, v] 153)) = W2 at *
 generalize w1.heap.size = b5 at *
 obtain ⟨b3, hb3⟩ : ∃ b3, w.heap.size + 1 = b3 := ⟨_, rfl⟩
 rw [hb3] at K3 ⊢
 clear hb3
 obtain ⟨b2, hb2⟩ : ∃ b2, w.heap.size = b2 := ⟨_, rfl⟩
 have HW2 := lh (show ∀ V, Below W2.heap.size W2 V -> Below w.heap.size w V from fun V hV => by exact HB2.out.trans (hV.mono HB2.out.size))
 rw [hb2] at K2 ⊢
 clear hb2 HB2
 replace HI0 := lh (fun (V : World) (hV : Below W2.heap.size W2 V) => HI0.out V (HW2.out V hV))
 have HOUT := HW2
 have HALL := lh (show ∀ V, Below W2.heap.size W2 V -> V.cell? ⟨b2, 0, none⟩ = some (.int .i64 g) /\ V.cell? ⟨b2, 1, none⟩ = some (.int .i64 s) /\ V.cell? ⟨b2, 2, none⟩ = some (.int .i64 r) /\ V.cell? ⟨b2, 3, none⟩ = some (.int .i64 sl) /\ V.cell? ⟨b2, 4, none⟩ = some (.int .i64 p) /\ V.cell? ⟨b2, 5, none⟩ = some (.slice A1 n1 c1) /\ V.cell? ⟨b2, 6, none⟩ = some (.slice A2 n2 c2) /\ V.cell? ⟨b2, 7, none⟩ = some (.slice A3 n3 c3) /\ V.cell? ⟨b3, 0, none⟩ = some (.int .i64 op) /\ V.cell? ⟨b3, 1, none⟩ = some (.int .i64 sb) /\ V.cell? ⟨b3, 2, none⟩ = some (.int .i64 n) /\ V.cell? ⟨b3, 3, none⟩ = some (.int .i64 dk) /\ V.cell? ⟨b3, 4, none⟩ = some (.int .i64 dn) /\ V.cell? ⟨b3, 5, none⟩ = some (.int .i32 dv) /\ V.cell? ⟨b3, 6, none⟩ = some (.int .i64 ak) /\ V.cell? ⟨b3, 7, none⟩ = some (.int .i64 an) /\ V.cell? ⟨b3, 8, none⟩ = some (.int .i32 av) /\ V.cell? ⟨b3, 9, none⟩ = some (.int .i64 bk) /\ V.cell? ⟨b3, 10, none⟩ = some (.int .i64 bn) /\ V.cell? ⟨b3, 11, none⟩ = some (.int .i32 bv) /\ V.cell? ⟨b3, 12, none⟩ = some (.int .i64 ck) /\ V.cell? ⟨b3, 13, none⟩ = some (.int .i64 cn) /\ V.cell? ⟨b3, 14, none⟩ = some (.int .i32 cv) /\ V.cell? ⟨b5, 0, none⟩ = some (.bool S) /\ V.cell? ⟨b5, 1, none⟩ = some (.bool N) /\ V.cell? ⟨b5, 2, none⟩ = some (.bool D) /\ V.cell? ⟨b5, 3, none⟩ = some (.int .i64 (v : Int)) from fun V hV => by
  have q2 := (hV.block _ (Array.getElem?_eq_some_iff.1 K2.out).1).trans K2.out
  have q3 := (hV.block _ (Array.getElem?_eq_some_iff.1 K3.out).1).trans K3.out
  have q5 := (hV.block _ (Array.getElem?_eq_some_iff.1 K5.out).1).trans K5.out
  exact ⟨cell_blk q2 (i := 0) rfl, cell_blk q2 (i := 1) rfl, cell_blk q2 (i := 2) rfl, cell_blk q2 (i := 3) rfl, cell_blk q2 (i := 4) rfl, cell_blk q2 (i := 5) rfl, cell_blk q2 (i := 6) rfl, cell_blk q2 (i := 7) rfl, cell_blk q3 (i := 0) rfl, cell_blk q3 (i := 1) rfl, cell_blk q3 (i := 2) rfl, cell_blk q3 (i := 3) rfl, cell_blk q3 (i := 4) rfl, cell_blk q3 (i := 5) rfl, cell_blk q3 (i := 6) rfl, cell_blk q3 (i := 7) rfl, cell_blk q3 (i := 8) rfl, cell_blk q3 (i := 9) rfl, cell_blk q3 (i := 10) rfl, cell_blk q3 (i := 11) rfl, cell_blk q3 (i := 12) rfl, cell_blk q3 (i := 13) rfl, cell_blk q3 (i := 14) rfl, cell_blk q5 (i := 0) rfl, cell_blk q5 (i := 1) rfl, cell_blk q5 (i := 2) rfl, cell_blk q5 (i := 3) rfl⟩)
 have HBc := lh (Below.refl W2.heap.size W2)
 obtain ⟨_, _, _, _, _, _, _, _, _, _, _, _, _, _, _, _, _, _, _, _, _, _, _, _, _, _, _⟩ := HALL.out _ HBc.out
 have L5 := lh (Array.getElem?_eq_some_iff.1 K5.out).1
 clear K2 K3 K5
 obtain ⟨y, hy⟩ : ∃ y, (is && ((if S = true then subR op sb else decide (sb = 0)) && (if N = true then idxR p sl n1 sp op n else decide (n = 0)))) = y := ⟨_, rfl⟩
 obtain ⟨z, hz⟩ : ∃ z, (if D = true then regB r ⟨dk, dn, dv⟩ else zerO ⟨dk, dn, dv⟩) = z := ⟨_, rfl⟩
 have HRS := lh (show (y && (z && x5)) = res from by rw [<- hres, <- hy, <- hz]; simp only [Bool.and_assoc])
 have HYZ := lh hz
 clear hres hz
 go_cut [53] (fun u wx => u = .bool (!y) /\ ∃ W3 : World, W3 = wx /\ Hid (Below W2.heap.size W2 wx))
 case first =>
  cases is with
  | false =>
   have HY := lh (show false = y from by rw [<- hy, Bool.false_and])
   clear hy
   go_wp2
   go_meet
   exact ⟨by rw [<- HY.out]; rfl, _, rfl, HBc⟩
  | true =>
   rw [Bool.true_and] at hy
   cases S with
   | true =>
    obtain ⟨x2, hx2⟩ : ∃ x2, subR op sb = x2 := ⟨_, rfl⟩
    have HS := HS0.out
    rw [hx2] at HS
    rw [if_pos rfl, hx2] at hy
    clear hx2
    replace HS := lh HS
    cases x2 with
    | false =>
     have HI := HI0
     have HY := lh (show false = y from by rw [<- hy]; simp)
     clear hy
     go_wp2_with (first
      | (go_at_call 116; (with_reducible refine (HS.out _).mono ?_); rintro e x1 ⟨rfl, hbx⟩; replace HBc := lh (HBc.out.trans (hbx.mono HBc.out.size)); obtain ⟨s0, s1, _, _, _, _, _, _, _, _, _, _, _, _, _, _, _, _, _, _, _, _, _, _, _, _, _⟩ := HALL.out _ HBc.out; clear hbx)
      | (go_at_call 117; (with_reducible refine (HI.out _ HBc.out).mono ?_); rintro e x2 ⟨rfl, hbx⟩; replace HBc := lh (HBc.out.trans (hbx.mono HBc.out.size)); obtain ⟨_, _, _, _, _, _, _, _, _, _, _, _, _, _, _, _, _, _, _, _, _, _, _, _, _, _, _⟩ := HALL.out _ HBc.out; clear hbx))
     go_meet
     exact ⟨by rw [<- HY.out]; rfl, _, rfl, HBc⟩
    | true =>
     rw [Bool.true_and] at hy
     cases N with
     | true =>
      obtain ⟨x3, hx3⟩ : ∃ x3, idxR p sl n1 sp op n = x3 := ⟨_, rfl⟩
      have HI := HI0.out
      rw [hx3] at HI
      rw [if_pos rfl, hx3] at hy
      clear hx3
      replace HI := lh HI
      cases x3 with
      | false =>
       have HY := lh (show false = y from by rw [<- hy])
       clear hy
       go_wp2_with (first
        | (go_at_call 116; (with_reducible refine (HS.out _).mono ?_); rintro e x1 ⟨rfl, hbx⟩; replace HBc := lh (HBc.out.trans (hbx.mono HBc.out.size)); obtain ⟨s0, s1, _, _, _, _, _, _, _, _, _, _, _, _, _, _, _, _, _, _, _, _, _, _, _, _, _⟩ := HALL.out _ HBc.out; clear hbx)
        | (go_at_call 117; (with_reducible refine (HI.out _ HBc.out).mono ?_); rintro e x2 ⟨rfl, hbx⟩; replace HBc := lh (HBc.out.trans (hbx.mono HBc.out.size)); obtain ⟨_, _, _, _, _, _, _, _, _, _, _, _, _, _, _, _, _, _, _, _, _, _, _, _, _, _, _⟩ := HALL.out _ HBc.out; clear hbx))
       go_meet
       exact ⟨by rw [<- HY.out]; rfl, _, rfl, HBc⟩
      | true =>
       have HY := lh hy
       clear hy
       go_wp2_with (first
        | (go_at_call 116; (with_reducible refine (HS.out _).mono ?_); rintro e x1 ⟨rfl, hbx⟩; replace HBc := lh (HBc.out.trans (hbx.mono HBc.out.size)); obtain ⟨s0, s1, _, _, _, _, _, _, _, _, _, _, _, _, _, _, _, _, _, _, _, _, _, _, _, _, _⟩ := HALL.out _ HBc.out; clear hbx)
        | (go_at_call 117; (with_reducible refine (HI.out _ HBc.out).mono ?_); rintro e x2 ⟨rfl, hbx⟩; replace HBc := lh (HBc.out.trans (hbx.mono HBc.out.size)); obtain ⟨_, _, _, _, _, _, _, _, _, _, _, _, _, _, _, _, _, _, _, _, _, _, _, _, _, _, _⟩ := HALL.out _ HBc.out; clear hbx))
       go_meet
       exact ⟨by rw [<- HY.out]; rfl, _, rfl, HBc⟩
     | false =>
      rw [if_neg (by decide)] at hy
      have HI := HI0
      by_cases hz : n = 0
      . subst hz
        rw [decide_eq_true rfl] at hy
        have HY := lh hy
        clear hy
        go_wp2_with (first
         | (go_at_call 116; (with_reducible refine (HS.out _).mono ?_); rintro e x1 ⟨rfl, hbx⟩; replace HBc := lh (HBc.out.trans (hbx.mono HBc.out.size)); obtain ⟨s0, s1, _, _, _, _, _, _, _, _, _, _, _, _, _, _, _, _, _, _, _, _, _, _, _, _, _⟩ := HALL.out _ HBc.out; clear hbx)
         | (go_at_call 117; (with_reducible refine (HI.out _ HBc.out).mono ?_); rintro e x2 ⟨rfl, hbx⟩; replace HBc := lh (HBc.out.trans (hbx.mono HBc.out.size)); obtain ⟨_, _, _, _, _, _, _, _, _, _, _, _, _, _, _, _, _, _, _, _, _, _, _, _, _, _, _⟩ := HALL.out _ HBc.out; clear hbx))
        go_meet
        exact ⟨by rw [<- HY.out]; rfl, _, rfl, HBc⟩
      . rw [decide_eq_false hz] at hy
        have hz' : (n == 0) = false := by simpa using hz
        have hz2 : (n != 0) = true := by simpa using hz
        have HY := lh (show false = y from by rw [<- hy])
        clear hy
        go_wp2_with (first
         | (go_at_call 116; (with_reducible refine (HS.out _).mono ?_); rintro e x1 ⟨rfl, hbx⟩; replace HBc := lh (HBc.out.trans (hbx.mono HBc.out.size)); obtain ⟨s0, s1, _, _, _, _, _, _, _, _, _, _, _, _, _, _, _, _, _, _, _, _, _, _, _, _, _⟩ := HALL.out _ HBc.out; clear hbx)
         | (go_at_call 117; (with_reducible refine (HI.out _ HBc.out).mono ?_); rintro e x2 ⟨rfl, hbx⟩; replace HBc := lh (HBc.out.trans (hbx.mono HBc.out.size)); obtain ⟨_, _, _, _, _, _, _, _, _, _, _, _, _, _, _, _, _, _, _, _, _, _, _, _, _, _, _⟩ := HALL.out _ HBc.out; clear hbx))
        go_meet
        exact ⟨by rw [<- HY.out]; rfl, _, rfl, HBc⟩
   | false =>
    rw [if_neg (by decide)] at hy
    have HS := HS0
    by_cases hz : sb = 0
    . subst hz
      rw [decide_eq_true rfl, Bool.true_and] at hy
      cases N with
      | true =>
       obtain ⟨x3, hx3⟩ : ∃ x3, idxR p sl n1 sp op n = x3 := ⟨_, rfl⟩
       have HI := HI0.out
       rw [hx3] at HI
       rw [if_pos rfl, hx3] at hy
       clear hx3
       replace HI := lh HI
       cases x3 with
       | false =>
        have HY := lh (show false = y from by rw [<- hy])
        clear hy
        go_wp2_with (first
         | (go_at_call 116; (with_reducible refine (HS.out _).mono ?_); rintro e x1 ⟨rfl, hbx⟩; replace HBc := lh (HBc.out.trans (hbx.mono HBc.out.size)); obtain ⟨s0, s1, _, _, _, _, _, _, _, _, _, _, _, _, _, _, _, _, _, _, _, _, _, _, _, _, _⟩ := HALL.out _ HBc.out; clear hbx)
         | (go_at_call 117; (with_reducible refine (HI.out _ HBc.out).mono ?_); rintro e x2 ⟨rfl, hbx⟩; replace HBc := lh (HBc.out.trans (hbx.mono HBc.out.size)); obtain ⟨_, _, _, _, _, _, _, _, _, _, _, _, _, _, _, _, _, _, _, _, _, _, _, _, _, _, _⟩ := HALL.out _ HBc.out; clear hbx))
        go_meet
        exact ⟨by rw [<- HY.out]; rfl, _, rfl, HBc⟩
       | true =>
        have HY := lh hy
        clear hy
        go_wp2_with (first
         | (go_at_call 116; (with_reducible refine (HS.out _).mono ?_); rintro e x1 ⟨rfl, hbx⟩; replace HBc := lh (HBc.out.trans (hbx.mono HBc.out.size)); obtain ⟨s0, s1, _, _, _, _, _, _, _, _, _, _, _, _, _, _, _, _, _, _, _, _, _, _, _, _, _⟩ := HALL.out _ HBc.out; clear hbx)
         | (go_at_call 117; (with_reducible refine (HI.out _ HBc.out).mono ?_); rintro e x2 ⟨rfl, hbx⟩; replace HBc := lh (HBc.out.trans (hbx.mono HBc.out.size)); obtain ⟨_, _, _, _, _, _, _, _, _, _, _, _, _, _, _, _, _, _, _, _, _, _, _, _, _, _, _⟩ := HALL.out _ HBc.out; clear hbx))
        go_meet
        exact ⟨by rw [<- HY.out]; rfl, _, rfl, HBc⟩
      | false =>
       rw [if_neg (by decide)] at hy
       have HI := HI0
       by_cases hz : n = 0
       . subst hz
         rw [decide_eq_true rfl] at hy
         have HY := lh hy
         clear hy
         go_wp2_with (first
          | (go_at_call 116; (with_reducible refine (HS.out _).mono ?_); rintro e x1 ⟨rfl, hbx⟩; replace HBc := lh (HBc.out.trans (hbx.mono HBc.out.size)); obtain ⟨s0, s1, _, _, _, _, _, _, _, _, _, _, _, _, _, _, _, _, _, _, _, _, _, _, _, _, _⟩ := HALL.out _ HBc.out; clear hbx)
          | (go_at_call 117; (with_reducible refine (HI.out _ HBc.out).mono ?_); rintro e x2 ⟨rfl, hbx⟩; replace HBc := lh (HBc.out.trans (hbx.mono HBc.out.size)); obtain ⟨_, _, _, _, _, _, _, _, _, _, _, _, _, _, _, _, _, _, _, _, _, _, _, _, _, _, _⟩ := HALL.out _ HBc.out; clear hbx))
         go_meet
         exact ⟨by rw [<- HY.out]; rfl, _, rfl, HBc⟩
       . rw [decide_eq_false hz] at hy
         have hz' : (n == 0) = false := by simpa using hz
         have hz2 : (n != 0) = true := by simpa using hz
         have HY := lh (show false = y from by rw [<- hy])
         clear hy
         go_wp2_with (first
          | (go_at_call 116; (with_reducible refine (HS.out _).mono ?_); rintro e x1 ⟨rfl, hbx⟩; replace HBc := lh (HBc.out.trans (hbx.mono HBc.out.size)); obtain ⟨s0, s1, _, _, _, _, _, _, _, _, _, _, _, _, _, _, _, _, _, _, _, _, _, _, _, _, _⟩ := HALL.out _ HBc.out; clear hbx)
          | (go_at_call 117; (with_reducible refine (HI.out _ HBc.out).mono ?_); rintro e x2 ⟨rfl, hbx⟩; replace HBc := lh (HBc.out.trans (hbx.mono HBc.out.size)); obtain ⟨_, _, _, _, _, _, _, _, _, _, _, _, _, _, _, _, _, _, _, _, _, _, _, _, _, _, _⟩ := HALL.out _ HBc.out; clear hbx))
         go_meet
         exact ⟨by rw [<- HY.out]; rfl, _, rfl, HBc⟩
    . rw [decide_eq_false hz] at hy
      have hz' : (sb == 0) = false := by simpa using hz
      have hz2 : (sb != 0) = true := by simpa using hz
      have HI := HI0
      have HY := lh (show false = y from by rw [<- hy]; simp)
      clear hy
      go_wp2_with (first
       | (go_at_call 116; (with_reducible refine (HS.out _).mono ?_); rintro e x1 ⟨rfl, hbx⟩; replace HBc := lh (HBc.out.trans (hbx.mono HBc.out.size)); obtain ⟨s0, s1, _, _, _, _, _, _, _, _, _, _, _, _, _, _, _, _, _, _, _, _, _, _, _, _, _⟩ := HALL.out _ HBc.out; clear hbx)
       | (go_at_call 117; (with_reducible refine (HI.out _ HBc.out).mono ?_); rintro e x2 ⟨rfl, hbx⟩; replace HBc := lh (HBc.out.trans (hbx.mono HBc.out.size)); obtain ⟨_, _, _, _, _, _, _, _, _, _, _, _, _, _, _, _, _, _, _, _, _, _, _, _, _, _, _⟩ := HALL.out _ HBc.out; clear hbx))
      go_meet
      exact ⟨by rw [<- HY.out]; rfl, _, rfl, HBc⟩
 case rest =>
  obtain ⟨rfl, W3, rfl, HB3⟩ := hcut
  clear hy
  replace HBc := HB3
  obtain ⟨_, e1, e2, e3, e4, e5, e6, _, _, _, _, _, _, _, _, _, _, _, _, _, _, _, _, _, _, _, _⟩ := HALL.out _ HBc.out
  cases y with
  | false =>
   have HRES := lh (show false = res from by rw [<- HRS.out, Bool.false_and])
   go_wp2
   go_ret
   exact ⟨ret_b HRES.out, HOUT.out _ HBc.out⟩
  | true =>
   go_upto_region 4 with (fail)
   go_cut [73] (fun u wx => u = .bool (!z) /\ ∃ W4 : World, W4 = wx /\ Hid (Below W2.heap.size W2 wx))
   case first =>
    have hz := HYZ.out
    cases D with
    | true =>
     have HD := HD0.out
     rw [if_pos rfl] at hz
     rw [hz] at HD
     replace HD := lh HD
     clear hz
     cases z with
     | false =>
      go_wp2_with (first
       | (go_at_call 118; (with_reducible refine (HD.out _).mono ?_); rintro e x3 ⟨rfl, hbx⟩; replace HBc := lh (HBc.out.trans (hbx.mono HBc.out.size)); obtain ⟨_, _, _, _, _, _, _, _, _, _, _, _, _, _, _, _, _, _, _, _, _, _, _, _, _, _, _⟩ := HALL.out _ HBc.out; clear hbx))
      go_meet
      exact ⟨rfl, _, rfl, HBc⟩
     | true =>
      go_wp2_with (first
       | (go_at_call 118; (with_reducible refine (HD.out _).mono ?_); rintro e x3 ⟨rfl, hbx⟩; replace HBc := lh (HBc.out.trans (hbx.mono HBc.out.size)); obtain ⟨_, _, _, _, _, _, _, _, _, _, _, _, _, _, _, _, _, _, _, _, _, _, _, _, _, _, _⟩ := HALL.out _ HBc.out; clear hbx))
      go_meet
      exact ⟨rfl, _, rfl, HBc⟩
    | false =>
     have HD := HD0
     rw [if_neg (by decide)] at hz
     by_cases hk : dk = 0
     . subst hk
       by_cases hn : dn = 0
       . subst hn
         by_cases hv : dv = 0
         . subst hv
           have HY := lh (show true = z from by rw [<- hz]; rfl)
           clear hz
           go_wp2_with (first
            | (go_at_call 118; (with_reducible refine (HD.out _).mono ?_); rintro e x3 ⟨rfl, hbx⟩; replace HBc := lh (HBc.out.trans (hbx.mono HBc.out.size)); obtain ⟨_, _, _, _, _, _, _, _, _, _, _, _, _, _, _, _, _, _, _, _, _, _, _, _, _, _, _⟩ := HALL.out _ HBc.out; clear hbx))
           go_meet
           exact ⟨by rw [<- HY.out]; rfl, _, rfl, HBc⟩
         . have hz' : (dv == 0) = false := by simpa using hv
           have HY := lh (show false = z from by rw [<- hz]; unfold zerO; simp [hv])
           clear hz
           go_wp2_with (first
            | (go_at_call 118; (with_reducible refine (HD.out _).mono ?_); rintro e x3 ⟨rfl, hbx⟩; replace HBc := lh (HBc.out.trans (hbx.mono HBc.out.size)); obtain ⟨_, _, _, _, _, _, _, _, _, _, _, _, _, _, _, _, _, _, _, _, _, _, _, _, _, _, _⟩ := HALL.out _ HBc.out; clear hbx))
           go_meet
           exact ⟨by rw [<- HY.out]; rfl, _, rfl, HBc⟩
       . have hz' : (dn == 0) = false := by simpa using hn
         have HY := lh (show false = z from by rw [<- hz]; unfold zerO; simp [hn])
         clear hz
         go_wp2_with (first
          | (go_at_call 118; (with_reducible refine (HD.out _).mono ?_); rintro e x3 ⟨rfl, hbx⟩; replace HBc := lh (HBc.out.trans (hbx.mono HBc.out.size)); obtain ⟨_, _, _, _, _, _, _, _, _, _, _, _, _, _, _, _, _, _, _, _, _, _, _, _, _, _, _⟩ := HALL.out _ HBc.out; clear hbx))
         go_meet
         exact ⟨by rw [<- HY.out]; rfl, _, rfl, HBc⟩
     . have hz' : (dk == 0) = false := by simpa using hk
       have HY := lh (show false = z from by rw [<- hz]; unfold zerO; simp [hk])
       clear hz
       go_wp2_with (first
        | (go_at_call 118; (with_reducible refine (HD.out _).mono ?_); rintro e x3 ⟨rfl, hbx⟩; replace HBc := lh (HBc.out.trans (hbx.mono HBc.out.size)); obtain ⟨_, _, _, _, _, _, _, _, _, _, _, _, _, _, _, _, _, _, _, _, _, _, _, _, _, _, _⟩ := HALL.out _ HBc.out; clear hbx))
       go_meet
       exact ⟨by rw [<- HY.out]; rfl, _, rfl, HBc⟩
   case rest =>
    obtain ⟨rfl, W4, rfl, HB4⟩ := hcut
    replace HBc := HB4
    obtain ⟨_, _, _, _, _, _, _, _, _, _, _, _, _, _, _, _, _, _, _, _, _, _, _, _, _, _, _⟩ := HALL.out _ HBc.out
    cases z with
    | false =>
     have HRES := lh (show false = res from by rw [<- HRS.out, Bool.true_and, Bool.false_and])
     go_wp2
     go_ret
     exact ⟨ret_b HRES.out, HOUT.out _ HBc.out⟩
    | true =>
     have h5 := Nat.lt_of_lt_of_le L5.out HBc.out.size
     have HRES := lh (show x5 = res from by rw [<- HRS.out, Bool.true_and, Bool.true_and])
     go_wp2_with (first
      | (go_at_call 119; (refine (HO.out _ _ _ (by rw [World.size_alloc]; exact HN.out _ _ (by simp))).mono ?_); rintro e x4 ⟨rfl, hbx⟩; have HX4 := lh hbx; clear hbx))
     go_ret
     exact ⟨ret_b HRES.out, HOUT.out _ (HBc.out.trans ((bo _).trans (HX4.out.mono (by simp)) |>.mono HBc.out.size))⟩
end Go.Proofs.YtkncilgmlkeifaaGreatDoor
