/-
  Package code: contracts of within, span, isName, isArray, of the closure in limited, of all over arrays; words for arrays in memory.
-/
import Derived.Test.YtkncilgmlkeifaaGreatDoorLh
import Derived.Test.YtkncilgmlkeifaaGreatDoorProg
import Derived.WalkKit
import Derived.ProofKit
import Derived.OpenShut
import Derived.Below
import Derived.OneCell
import Derived.Lib.Hide
import Derived.Laws.OwnMore
import Derived.Laws.Rows
import Derived.Deep.QuietTactic
import Derived.BigQuiet
import Derived.Outline
set_option linter.unusedVariables false
set_option linter.unusedSimpArgs false
set_option maxRecDepth 100000
set_option maxHeartbeats 4000000
namespace Go.Proofs.YtkncilgmlkeifaaGreatDoor
open Go.ChangeShapes Go.WideShapes Go.ChangeAt Go.RowKit
theorem bcell {W w1 : World} (hb : Below W.heap.size W w1) : (∀ b o, b < W.heap.size -> w1.cell? ⟨b, o, none⟩ = W.cell? ⟨b, o, none⟩) /\ (∀ b o, b < W.heap.size -> w1.frozen? ⟨b, o, none⟩ = W.frozen? ⟨b, o, none⟩) :=
 ⟨fun b o h => hb.cell (p := ⟨b, o, none⟩) h, fun b o h => hb.frozen (p := ⟨b, o, none⟩) h⟩
theorem ret_b {a b : Bool} (h : a = b) : Ending.returned (.bool a) = .returned (.bool b) := by rw [h]
def wthB (n lo hi : Int) : Bool := decide (lo <= n) && decide (n <= hi)
theorem within_any (n lo hi : Int) (w : World) : Calls Tryz.prog 56 #[n, lo, hi] w fun e w' => e = .returned (.bool (wthB n lo hi)) /\ w = w' := by
 unfold wthB
 by_cases h1 : lo <= n
 . simp only [decide_eq_true h1, Bool.true_and]
   go_enter Tryz.func56, Tryz.ntmps56
   go_wp2
   go_ret
   exact ⟨rfl, rfl⟩
 . simp only [decide_eq_false h1, Bool.false_and]
   go_enter Tryz.func56, Tryz.ntmps56
   go_wp2
   go_ret
   exact ⟨rfl, rfl⟩
def okC (c : UInt8) (i : Nat) : Bool :=
 (decide (97 <= (c.toNat : Int)) && decide ((c.toNat : Int) <= 122) || decide (65 <= (c.toNat : Int)) && decide ((c.toNat : Int) <= 90)) || (decide (48 <= (c.toNat : Int)) && decide ((c.toNat : Int) <= 57) && decide (0 < i))
def nameB (s : ByteArray) : Bool := (List.range s.size).all (fun i => okC (s.data.toList.getD i 0) i) && decide (0 < s.size)
theorem nameB_false {s : ByteArray} {i : Nat} (hi : i < s.size) (h : okC s[i] i = false) : nameB s = false := by
 unfold nameB
 rw [Bool.and_eq_false_iff]
 left
 rw [Bool.eq_false_iff, ne_eq, List.all_eq_true]
 intro hh
 have := hh i (by simpa using hi)
 have e : s.data.toList.getD i 0 = s[i] := by
  rw [List.getD_eq_getElem?_getD, List.getElem?_eq_getElem (by simpa using hi)]; rfl
 rw [e, h] at this
 cases this
theorem nameB_true {s : ByteArray} (h : ∀ i (hi : i < s.size), okC s[i] i = true) : nameB s = decide (0 < s.size) := by
 unfold nameB
 have : (List.range s.size).all (fun i => okC (s.data.toList.getD i 0) i) = true := by
  rw [List.all_eq_true]
  intro i hi
  have hi' : i < s.size := by simpa using hi
  have e : s.data.toList.getD i 0 = s[i] := by
   rw [List.getD_eq_getElem?_getD, List.getElem?_eq_getElem (by simpa using hi')]; rfl
  rw [e]
  exact h i hi'
 rw [this, Bool.true_and]
theorem isName_any (s : ByteArray) (w : World) (hs : s.size <= 9223372036854775807) : Calls Tryz.prog 128 #[.string s] w fun e w' => e = .returned (.bool (nameB s)) /\ w = w' := by
 have HF := lh (fun i hi h => nameB_false (s := s) (i := i) hi h)
 have HT := lh (fun h => nameB_true (s := s) h)
 obtain ⟨nb, hnb⟩ : ∃ nb, nameB s = nb := ⟨_, rfl⟩
 rw [hnb] at HF HT ⊢
 clear hnb
 go_enter Tryz.func128, Tryz.ntmps128
 go_wp2
 go_loop [8] (fun i => ∃ k : Nat, k <= s.size /\ i = .int .i64 k /\ Hid (∀ i (hi : i < s.size), i < k -> okC s[i] i = true)) (fun i => s.size - (intOf i).toNat)
 case atStart => exact ⟨0, Nat.zero_le _, rfl, lh (fun i hi h => absurd h (by omega))⟩
 case round =>
  obtain ⟨k, hk, rfl, hall⟩ := hrel
  by_cases hlt : k < s.size
  . obtain ⟨c, hc⟩ : ∃ c, s[k] = c := ⟨_, rfl⟩
    have HFK := lh (HF.out k hlt)
    have hnext : okC c k = true -> ∀ i (hi : i < s.size), i < k + 1 -> okC s[i] i = true := fun h i hi hik => by
     by_cases e : i = k
     . subst e; rw [hc]; exact h
     . exact hall.out i hi (by omega)
    have HN := lh hnext
    rw [hc] at HFK
    have HC := lh hc
    clear hnext hall hc
    have hcb : s[k] = c := HC.out
    have hn : c.toNat < 48 \/ (48 <= c.toNat /\ c.toNat <= 57) \/ (58 <= c.toNat /\ c.toNat <= 64) \/ (65 <= c.toNat /\ c.toNat <= 90) \/ (91 <= c.toNat /\ c.toNat <= 96) \/ (97 <= c.toNat /\ c.toNat <= 122) \/ 122 < c.toNat := by omega
    rcases hn with h | ⟨h1, h2⟩ | ⟨h1, h2⟩ | ⟨h1, h2⟩ | ⟨h1, h2⟩ | ⟨h1, h2⟩ | h
    . have HG := lh (HFK.out (by simp [okC]; omega))
      go_wp2
      go_ret
      exact ⟨ret_b HG.out.symm, rfl⟩
    . by_cases hk0 : 0 < k
      . have hk1 : ((k : Int) == 0) = false := by simp; omega
        have HG := lh (HN.out (by simp [okC]; omega))
        go_wp2
        go_round
        case rel => exact ⟨k + 1, by omega, by go_num, HG⟩
        case measure => simp [intOf]; omega
      . have hk1 : k = 0 := by omega
        have hk2 : ((k : Int) == 0) = true := by simp; omega
        have HK1 := lh hk1
        clear hk1 hk0
        have HG := lh (HFK.out (by have := HK1.out; simp [okC]; omega))
        go_wp2
        go_ret
        exact ⟨ret_b HG.out.symm, rfl⟩
    . have HG := lh (HFK.out (by simp [okC]; omega))
      go_wp2
      go_ret
      exact ⟨ret_b HG.out.symm, rfl⟩
    . have HG := lh (HN.out (by simp [okC]; omega))
      go_wp2
      go_round
      case rel => exact ⟨k + 1, by omega, by go_num, HG⟩
      case measure => simp [intOf]; omega
    . have HG := lh (HFK.out (by simp [okC]; omega))
      have b90 : decide ((c.toNat : Int) <= 90) = false := by simp; omega
      go_wp2
      go_ret
      exact ⟨ret_b HG.out.symm, rfl⟩
    . have HG := lh (HN.out (by simp [okC]; omega))
      go_wp2
      go_round
      case rel => exact ⟨k + 1, by omega, by go_num, HG⟩
      case measure => simp [intOf]; omega
    . have HG := lh (HFK.out (by simp [okC]; omega))
      have b90 : decide ((c.toNat : Int) <= 90) = false := by simp; omega
      have b122 : decide ((c.toNat : Int) <= 122) = false := by simp; omega
      go_wp2
      go_ret
      exact ⟨ret_b HG.out.symm, rfl⟩
  . obtain rfl : k = s.size := by omega
    have HR := lh (HT.out (fun i hi => hall.out i hi hi))
    clear hall
    by_cases h0 : s.size = 0
    . have HR2 := lh (HR.out.trans (show decide (0 < s.size) = false from by rw [h0]; rfl))
      have hl : s.toList.isEmpty = true := by rw [ByteArray.toList_eq, List.isEmpty_iff_length_eq_zero, Array.length_toList]; exact h0
      have hl2 : (!s.toList.isEmpty) = false := by rw [hl]; rfl
      go_wp2
      go_ret
      exact ⟨ret_b HR2.out.symm, rfl⟩
    . have HR2 := lh (HR.out.trans (decide_eq_true (by omega)))
      have hl : s.toList.isEmpty = false := by rw [ByteArray.toList_eq, Bool.eq_false_iff, ne_eq, List.isEmpty_iff_length_eq_zero, Array.length_toList]; exact h0
      have hl2 : (!s.toList.isEmpty) = true := by rw [hl]; rfl
      go_wp2
      go_ret
      exact ⟨ret_b HR2.out.symm, rfl⟩
def arrB (nm : ByteArray) (sp ty ln : Int) : Bool := nameB nm && (wthB sp 1 3 && (wthB ty 1 3 && wthB ln 1 4096))
theorem isArray_any (nm : ByteArray) (sp ty ln : Int) (w : World) (hs : nm.size <= 9223372036854775807) : Calls Tryz.prog 96 #[.agg #[.string nm, sp, ty, ln]] w fun e w' => e = .returned (.bool (arrB nm sp ty ln)) /\ Below w.heap.size w w' := by
 have H1 := fun W => isName_any nm W hs
 have H2 := fun W => within_any sp 1 3 W
 have H3 := fun W => within_any ty 1 3 W
 have H4 := fun W => within_any ln 1 4096 W
 unfold arrB
 have hb : ∀ o, Below w.heap.size w (w.alloc o) := fun o => (Below.refl _ _).alloc (Nat.le_refl _) o
 have HB := lh hb
 clear hb hs
 cases h1 : nameB nm
 . rw [h1] at H1; rw [Bool.false_and]
   have G1 := lh H1; clear H1 H2 H3 H4 h1
   go_enter Tryz.func96, Tryz.ntmps96
   go_wp2_with (go_at_call 128; (with_reducible refine (G1.out _).mono ?_); rintro e w' ⟨rfl, rfl⟩)
   go_ret
   exact ⟨rfl, HB.out _⟩
 . rw [h1] at H1; rw [Bool.true_and]
   cases h2 : wthB sp 1 3
   . rw [h2] at H2; rw [Bool.false_and]
     have G1 := lh H1; have G2 := lh H2; clear H1 H2 H3 H4 h1 h2
     go_enter Tryz.func96, Tryz.ntmps96
     go_wp2_with (((first | go_at_call 128 | go_at_call 56); (with_reducible first | refine (G1.out _).mono ?_ | refine (G2.out _).mono ?_); rintro e w' ⟨rfl, rfl⟩))
     go_ret
     exact ⟨rfl, HB.out _⟩
   . rw [h2] at H2; rw [Bool.true_and]
     cases h3 : wthB ty 1 3
     . rw [h3] at H3; rw [Bool.false_and]
       have G1 := lh H1; have G2 := lh H2; have G3 := lh H3; clear H1 H2 H3 H4 h1 h2 h3
       go_enter Tryz.func96, Tryz.ntmps96
       go_wp2_with (((first | go_at_call 128 | go_at_call 56); (with_reducible first | refine (G1.out _).mono ?_ | refine (G2.out _).mono ?_ | refine (G3.out _).mono ?_); rintro e w' ⟨rfl, rfl⟩))
       go_ret
       exact ⟨rfl, HB.out _⟩
     . rw [h3] at H3; rw [Bool.true_and]
       obtain ⟨b4, hb4⟩ : ∃ b4, wthB ln 1 4096 = b4 := ⟨_, rfl⟩
       rw [hb4] at H4 ⊢
       have G1 := lh H1; have G2 := lh H2; have G3 := lh H3; have G4 := lh H4; clear H1 H2 H3 H4 h1 h2 h3 hb4
       go_enter Tryz.func96, Tryz.ntmps96
       go_wp2_with (((first | go_at_call 128 | go_at_call 56); (with_reducible first | refine (G1.out _).mono ?_ | refine (G2.out _).mono ?_ | refine (G3.out _).mono ?_ | refine (G4.out _).mono ?_); rintro e w' ⟨rfl, rfl⟩))
       go_ret
       exact ⟨rfl, HB.out _⟩
theorem short_any (nm : ByteArray) (sp ty ln : Int) (w : World) : Calls Tryz.prog 94 #[.agg #[.string nm, sp, ty, ln]] w fun e w' => e = .returned (.bool (decide ((nm.size : Int) <= 12))) /\ Below w.heap.size w w' := by
 go_enter Tryz.func94, Tryz.ntmps94
 go_wp2
 go_ret
 exact ⟨rfl, (Below.refl _ _).alloc (Nat.le_refl _) _⟩
def RAr (w : World) (B : Nat) (A : Option Addr) (n : Nat) (nm : Nat -> ByteArray) (sp ty ln : Nat -> Int) : Prop :=
 0 < n -> ∃ b off, A = some ⟨b, off, none⟩ /\ b < B /\ ∀ j, j < n -> w.cell? ⟨b, off + j * 4, none⟩ = some (.string (nm j)) /\ w.cell? ⟨b, off + j * 4 + 1, none⟩ = some (.int .i64 (sp j)) /\ w.cell? ⟨b, off + j * 4 + 2, none⟩ = some (.int .i64 (ty j)) /\ w.cell? ⟨b, off + j * 4 + 3, none⟩ = some (.int .i64 (ln j))
theorem RAr.below {w w' : World} {B n : Nat} {A : Option Addr} {nm : Nat -> ByteArray} {sp ty ln : Nat -> Int} (h : RAr w B A n nm sp ty ln) (hb : Below B w w') : RAr w' B A n nm sp ty ln := fun hn => by
 obtain ⟨b, off, e, hlt, hc⟩ := h hn
 refine ⟨b, off, e, hlt, fun j hj => ?_⟩
 obtain ⟨h1, h2, h3, h4⟩ := hc j hj
 exact ⟨(hb.cell (p := ⟨b, _, none⟩) hlt).trans h1, (hb.cell (p := ⟨b, _, none⟩) hlt).trans h2, (hb.cell (p := ⟨b, _, none⟩) hlt).trans h3, (hb.cell (p := ⟨b, _, none⟩) hlt).trans h4⟩
theorem allArr_any (n c F : Nat) (A : Option Addr) (nm : Nat -> ByteArray) (sp ty ln : Nat -> Int) (t : Nat -> Bool) (w : World) (hn : n <= 65536) (hr : RAr w w.heap.size A n nm sp ty ln) (hE : ∀ args w, (callFunc F args).run Tryz.prog w = .ok (.enter F args) w)
 (hF : ∀ j W, j < n -> Calls Tryz.prog F #[.agg #[.string (nm j), (sp j), (ty j), (ln j)]] W fun e w' => e = .returned (.bool (t j)) /\ Below W.heap.size W w') :
 Calls Tryz.prog 93 #[.slice A n c, .func (.func F) #[] #[]] w fun e w' => e = .returned (.bool ((List.range n).all t)) /\ Below w.heap.size w w' := by
 have HR := lh hr
 have HF := lh hF
 have HT := lh (fun (h : ∀ j, j < n -> t j = true) => show (List.range n).all t = true from List.all_eq_true.2 (fun j hj => h j (by simpa using hj)))
 have HN := lh (fun (k : Nat) (hk : k < n) (h : t k = false) => show (List.range n).all t = false from by rw [Bool.eq_false_iff, ne_eq, List.all_eq_true]; exact fun hh => by have := hh k (by simpa using hk); rw [h] at this; cases this)
 obtain ⟨res, hres⟩ : ∃ res, (List.range n).all t = res := ⟨_, rfl⟩
 rw [hres] at HT HN ⊢
 clear hr hF hres
 go_enter Tryz.func93, Tryz.ntmps93
 go_wp2
 go_loopw [9] (fun i wr => ∃ k : Nat, k <= n /\ i = .int .i64 k /\ Hid (∀ j, j < k -> t j = true) /\ Below w.heap.size w wr) (fun i _ => n - (intOf i).toNat)
 case atStart => exact ⟨0, Nat.zero_le _, rfl, lh (fun j hj => absurd hj (by omega)), Below.refl _ _⟩
 case round =>
  obtain ⟨k, hk, rfl, hall, hbel⟩ := hrel
  by_cases hlt : k < n
  . obtain ⟨b, off, rfl, hb, hc⟩ := (HR.out.below hbel) (by omega)
    obtain ⟨k1, k2, k3, k4⟩ := hc k hlt
    have hsz := hbel.size
    have HB := lh hbel
    have HFK := HF.out k
    clear hbel hc
    cases ht : t k
    . rw [ht] at HFK
      have HK := lh (fun W => HFK W hlt)
      have HX := lh (HN.out k hlt ht)
      clear HFK ht hall
      go_wp2_with (refine (HK.out _).mono ?_; rintro e w1 ⟨rfl, hb1⟩; have HB1 := lh hb1; clear hb1)
      go_ret
      exact ⟨ret_b HX.out.symm, HB.out.trans (((Below.refl wr.heap.size wr).alloc (Nat.le_refl _) _).trans (HB1.out.mono (by simp))|>.mono hsz)⟩
    . rw [ht] at HFK
      have HK := lh (fun W => HFK W hlt)
      have HA : Hid (∀ j, j < k + 1 -> t j = true) := lh (fun j hj => by
       by_cases e : j = k
       . subst e; exact ht
       . exact hall.out j (by omega))
      clear HFK ht hall
      go_wp2_with (refine (HK.out _).mono ?_; rintro e w1 ⟨rfl, hb1⟩; have HB1 := lh hb1; clear hb1)
      go_roundw
      case rel => exact ⟨k + 1, by omega, by go_num, HA, HB.out.trans (((Below.refl wr.heap.size wr).alloc (Nat.le_refl _) _).trans (HB1.out.mono (by simp))|>.mono hsz)⟩
      case measure => simp [intOf]; omega
  . obtain rfl : k = n := by omega
    have HX := lh (HT.out hall.out)
    go_wp2
    go_ret
    exact ⟨ret_b HX.out.symm, hbel⟩
end Go.Proofs.YtkncilgmlkeifaaGreatDoor
