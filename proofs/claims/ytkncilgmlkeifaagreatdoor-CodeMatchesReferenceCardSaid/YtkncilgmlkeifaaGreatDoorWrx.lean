import Derived.Test.YtkncilgmlkeifaaGreatDoorRnh
import Derived.Test.YtkncilgmlkeifaaGreatDoorWru
/-
  The reference's registers, Uses and UsesT: their contracts.
-/
set_option linter.unusedVariables false
set_option linter.unusedSimpArgs false
set_option maxRecDepth 100000
set_option maxHeartbeats 3000000
namespace Go.Proofs.YtkncilgmlkeifaaGreatDoor
open Go.ChangeShapes Go.WideShapes Go.ChangeAt Go.RowKit Go.Shelf
def regsK (o : Nat -> OpdV) : Nat -> List Int
 | 0 => []
 | k + 1 => if (o k).k = 2 then addI (regsK o k) (o k).n else regsK o k
theorem regsK_fold (o : Nat -> OpdV) : ∀ k, regsK o k = (regsL o k).foldl addL []
 | 0 => rfl
 | k + 1 => by
  by_cases h : (o k).k = 2
  . rw [regsL_yes o k h, List.foldl_append, <- regsK_fold o k, regsK, if_pos h]
    rfl
  . rw [regsL_no o k h, <- regsK_fold o k, regsK, if_neg h]
theorem regsK_uses (o : Nat -> OpdV) (k : Nat) : regsK o k = usesV o k := by
 unfold usesV
 rw [compact_add, regsK_fold]
 rfl
theorem regsK_len (o : Nat -> OpdV) : ∀ k, (regsK o k).length <= k
 | 0 => Nat.le_refl _
 | k + 1 => by
  have h1 := regsK_len o k
  unfold regsK
  split
  . have := addI_len (regsK o k) (o k).n
    omega
  . omega
theorem registers_r (n c : Nat) (A : Option Addr) (o : Nat -> OpdV) (w : World) (hn : n <= 50) (hr : RO w w.heap.size A n o) :
 Calls Tryz.prog 60 #[.slice A n c] w fun e w' => (∃ g cap, e = .returned (.slice (some ⟨g, 0, none⟩) (regsK o n).length cap) /\ w'.ownsRow w.heap.size 3 1 (.slice (some ⟨g, 0, none⟩) (regsK o n).length cap) (regsK o n).length (ivs (regsK o n))) /\ Below w.heap.size w w' := by
 have HH := lh hr
 have HAD := lh (added_any w.heap.size)
 have HL := lh (regsK_len o)
 clear hr
 go_enter Tryz.func60, Tryz.ntmps60
 go_wp2
 go_loopw [3, 4] (fun v i wr => ∃ k g cap : Nat, k <= n /\ i = .int .i64 k /\ v = .slice (some ⟨g, 0, none⟩) (regsK o k).length cap /\ Hid (wr.ownsRow w.heap.size 3 1 (.slice (some ⟨g, 0, none⟩) (regsK o k).length cap) (regsK o k).length (ivs (regsK o k))) /\ Hid (Below w.heap.size w wr)) (fun _ i _ => n - (intOf i).toNat)
 case atStart => exact ⟨0, w.heap.size, 0, Nat.zero_le _, rfl, rfl, lh (lit_ownW 3 1 (Below.refl _ w)), lh ((Below.refl _ _).alloc (Nat.le_refl _) _)⟩
 case round =>
  obtain ⟨k, g, cap, hk, rfl, rfl, HR, HB⟩ := hrel
  by_cases hlt : k < n
  . obtain ⟨b, off, hA, hb, hc⟩ := (HH.out.below HB.out) (by omega)
    obtain ⟨m0, m1, m2⟩ := hc k hlt
    have hki : (k : Int) < (n : Int) := by omega
    have hk0 : 0 <= (k : Int) := by omega
    have hl := HL.out k
    have HSK := lh (show regsK o (k + 1) = if (o k).k = 2 then addI (regsK o k) (o k).n else regsK o k from rfl)
    obtain ⟨ys, hys⟩ : ∃ ys, regsK o k = ys := ⟨_, rfl⟩
    rw [hys] at HR hl HSK ⊢
    subst hA
    clear hc hys
    by_cases h2 : (o k).k = 2
    . have HS2 : Hid (regsK o (k + 1) = addI ys (o k).n) := lh (by rw [HSK.out, if_pos h2])
      rw [h2] at m0
      clear h2
      go_wp2_with (first
       | (go_at_call 75; (with_reducible refine (HAD.out g cap ys _ _ HB.out.size HR.out (by omega)).mono ?_); rintro e w3 ⟨⟨v3, rfl, hr3⟩, hb3⟩; have HR3 := lh hr3; have HB3 := lh (HB.out.trans (hb3.mono HB.out.size)); clear hr3 hb3))
      obtain ⟨g3, cap3, rfl, ho3⟩ := HR3.out
      have HO3 := lh ho3
      clear ho3
      go_wp2
      go_roundw
      case rel => exact ⟨k + 1, g3, cap3, by omega, by go_num, by rw [HS2.out], lh (by rw [HS2.out]; exact HO3.out), HB3⟩
      case measure => simp [intOf]; omega
    . have HS2 : Hid (regsK o (k + 1) = ys) := lh (by rw [HSK.out, if_neg h2])
      have hz : ((o k).k == 2) = false := by simpa using h2
      clear h2
      go_wp2
      go_roundw
      case rel => exact ⟨k + 1, g, cap, by omega, by go_num, by rw [HS2.out], lh (by rw [HS2.out]; exact HR.out), HB⟩
      case measure => simp [intOf]; omega
  . obtain rfl : k = n := by omega
    have hk0 : ¬ ((k : Int) < (k : Int)) := by omega
    go_wp2
    go_ret
    exact ⟨⟨g, cap, rfl, HR.out⟩, HB.out⟩
theorem two_new (w : World) (o o' : Obj) (w1 : World) (h : Below ((w.alloc o).alloc o').heap.size ((w.alloc o).alloc o') w1) : Below w.heap.size w w1 :=
 (((Below.refl _ _).alloc (Nat.le_refl _) o).alloc (by simp) o').trans (h.mono (by simp; omega))
theorem ri_own {w w' : World} {base g cap : Nat} {xs : List Int} (h : w'.ownsRow base 3 1 (.slice (some ⟨g, 0, none⟩) xs.length cap) xs.length (ivs xs)) : RI w' w'.heap.size (some ⟨g, 0, none⟩) xs.length (fun j => xs.getD j 0) := fun _ => by
 obtain ⟨h1, h2⟩ := h.lt g rfl
 refine ⟨g, 0, rfl, h2, fun j hj => ?_⟩
 rw [Nat.zero_add, h.cellAt j (by omega)]
 unfold ivs
 rw [List.getElem?_map, List.getElem?_eq_getElem hj]
 show some (Value.int .i64 xs[j]) = some (Value.int .i64 (xs.getD j 0))
 rw [List.getD_eq_getElem?_getD, List.getElem?_eq_getElem hj]
 rfl
theorem Uses_r (i : InstV) (w : World) : Calls Tryz.prog 29 #[i.val] w fun e w' => (∃ A' c', e = .returned (.slice A' (usesI i).length c') /\ RI w' w'.heap.size A' (usesI i).length (fun j => (usesI i).getD j 0)) /\ Below w.heap.size w w' := by
 have HU := lh (show regsK (lstO [i.a, i.b, i.c]) 3 = usesI i from regsK_uses _ _)
 obtain ⟨op, s, n, ⟨dk, dn, dv⟩, ⟨ak, an, av⟩, ⟨bk, bn, bv⟩, ⟨ck, cn, cv⟩⟩ := i
 rw [<- HU.out]
 simp only [InstV.val]
 have HB := lh (two_new w)
 have HR := lh (fun (o : Obj) => registers_r 3 3 (some ⟨w.heap.size + 1, 0, none⟩) (lstO [⟨ak, an, av⟩, ⟨bk, bn, bv⟩, ⟨ck, cn, cv⟩]) ((w.alloc o).alloc (.cells #[.int .i64 ak, .int .i64 an, .int .i32 av, .int .i64 bk, .int .i64 bn, .int .i32 bv, .int .i64 ck, .int .i64 cn, .int .i32 cv] 27)) (by decide) (ro3 (w.alloc o) ⟨ak, an, av⟩ ⟨bk, bn, bv⟩ ⟨ck, cn, cv⟩ 27 _ _ (by simp) (by simp)))
 go_enter Tryz.func29, Tryz.ntmps29
 go_wp2_with (first | (go_at_call 60; (with_reducible refine (HR.out _).mono ?_); rintro e w1 ⟨⟨g, cap, rfl, ho⟩, hb⟩; have HO := lh ho; have HB1 := lh (HB.out _ _ _ hb); clear ho hb))
 go_ret
 exact ⟨⟨_, _, rfl, ri_own (w := w) HO.out⟩, HB1.out⟩
theorem UsesT_r (t : TermV) (w : World) : Calls Tryz.prog 25 #[t.val] w fun e w' => (∃ A' c', e = .returned (.slice A' (usesT t).length c') /\ RI w' w'.heap.size A' (usesT t).length (fun j => (usesT t).getD j 0)) /\ Below w.heap.size w w' := by
 have HU := lh (show regsK (lstO [t.a, t.b]) 2 = usesT t from regsK_uses _ _)
 obtain ⟨k, s, ⟨dk, dn, dv⟩, ⟨ak, an, av⟩, ⟨bk, bn, bv⟩, x, y⟩ := t
 rw [<- HU.out]
 simp only [TermV.val]
 have HB := lh (two_new w)
 have HR := lh (fun (o : Obj) => registers_r 2 2 (some ⟨w.heap.size + 1, 0, none⟩) (lstO [⟨ak, an, av⟩, ⟨bk, bn, bv⟩]) ((w.alloc o).alloc (.cells #[.int .i64 ak, .int .i64 an, .int .i32 av, .int .i64 bk, .int .i64 bn, .int .i32 bv] 27)) (by decide) (ro2 (w.alloc o) ⟨ak, an, av⟩ ⟨bk, bn, bv⟩ 27 _ _ (by simp) (by simp)))
 go_enter Tryz.func25, Tryz.ntmps25
 go_wp2_with (first | (go_at_call 60; (with_reducible refine (HR.out _).mono ?_); rintro e w1 ⟨⟨g, cap, rfl, ho⟩, hb⟩; have HO := lh ho; have HB1 := lh (HB.out _ _ _ hb); clear ho hb))
 go_ret
 exact ⟨⟨_, _, rfl, ri_own (w := w) HO.out⟩, HB1.out⟩
end Go.Proofs.YtkncilgmlkeifaaGreatDoor
