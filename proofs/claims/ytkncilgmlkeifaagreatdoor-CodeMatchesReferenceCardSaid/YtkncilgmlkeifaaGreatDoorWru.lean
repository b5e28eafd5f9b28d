import Derived.Test.YtkncilgmlkeifaaGreatDoorRrq
import Derived.Test.YtkncilgmlkeifaaGreatDoorChk
/-
  The reference's Succ, Def and DefT: their contracts.
-/
set_option linter.unusedVariables false
set_option linter.unusedSimpArgs false
set_option maxRecDepth 100000
set_option maxHeartbeats 2000000
namespace Go.Proofs.YtkncilgmlkeifaaGreatDoor
open Go.ChangeShapes Go.WideShapes Go.ChangeAt Go.RowKit Go.Shelf
theorem OneK.newB {w wx : World} {T : TypeId} {K : Array Value} (h : OneK w T K wx) (o : Obj) : Below w.heap.size w (wx.alloc o) := h.below.trans ((Below.refl _ _).alloc (by have := h.size; omega) _)
theorem Succ_r (t : TermV) (w : World) : Calls Tryz.prog 23 #[t.val] w fun e w' => e = .returned (.slice (some ⟨w.heap.size + 1, 0, none⟩) (succR t).length (succR t).length) /\ (∀ j, j < (succR t).length -> w'.cell? ⟨w.heap.size + 1, j, none⟩ = some (.int .i64 ((succR t).getD j 0))) /\ w.heap.size + 1 < w'.heap.size /\ Below w.heap.size w w' := by
 obtain ⟨k, s, ⟨dk, dn, dv⟩, ⟨ak, an, av⟩, ⟨bk, bn, bv⟩, x, y⟩ := t
 have HK := lh (OneK.start (w := w) (T := 53) (K := #[k, s, dk, dn, .int .i32 dv, ak, an, .int .i32 av, bk, bn, .int .i32 bv, x, y]))
 simp only [TermV.val]
 unfold succR
 simp only
 by_cases h5 : k = 5
 . subst h5
   rw [if_pos rfl]
   go_enter Tryz.func23, Tryz.ntmps23
   go_wp2
   go_ret
   exact ⟨rfl, fun j h => absurd h (by simp), by simp, HK.out.newB _⟩
 . have e5 : (k == 5) = false := by simpa using h5
   rw [if_neg h5]
   by_cases h2 : k = 2 /\ x ≠ y
   . obtain ⟨rfl, hxy⟩ := h2
     have exy : (x != y) = true := by simpa using hxy
     rw [if_pos ⟨rfl, hxy⟩]
     clear hxy h5
     go_enter Tryz.func23, Tryz.ntmps23
     go_wp2
     go_ret
     refine ⟨rfl, fun j hj => ?_, by simp, HK.out.newB _⟩
     have hj2 : j = 0 \/ j = 1 := by have : j < 2 := hj; omega
     rcases hj2 with rfl | rfl <;> simp
   . rw [if_neg h2]
     by_cases hk : k = 2
     . subst hk
       have exy : (x != y) = false := by
        have : x = y := by
         by_cases e : x = y
         . exact e
         . exact absurd ⟨rfl, e⟩ h2
        simpa using this
       clear h2 h5
       go_enter Tryz.func23, Tryz.ntmps23
       go_wp2
       go_ret
       refine ⟨rfl, fun j hj => ?_, by simp, HK.out.newB _⟩
       obtain rfl : j = 0 := by have : j < 1 := hj; omega
       simp
     . have e2 : (k == 2) = false := by simpa using hk
       clear h2 h5 hk
       go_enter Tryz.func23, Tryz.ntmps23
       go_wp2
       go_ret
       refine ⟨rfl, fun j hj => ?_, by simp, HK.out.newB _⟩
       obtain rfl : j = 0 := by have : j < 1 := hj; omega
       simp
theorem Def_r (i : InstV) (w : World) : Calls Tryz.prog 31 #[i.val] w fun e w' => e = .returned (.int .i64 (regV i.d)) /\ Below w.heap.size w w' := by
 obtain ⟨op, s, n, ⟨dk, dn, dv⟩, ⟨ak, an, av⟩, ⟨bk, bn, bv⟩, ⟨ck, cn, cv⟩⟩ := i
 have HB := lh (show ∀ o, Below w.heap.size w (w.alloc o) from fun o => (Below.refl _ _).alloc (Nat.le_refl _) o)
 simp only [InstV.val]
 unfold regV
 simp only
 by_cases h : dk = 2
 . subst h
   rw [if_pos rfl]
   go_enter Tryz.func31, Tryz.ntmps31
   go_wp2
   go_ret
   exact ⟨rfl, HB.out _⟩
 . have e : (dk == 2) = false := by simpa using h
   rw [if_neg h]
   clear h
   go_enter Tryz.func31, Tryz.ntmps31
   go_wp2
   go_ret
   exact ⟨rfl, HB.out _⟩
theorem DefT_r (t : TermV) (w : World) : Calls Tryz.prog 27 #[t.val] w fun e w' => e = .returned (.int .i64 (regV t.d)) /\ Below w.heap.size w w' := by
 obtain ⟨k, s, ⟨dk, dn, dv⟩, ⟨ak, an, av⟩, ⟨bk, bn, bv⟩, x, y⟩ := t
 have HB := lh (show ∀ o, Below w.heap.size w (w.alloc o) from fun o => (Below.refl _ _).alloc (Nat.le_refl _) o)
 simp only [TermV.val]
 unfold regV
 simp only
 by_cases h : dk = 2
 . subst h
   rw [if_pos rfl]
   go_enter Tryz.func27, Tryz.ntmps27
   go_wp2
   go_ret
   exact ⟨rfl, HB.out _⟩
 . have e : (dk == 2) = false := by simpa using h
   rw [if_neg h]
   clear h
   go_enter Tryz.func27, Tryz.ntmps27
   go_wp2
   go_ret
   exact ⟨rfl, HB.out _⟩
end Go.Proofs.YtkncilgmlkeifaaGreatDoor
