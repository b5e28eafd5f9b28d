import Derived.Test.YtkncilgmlkeifaaGreatDoorNeq
import Derived.Test.YtkncilgmlkeifaaGreatDoorAll
import Derived.Test.YtkncilgmlkeifaaGreatDoorForm
import Derived.Deep.RegionWith
/-
  The reference: the contract of SameHead.
-/
set_option linter.unusedVariables false
set_option linter.unusedSimpArgs false
set_option maxRecDepth 100000
set_option maxHeartbeats 4000000
namespace Go.Proofs.YtkncilgmlkeifaaGreatDoor
open Go.ChangeShapes Go.WideShapes Go.ChangeAt Go.RowKit Go.Shelf
def eqA (x y : ByteArray) (a b c a' b' c' : Int) : Bool := (x.toList == y.toList && (a == a' && (b == b' && c == c')))
def eqL (a b c a' b' c' : Int) : Bool := (a == a' && (b == b' && c == c'))
theorem eqA_run (x y : ByteArray) (a b c a' b' c' : Int) (w : World) : (binOp .neq 91 (.agg #[.string x, a, b, c]) (.agg #[.string y, a', b', c'])).run Tryz.prog w = .ok (.bool (!eqA x y a b c a' b' c')) w := arr_neq _ _ _ _ _ _ _ _ w
theorem eqL_run (a b c a' b' c' : Int) (w : World) : (binOp .neq 85 (.agg #[a, b, c]) (.agg #[a', b', c'])).run Tryz.prog w = .ok (.bool (!eqL a b c a' b' c')) w := loop_neq _ _ _ _ _ _ w
def sameHd (g1 s1 r1 l1 p1 g2 s2 r2 l2 p2 : Int) (n1 m1 n2 m2 : Nat) (nm1 nm2 : Nat -> ByteArray) (sp1 ty1 ln1 sp2 ty2 ln2 hd1 rg1 bd1 hd2 rg2 bd2 : Nat -> Int) : Bool :=
 decide (g1 = g2) && (decide (s1 = s2) && (decide (r1 = r2) && (decide (l1 = l2) && (decide (p1 = p2) && (decide (n1 = n2) && (decide (m1 = m2) && (((List.range n1).all fun j => eqA (nm1 j) (nm2 j) (sp1 j) (ty1 j) (ln1 j) (sp2 j) (ty2 j) (ln2 j)) && (List.range m1).all fun j => eqL (hd1 j) (rg1 j) (bd1 j) (hd2 j) (rg2 j) (bd2 j))))))))
section
variable (n1 m1 n2 m2 c1 d1 k1 e1 c2 d2 k2 e2 : Nat) (A1 L1 B1 A2 L2 B2 : Option Addr) (nm1 nm2 : Nat -> ByteArray) (sp1 ty1 ln1 sp2 ty2 ln2 hd1 rg1 bd1 hd2 rg2 bd2 : Nat -> Int)
theorem SameHead_eq (g1 s1 r1 l1 p1 : Int) (w : World) (hn : n1 <= 65536) (hm : m1 <= 65536) (ha1 : RAr w w.heap.size A1 n1 nm1 sp1 ty1 ln1) (ha2 : RAr w w.heap.size A2 n1 nm2 sp2 ty2 ln2) (hl1 : RLo w w.heap.size L1 m1 hd1 rg1 bd1) (hl2 : RLo w w.heap.size L2 m1 hd2 rg2 bd2) :
 Calls Tryz.prog 63 #[.agg #[g1, s1, r1, l1, p1, .slice A1 n1 c1, .slice L1 m1 d1, .slice B1 k1 e1], .agg #[g1, s1, r1, l1, p1, .slice A2 n1 c2, .slice L2 m1 d2, .slice B2 k2 e2]] w fun e w' => e = .returned (.bool (((List.range n1).all fun j => eqA (nm1 j) (nm2 j) (sp1 j) (ty1 j) (ln1 j) (sp2 j) (ty2 j) (ln2 j)) && (List.range m1).all fun j => eqL (hd1 j) (rg1 j) (bd1 j) (hd2 j) (rg2 j) (bd2 j))) /\ Below w.heap.size w w' := by
 obtain ⟨a, haa⟩ : ∃ a : Nat -> Bool, (fun j => eqA (nm1 j) (nm2 j) (sp1 j) (ty1 j) (ln1 j) (sp2 j) (ty2 j) (ln2 j)) = a := ⟨_, rfl⟩
 obtain ⟨b, hbb⟩ : ∃ b : Nat -> Bool, (fun j => eqL (hd1 j) (rg1 j) (bd1 j) (hd2 j) (rg2 j) (bd2 j)) = b := ⟨_, rfl⟩
 have HEA := lh (fun (j : Nat) (W : World) => (show (binOp .neq 91 (.agg #[.string (nm1 j), (sp1 j), (ty1 j), (ln1 j)]) (.agg #[.string (nm2 j), (sp2 j), (ty2 j), (ln2 j)])).run Tryz.prog W = .ok (.bool (!a j)) W from by rw [<- haa]; exact eqA_run _ _ _ _ _ _ _ _ W))
 have HEL := lh (fun (j : Nat) (W : World) => (show (binOp .neq 85 (.agg #[(hd1 j), (rg1 j), (bd1 j)]) (.agg #[(hd2 j), (rg2 j), (bd2 j)])).run Tryz.prog W = .ok (.bool (!b j)) W from by rw [<- hbb]; exact eqL_run _ _ _ _ _ _ W))
 rw [haa, hbb]
 have HNA := lh (fun (k : Nat) (hk : k < n1) (e : a k = false) => show ((List.range n1).all a && (List.range m1).all b) = false from by
  have : (List.range n1).all a = false := by rw [Bool.eq_false_iff, ne_eq, List.all_eq_true]; exact fun hh => by have := hh k (by simpa using hk); rw [e] at this; cases this
  rw [this]; rfl)
 have HNB := lh (fun (k : Nat) (hk : k < m1) (e : b k = false) => show ((List.range n1).all a && (List.range m1).all b) = false from by
  have : (List.range m1).all b = false := by rw [Bool.eq_false_iff, ne_eq, List.all_eq_true]; exact fun hh => by have := hh k (by simpa using hk); rw [e] at this; cases this
  rw [this, Bool.and_false])
 have HT := lh (fun (h1 : ∀ j, j < n1 -> a j = true) (h2 : ∀ j, j < m1 -> b j = true) => show ((List.range n1).all a && (List.range m1).all b) = true from by
  rw [List.all_eq_true.2 (fun j hj => h1 j (by simpa using hj)), List.all_eq_true.2 (fun j hj => h2 j (by simpa using hj))]; rfl)
 obtain ⟨res, hres⟩ : ∃ res, ((List.range n1).all a && (List.range m1).all b) = res := ⟨_, rfl⟩
 rw [hres] at HNA HNB HT ⊢
 have HA1 := lh ha1; have HA2 := lh ha2; have HL1 := lh hl1; have HL2 := lh hl2
 clear ha1 ha2 hl1 hl2 hres haa hbb
 go_enter Tryz.func63, Tryz.ntmps63
 go_wp2
 have hbel : Below w.heap.size w ((w.alloc (.cells #[g1, s1, r1, l1, p1, .slice A1 n1 c1, .slice L1 m1 d1, .slice B1 k1 e1] 36)).alloc (.cells #[g1, s1, r1, l1, p1, .slice A2 n1 c2, .slice L2 m1 d2, .slice B2 k2 e2] 36)) := ((Below.refl _ _).alloc (Nat.le_refl _) _).alloc (by simp) _
 have hkk0 : ((w.alloc (.cells #[g1, s1, r1, l1, p1, .slice A1 n1 c1, .slice L1 m1 d1, .slice B1 k1 e1] 36)).alloc (.cells #[g1, s1, r1, l1, p1, .slice A2 n1 c2, .slice L2 m1 d2, .slice B2 k2 e2] 36)).heap[w.heap.size]? = some (.cells #[g1, s1, r1, l1, p1, .slice A1 n1 c1, .slice L1 m1 d1, .slice B1 k1 e1] 36) := (Below.heap_alloc _ _ _ (by simp)).trans (heap_alloc_new w _)
 have hkk1 : ((w.alloc (.cells #[g1, s1, r1, l1, p1, .slice A1 n1 c1, .slice L1 m1 d1, .slice B1 k1 e1] 36)).alloc (.cells #[g1, s1, r1, l1, p1, .slice A2 n1 c2, .slice L2 m1 d2, .slice B2 k2 e2] 36)).heap[w.heap.size + 1]? = some (.cells #[g1, s1, r1, l1, p1, .slice A2 n1 c2, .slice L2 m1 d2, .slice B2 k2 e2] 36) := by
  have hk := heap_alloc_new (w.alloc (.cells #[g1, s1, r1, l1, p1, .slice A1 n1 c1, .slice L1 m1 d1, .slice B1 k1 e1] 36)) (.cells #[g1, s1, r1, l1, p1, .slice A2 n1 c2, .slice L2 m1 d2, .slice B2 k2 e2] 36)
  rw [World.size_alloc] at hk
  exact hk
 have q05 : ((w.alloc (.cells #[g1, s1, r1, l1, p1, .slice A1 n1 c1, .slice L1 m1 d1, .slice B1 k1 e1] 36)).alloc (.cells #[g1, s1, r1, l1, p1, .slice A2 n1 c2, .slice L2 m1 d2, .slice B2 k2 e2] 36)).cell? ⟨w.heap.size, 5, none⟩ = some (.slice A1 n1 c1) := by simp only [World.cell?, hkk0]; rfl
 have q06 : ((w.alloc (.cells #[g1, s1, r1, l1, p1, .slice A1 n1 c1, .slice L1 m1 d1, .slice B1 k1 e1] 36)).alloc (.cells #[g1, s1, r1, l1, p1, .slice A2 n1 c2, .slice L2 m1 d2, .slice B2 k2 e2] 36)).cell? ⟨w.heap.size, 6, none⟩ = some (.slice L1 m1 d1) := by simp only [World.cell?, hkk0]; rfl
 have q15 : ((w.alloc (.cells #[g1, s1, r1, l1, p1, .slice A1 n1 c1, .slice L1 m1 d1, .slice B1 k1 e1] 36)).alloc (.cells #[g1, s1, r1, l1, p1, .slice A2 n1 c2, .slice L2 m1 d2, .slice B2 k2 e2] 36)).cell? ⟨w.heap.size + 1, 5, none⟩ = some (.slice A2 n1 c2) := by simp only [World.cell?, hkk1]; rfl
 have q16 : ((w.alloc (.cells #[g1, s1, r1, l1, p1, .slice A1 n1 c1, .slice L1 m1 d1, .slice B1 k1 e1] 36)).alloc (.cells #[g1, s1, r1, l1, p1, .slice A2 n1 c2, .slice L2 m1 d2, .slice B2 k2 e2] 36)).cell? ⟨w.heap.size + 1, 6, none⟩ = some (.slice L2 m1 d2) := by simp only [World.cell?, hkk1]; rfl
 clear hkk0 hkk1
 generalize ((w.alloc (.cells #[g1, s1, r1, l1, p1, .slice A1 n1 c1, .slice L1 m1 d1, .slice B1 k1 e1] 36)).alloc (.cells #[g1, s1, r1, l1, p1, .slice A2 n1 c2, .slice L2 m1 d2, .slice B2 k2 e2] 36)) = W2 at *
 have HBL := lh hbel
 clear hbel
 go_loopw [5] (fun i wr => ∃ k : Nat, k <= n1 /\ i = .int .i64 k /\ Hid (∀ j, j < k -> a j = true) /\ Hid (Below w.heap.size w wr) /\ wr.cell? ⟨w.heap.size, 5, none⟩ = some (.slice A1 n1 c1) /\ wr.cell? ⟨w.heap.size, 6, none⟩ = some (.slice L1 m1 d1) /\ wr.cell? ⟨w.heap.size + 1, 5, none⟩ = some (.slice A2 n1 c2) /\ wr.cell? ⟨w.heap.size + 1, 6, none⟩ = some (.slice L2 m1 d2)) (fun i _ => n1 - (intOf i).toNat)
 case atStart => exact ⟨0, Nat.zero_le _, rfl, lh (fun j hj => absurd hj (by omega)), HBL, q05, q06, q15, q16⟩
 case round =>
  clear q05 q06 q15 q16 HBL
  obtain ⟨k, hk, rfl, hall, HBe, q05, q06, q15, q16⟩ := hrel
  by_cases hlt : k < n1
  . obtain ⟨b1, o1, rfl, _, hc1⟩ := (HA1.out.below HBe.out) (by omega)
    obtain ⟨b2, o2, rfl, _, hc2⟩ := (HA2.out.below HBe.out) (by omega)
    obtain ⟨x0, x1, x2, x3⟩ := hc1 k hlt
    obtain ⟨y0, y1, y2, y3⟩ := hc2 k hlt
    clear hc1 hc2
    have hI := fun (W : World) => HEA.out k W
    cases ht : a k
    . have HX : Hid (res = false) := lh (HNA.out k hlt ht)
      rw [ht] at hI
      clear ht
      go_wp2
      go_quiet (fail)
      go_wp2
      go_ret
      exact ⟨by rw [HX.out]; rfl, below_drewN HBe.out _⟩
    . have HAll : Hid (∀ j, j < k + 1 -> a j = true) := lh (fun j hj => by
       by_cases e : j = k
       . subst e; exact ht
       . exact hall.out j (by omega))
      rw [ht] at hI
      clear ht hall
      go_wp2
      go_quiet (fail)
      go_wp2
      go_roundw
      case rel => exact ⟨k + 1, by omega, by go_num, HAll, lh (below_drewN HBe.out _), q05, q06, q15, q16⟩
      case measure => simp [intOf]; omega
  . obtain rfl : k = n1 := by omega
    have HAA := lh hall.out
    clear hall
    obtain ⟨wo, rfl⟩ : ∃ wo : World, wo = wr := ⟨_, rfl⟩
    go_wp2
    go_loopw [6] (fun i wx => ∃ z : Nat, z <= m1 /\ i = .int .i64 z /\ Hid (∀ j, j < z -> b j = true) /\ Hid (Below w.heap.size w wx) /\ wx.cell? ⟨w.heap.size, 6, none⟩ = some (.slice L1 m1 d1) /\ wx.cell? ⟨w.heap.size + 1, 6, none⟩ = some (.slice L2 m1 d2)) (fun i _ => m1 - (intOf i).toNat)
    case atStart => exact ⟨0, Nat.zero_le _, rfl, lh (fun j hj => absurd hj (by omega)), HBe, q06, q16⟩
    case round =>
     clear q05 q06 q15 q16 HBe
     obtain ⟨z, hz, rfl, hall, HBe, q06, q16⟩ := hrel
     by_cases hlt : z < m1
     . obtain ⟨b1, o1, rfl, _, hc1⟩ := (HL1.out.below HBe.out) (by omega)
       obtain ⟨b2, o2, rfl, _, hc2⟩ := (HL2.out.below HBe.out) (by omega)
       obtain ⟨x0, x1, x2⟩ := hc1 z hlt
       obtain ⟨y0, y1, y2⟩ := hc2 z hlt
       clear hc1 hc2
       have hI := fun (W : World) => HEL.out z W
       cases ht : b z
       . have HX : Hid (res = false) := lh (HNB.out z hlt ht)
         rw [ht] at hI
         clear ht
         go_wp2
         go_quiet (fail)
         go_wp2
         go_ret
         exact ⟨by rw [HX.out]; rfl, below_drewN HBe.out _⟩
       . have HAll : Hid (∀ j, j < z + 1 -> b j = true) := lh (fun j hj => by
          by_cases e : j = z
          . subst e; exact ht
          . exact hall.out j (by omega))
         rw [ht] at hI
         clear ht hall
         go_wp2
         go_quiet (fail)
         go_wp2
         go_roundw
         case rel => exact ⟨z + 1, by omega, by go_num, HAll, lh (below_drewN HBe.out _), q06, q16⟩
         case measure => simp [intOf]; omega
     . obtain rfl : z = m1 := by omega
       have HX : Hid (res = true) := lh (HT.out HAA.out hall.out)
       go_wp2
       go_ret
       exact ⟨by rw [HX.out]; rfl, HBe.out⟩
end
section
variable (n1 m1 n2 m2 c1 d1 k1 e1 c2 d2 k2 e2 : Nat) (A1 L1 B1 A2 L2 B2 : Option Addr) (nm1 nm2 : Nat -> ByteArray) (sp1 ty1 ln1 sp2 ty2 ln2 hd1 rg1 bd1 hd2 rg2 bd2 : Nat -> Int)
theorem SameHead_any (g1 s1 r1 l1 p1 g2 s2 r2 l2 p2 : Int) (w : World) (hn : n1 <= 65536) (hm : m1 <= 65536) (ha1 : RAr w w.heap.size A1 n1 nm1 sp1 ty1 ln1) (ha2 : RAr w w.heap.size A2 n2 nm2 sp2 ty2 ln2) (hl1 : RLo w w.heap.size L1 m1 hd1 rg1 bd1) (hl2 : RLo w w.heap.size L2 m2 hd2 rg2 bd2) :
 Calls Tryz.prog 63 #[.agg #[g1, s1, r1, l1, p1, .slice A1 n1 c1, .slice L1 m1 d1, .slice B1 k1 e1], .agg #[g2, s2, r2, l2, p2, .slice A2 n2 c2, .slice L2 m2 d2, .slice B2 k2 e2]] w fun e w' => e = .returned (.bool (sameHd g1 s1 r1 l1 p1 g2 s2 r2 l2 p2 n1 m1 n2 m2 nm1 nm2 sp1 ty1 ln1 sp2 ty2 ln2 hd1 rg1 bd1 hd2 rg2 bd2)) /\ Below w.heap.size w w' := by
 by_cases h : g1 = g2
 rotate_left
 . have hs : sameHd g1 s1 r1 l1 p1 g2 s2 r2 l2 p2 n1 m1 n2 m2 nm1 nm2 sp1 ty1 ln1 sp2 ty2 ln2 hd1 rg1 bd1 hd2 rg2 bd2 = false := by
    simp [sameHd, h]
   rw [hs]
   have hne : ¬ ((g1 : Int) = (g2 : Int)) := by exact h
   clear hs ha1 ha2 hl1 hl2 h
   go_enter Tryz.func63, Tryz.ntmps63
   go_wp2
   go_ret
   exact ⟨rfl, ((Below.refl _ _).alloc (Nat.le_refl _) _).alloc (by simp) _⟩
 subst h
 by_cases h : s1 = s2
 rotate_left
 . have hs : sameHd g1 s1 r1 l1 p1 g1 s2 r2 l2 p2 n1 m1 n2 m2 nm1 nm2 sp1 ty1 ln1 sp2 ty2 ln2 hd1 rg1 bd1 hd2 rg2 bd2 = false := by
    simp [sameHd, h]
   rw [hs]
   have hne : ¬ ((s1 : Int) = (s2 : Int)) := by exact h
   clear hs ha1 ha2 hl1 hl2 h
   go_enter Tryz.func63, Tryz.ntmps63
   go_wp2
   go_ret
   exact ⟨rfl, ((Below.refl _ _).alloc (Nat.le_refl _) _).alloc (by simp) _⟩
 subst h
 by_cases h : r1 = r2
 rotate_left
 . have hs : sameHd g1 s1 r1 l1 p1 g1 s1 r2 l2 p2 n1 m1 n2 m2 nm1 nm2 sp1 ty1 ln1 sp2 ty2 ln2 hd1 rg1 bd1 hd2 rg2 bd2 = false := by
    simp [sameHd, h]
   rw [hs]
   have hne : ¬ ((r1 : Int) = (r2 : Int)) := by exact h
   clear hs ha1 ha2 hl1 hl2 h
   go_enter Tryz.func63, Tryz.ntmps63
   go_wp2
   go_ret
   exact ⟨rfl, ((Below.refl _ _).alloc (Nat.le_refl _) _).alloc (by simp) _⟩
 subst h
 by_cases h : l1 = l2
 rotate_left
 . have hs : sameHd g1 s1 r1 l1 p1 g1 s1 r1 l2 p2 n1 m1 n2 m2 nm1 nm2 sp1 ty1 ln1 sp2 ty2 ln2 hd1 rg1 bd1 hd2 rg2 bd2 = false := by
    simp [sameHd, h]
   rw [hs]
   have hne : ¬ ((l1 : Int) = (l2 : Int)) := by exact h
   clear hs ha1 ha2 hl1 hl2 h
   go_enter Tryz.func63, Tryz.ntmps63
   go_wp2
   go_ret
   exact ⟨rfl, ((Below.refl _ _).alloc (Nat.le_refl _) _).alloc (by simp) _⟩
 subst h
 by_cases h : p1 = p2
 rotate_left
 . have hs : sameHd g1 s1 r1 l1 p1 g1 s1 r1 l1 p2 n1 m1 n2 m2 nm1 nm2 sp1 ty1 ln1 sp2 ty2 ln2 hd1 rg1 bd1 hd2 rg2 bd2 = false := by
    simp [sameHd, h]
   rw [hs]
   have hne : ¬ ((p1 : Int) = (p2 : Int)) := by exact h
   clear hs ha1 ha2 hl1 hl2 h
   go_enter Tryz.func63, Tryz.ntmps63
   go_wp2
   go_ret
   exact ⟨rfl, ((Below.refl _ _).alloc (Nat.le_refl _) _).alloc (by simp) _⟩
 subst h
 by_cases h : n1 = n2
 rotate_left
 . have hs : sameHd g1 s1 r1 l1 p1 g1 s1 r1 l1 p1 n1 m1 n2 m2 nm1 nm2 sp1 ty1 ln1 sp2 ty2 ln2 hd1 rg1 bd1 hd2 rg2 bd2 = false := by
    simp [sameHd, h]
   rw [hs]
   have hne : ¬ ((n1 : Int) = (n2 : Int)) := by omega
   clear hs ha1 ha2 hl1 hl2 h
   go_enter Tryz.func63, Tryz.ntmps63
   go_wp2
   go_ret
   exact ⟨rfl, ((Below.refl _ _).alloc (Nat.le_refl _) _).alloc (by simp) _⟩
 subst h
 by_cases h : m1 = m2
 rotate_left
 . have hs : sameHd g1 s1 r1 l1 p1 g1 s1 r1 l1 p1 n1 m1 n1 m2 nm1 nm2 sp1 ty1 ln1 sp2 ty2 ln2 hd1 rg1 bd1 hd2 rg2 bd2 = false := by
    simp [sameHd, h]
   rw [hs]
   have hne : ¬ ((m1 : Int) = (m2 : Int)) := by omega
   clear hs ha1 ha2 hl1 hl2 h
   go_enter Tryz.func63, Tryz.ntmps63
   go_wp2
   go_ret
   exact ⟨rfl, ((Below.refl _ _).alloc (Nat.le_refl _) _).alloc (by simp) _⟩
 subst h
 refine (SameHead_eq n1 m1 c1 d1 k1 e1 c2 d2 k2 e2 A1 L1 B1 A2 L2 B2 nm1 nm2 sp1 ty1 ln1 sp2 ty2 ln2 hd1 rg1 bd1 hd2 rg2 bd2 g1 s1 r1 l1 p1 w hn hm ha1 ha2 hl1 hl2).mono ?_
 rintro e w' ⟨rfl, hb⟩
 exact ⟨by simp [sameHd], hb⟩
end
def eqT (t u : TermV) : Bool := (t.kind == u.kind && (t.sub == u.sub && (t.d.k == u.d.k && (t.d.n == u.d.n && (t.d.v == u.d.v && (t.a.k == u.a.k && (t.a.n == u.a.n && (t.a.v == u.a.v && (t.b.k == u.b.k && (t.b.n == u.b.n && (t.b.v == u.b.v && (t.t0 == u.t0 && t.t1 == u.t1))))))))))))
def eqI (i j : InstV) : Bool := (i.op == j.op && (i.sub == j.sub && (i.n == j.n && (i.d.k == j.d.k && (i.d.n == j.d.n && (i.d.v == j.d.v && (i.a.k == j.a.k && (i.a.n == j.a.n && (i.a.v == j.a.v && (i.b.k == j.b.k && (i.b.n == j.b.n && (i.b.v == j.b.v && (i.c.k == j.c.k && (i.c.n == j.c.n && (i.c.v == j.c.v)))))))))))))))
theorem eqT_run (t u : TermV) (w : World) : (binOp .neq 53 (.agg #[t.kind, t.sub, t.d.k, t.d.n, .int .i32 t.d.v, t.a.k, t.a.n, .int .i32 t.a.v, t.b.k, t.b.n, .int .i32 t.b.v, t.t0, t.t1]) (.agg #[u.kind, u.sub, u.d.k, u.d.n, .int .i32 u.d.v, u.a.k, u.a.n, .int .i32 u.a.v, u.b.k, u.b.n, .int .i32 u.b.v, u.t0, u.t1])).run Tryz.prog w = .ok (.bool (!eqT t u)) w := term_neq _ _ _ _ _ _ _ _ _ _ _ _ _ _ _ _ _ _ _ _ _ _ _ _ _ _ w
theorem eqI_run (i j : InstV) (w : World) : (binOp .neq 61 (.agg #[i.op, i.sub, i.n, i.d.k, i.d.n, .int .i32 i.d.v, i.a.k, i.a.n, .int .i32 i.a.v, i.b.k, i.b.n, .int .i32 i.b.v, i.c.k, i.c.n, .int .i32 i.c.v]) (.agg #[j.op, j.sub, j.n, j.d.k, j.d.n, .int .i32 j.d.v, j.a.k, j.a.n, .int .i32 j.a.v, j.b.k, j.b.n, .int .i32 j.b.v, j.c.k, j.c.n, .int .i32 j.c.v])).run Tryz.prog w = .ok (.bool (!eqI i j)) w := inst_neq _ _ _ _ _ _ _ _ _ _ _ _ _ _ _ _ _ _ _ _ _ _ _ _ _ _ _ _ _ _ w
def sameB (n m : Nat) (I J : Nat -> InstV) (t u : TermV) : Bool := decide (n = m) && (eqT t u && (List.range n).all fun j => eqI (I j) (J j))
theorem SameBlock_any (n c m d : Nat) (A B : Option Addr) (I J : Nat -> InstV) (t u : TermV) (w : World) (hn : n <= 65536) (hm : m <= 65536) (ha : RIn w w.heap.size A n I) (hb : RIn w w.heap.size B m J) :
 Calls Tryz.prog 64 #[.agg #[.slice A n c, t.kind, t.sub, t.d.k, t.d.n, .int .i32 t.d.v, t.a.k, t.a.n, .int .i32 t.a.v, t.b.k, t.b.n, .int .i32 t.b.v, t.t0, t.t1], .agg #[.slice B m d, u.kind, u.sub, u.d.k, u.d.n, .int .i32 u.d.v, u.a.k, u.a.n, .int .i32 u.a.v, u.b.k, u.b.n, .int .i32 u.b.v, u.t0, u.t1]] w fun e w' => e = .returned (.bool (sameB n m I J t u)) /\ Below w.heap.size w w' := by
 have hT := fun (W : World) => eqT_run t u W
 by_cases e : n = m
 . subst e
   cases et : eqT t u
   . have hs : sameB n n I J t u = false := by simp [sameB, et]
     rw [hs]
     rw [et] at hT
     clear hs et ha hb
     go_enter Tryz.func64, Tryz.ntmps64
     go_wp2
     go_ret
     exact ⟨rfl, ((Below.refl _ _).alloc (Nat.le_refl _) _).alloc (by simp) _⟩
   . have HS : Hid (sameB n n I J t u = (List.range n).all fun j => eqI (I j) (J j)) := lh (by simp [sameB, et])
     have HT := lh (fun (k : ∀ j, j < n -> eqI (I j) (J j) = true) => show (List.range n).all (fun j => eqI (I j) (J j)) = true from List.all_eq_true.2 (fun j hj => k j (by simpa using hj)))
     have HN := lh (fun (k : Nat) (hk : k < n) (e : eqI (I k) (J k) = false) => show (List.range n).all (fun j => eqI (I j) (J j)) = false from by rw [Bool.eq_false_iff, ne_eq, List.all_eq_true]; exact fun hh => by have := hh k (by simpa using hk); rw [e] at this; cases this)
     obtain ⟨res, hres⟩ : ∃ res, sameB n n I J t u = res := ⟨_, rfl⟩
     have HRE : Hid ((List.range n).all (fun j => eqI (I j) (J j)) = res) := lh (HS.out.symm.trans hres)
     rw [hres]
     rw [et] at hT
     have HA := lh ha
     have HB := lh hb
     clear ha hb hres HS et
     go_enter Tryz.func64, Tryz.ntmps64
     go_wp2
     have hbel : Below w.heap.size w ((w.alloc (.cells #[.slice A n c, t.kind, t.sub, t.d.k, t.d.n, .int .i32 t.d.v, t.a.k, t.a.n, .int .i32 t.a.v, t.b.k, t.b.n, .int .i32 t.b.v, t.t0, t.t1] 55)).alloc (.cells #[.slice B n d, u.kind, u.sub, u.d.k, u.d.n, .int .i32 u.d.v, u.a.k, u.a.n, .int .i32 u.a.v, u.b.k, u.b.n, .int .i32 u.b.v, u.t0, u.t1] 55)) := ((Below.refl _ _).alloc (Nat.le_refl _) _).alloc (by simp) _
     have hk0 : ((w.alloc (.cells #[.slice A n c, t.kind, t.sub, t.d.k, t.d.n, .int .i32 t.d.v, t.a.k, t.a.n, .int .i32 t.a.v, t.b.k, t.b.n, .int .i32 t.b.v, t.t0, t.t1] 55)).alloc (.cells #[.slice B n d, u.kind, u.sub, u.d.k, u.d.n, .int .i32 u.d.v, u.a.k, u.a.n, .int .i32 u.a.v, u.b.k, u.b.n, .int .i32 u.b.v, u.t0, u.t1] 55)).cell? ⟨w.heap.size, 0, none⟩ = some (.slice A n c) := by
      have hk : ((w.alloc (.cells #[.slice A n c, t.kind, t.sub, t.d.k, t.d.n, .int .i32 t.d.v, t.a.k, t.a.n, .int .i32 t.a.v, t.b.k, t.b.n, .int .i32 t.b.v, t.t0, t.t1] 55)).alloc (.cells #[.slice B n d, u.kind, u.sub, u.d.k, u.d.n, .int .i32 u.d.v, u.a.k, u.a.n, .int .i32 u.a.v, u.b.k, u.b.n, .int .i32 u.b.v, u.t0, u.t1] 55)).heap[w.heap.size]? = _ := (Below.heap_alloc _ _ _ (by simp)).trans (heap_alloc_new w _)
      simp only [World.cell?, hk]
      rfl
     have hk1 : ((w.alloc (.cells #[.slice A n c, t.kind, t.sub, t.d.k, t.d.n, .int .i32 t.d.v, t.a.k, t.a.n, .int .i32 t.a.v, t.b.k, t.b.n, .int .i32 t.b.v, t.t0, t.t1] 55)).alloc (.cells #[.slice B n d, u.kind, u.sub, u.d.k, u.d.n, .int .i32 u.d.v, u.a.k, u.a.n, .int .i32 u.a.v, u.b.k, u.b.n, .int .i32 u.b.v, u.t0, u.t1] 55)).cell? ⟨w.heap.size + 1, 0, none⟩ = some (.slice B n d) := by
      have hk := heap_alloc_new (w.alloc (.cells #[.slice A n c, t.kind, t.sub, t.d.k, t.d.n, .int .i32 t.d.v, t.a.k, t.a.n, .int .i32 t.a.v, t.b.k, t.b.n, .int .i32 t.b.v, t.t0, t.t1] 55)) (.cells #[.slice B n d, u.kind, u.sub, u.d.k, u.d.n, .int .i32 u.d.v, u.a.k, u.a.n, .int .i32 u.a.v, u.b.k, u.b.n, .int .i32 u.b.v, u.t0, u.t1] 55)
      rw [World.size_alloc] at hk
      simp only [World.cell?, hk]
      rfl
     generalize ((w.alloc (.cells #[.slice A n c, t.kind, t.sub, t.d.k, t.d.n, .int .i32 t.d.v, t.a.k, t.a.n, .int .i32 t.a.v, t.b.k, t.b.n, .int .i32 t.b.v, t.t0, t.t1] 55)).alloc (.cells #[.slice B n d, u.kind, u.sub, u.d.k, u.d.n, .int .i32 u.d.v, u.a.k, u.a.n, .int .i32 u.a.v, u.b.k, u.b.n, .int .i32 u.b.v, u.t0, u.t1] 55)) = W2 at *
     have HBL := lh hbel
     clear hbel hT
     go_loopw [5] (fun i wr => ∃ k : Nat, k <= n /\ i = .int .i64 k /\ Hid (∀ j, j < k -> eqI (I j) (J j) = true) /\ Hid (Below w.heap.size w wr) /\ wr.cell? ⟨w.heap.size, 0, none⟩ = some (.slice A n c) /\ wr.cell? ⟨w.heap.size + 1, 0, none⟩ = some (.slice B n d)) (fun i _ => n - (intOf i).toNat)
     case atStart => exact ⟨0, Nat.zero_le _, rfl, lh (fun j hj => absurd hj (by omega)), HBL, hk0, hk1⟩
     case round =>
      obtain ⟨k, hk, rfl, hall, HBe, g0, g1⟩ := hrel
      by_cases hlt : k < n
      . obtain ⟨b1, o1, rfl, _, hc1⟩ := (HA.out.below HBe.out) (by omega)
        obtain ⟨b2, o2, rfl, _, hc2⟩ := (HB.out.below HBe.out) (by omega)
        obtain ⟨_, _, _, _, _, _, _, _, _, _, _, _, _, _, _⟩ := hc1 k hlt
        obtain ⟨_, _, _, _, _, _, _, _, _, _, _, _, _, _, _⟩ := hc2 k hlt
        clear hc1 hc2
        have hI := fun (W : World) => eqI_run (I k) (J k) W
        cases ht : eqI (I k) (J k)
        . have HX : Hid (res = false) := lh (HRE.out.symm.trans (HN.out k hlt ht))
          rw [ht] at hI
          clear ht
          go_wp2
          go_quiet (fail)
          go_wp2
          go_ret
          exact ⟨by rw [HX.out]; rfl, below_drewN HBe.out _⟩
        . have HAll : Hid (∀ j, j < k + 1 -> eqI (I j) (J j) = true) := lh (fun j hj => by
           by_cases e : j = k
           . subst e; exact ht
           . exact hall.out j (by omega))
          rw [ht] at hI
          clear ht hall
          go_wp2
          go_quiet (fail)
          go_wp2
          go_roundw
          case rel => exact ⟨k + 1, by omega, by go_num, HAll, lh (below_drewN HBe.out _), g0, g1⟩
          case measure => simp [intOf]; omega
      . obtain rfl : k = n := by omega
        have HX : Hid (res = true) := lh (HRE.out.symm.trans (HT.out hall.out))
        go_wp2
        go_ret
        exact ⟨by rw [HX.out]; rfl, HBe.out⟩
 . have hs : sameB n m I J t u = false := by simp [sameB, e]
   rw [hs]
   have hne : ¬ ((n : Int) = (m : Int)) := by omega
   clear hs e ha hb hT
   go_enter Tryz.func64, Tryz.ntmps64
   go_wp2
   go_ret
   exact ⟨rfl, ((Below.refl _ _).alloc (Nat.le_refl _) _).alloc (by simp) _⟩
section
variable (n1 m1 n2 m2 c1 d1 k1 e1 c2 d2 k2 e2 : Nat) (A1 L1 B1 A2 L2 B2 : Option Addr) (nm1 nm2 : Nat -> ByteArray) (sp1 ty1 ln1 sp2 ty2 ln2 hd1 rg1 bd1 hd2 rg2 bd2 : Nat -> Int)
 (IA1 IA2 : Nat -> Option Addr) (IL1 IC1 IL2 IC2 : Nat -> Nat) (I1 I2 : Nat -> Nat -> InstV) (T1 T2 : Nat -> TermV)
def sameC (h : Bool) (k1 k2 : Nat) (IL1 IL2 : Nat -> Nat) (I1 I2 : Nat -> Nat -> InstV) (T1 T2 : Nat -> TermV) : Bool := h && (decide (k1 = k2) && (List.range k1).all fun j => sameB (IL1 j) (IL2 j) (I1 j) (I2 j) (T1 j) (T2 j))
theorem RAr.to {w w' : World} {n : Nat} {A : Option Addr} {nm : Nat -> ByteArray} {sp ty ln : Nat -> Int} (h : RAr w w.heap.size A n nm sp ty ln) (hb : Below w.heap.size w w') : RAr w' w'.heap.size A n nm sp ty ln := fun hn => by
 obtain ⟨b, off, e, hlt, hc⟩ := (h.below hb) hn
 exact ⟨b, off, e, Nat.lt_of_lt_of_le hlt hb.size, hc⟩
theorem RLo.to {w w' : World} {n : Nat} {A : Option Addr} {sp ty ln : Nat -> Int} (h : RLo w w.heap.size A n sp ty ln) (hb : Below w.heap.size w w') : RLo w' w'.heap.size A n sp ty ln := fun hn => by
 obtain ⟨b, off, e, hlt, hc⟩ := (h.below hb) hn
 exact ⟨b, off, e, Nat.lt_of_lt_of_le hlt hb.size, hc⟩
theorem RIn.to {w w' : World} {n : Nat} {A : Option Addr} {I : Nat -> InstV} (h : RIn w w.heap.size A n I) (hb : Below w.heap.size w w') : RIn w' w'.heap.size A n I := fun hn => by
 obtain ⟨b, off, e, hlt, hc⟩ := (h.below hb) hn
 exact ⟨b, off, e, Nat.lt_of_lt_of_le hlt hb.size, hc⟩
theorem Same_any (g1 s1 r1 l1 p1 g2 s2 r2 l2 p2 : Int) (w : World) (hn : n1 <= 65536) (hm : m1 <= 65536) (hk1 : k1 <= 65536) (hk2 : k2 <= 65536) (ha1 : RAr w w.heap.size A1 n1 nm1 sp1 ty1 ln1) (ha2 : RAr w w.heap.size A2 n2 nm2 sp2 ty2 ln2) (hl1 : RLo w w.heap.size L1 m1 hd1 rg1 bd1) (hl2 : RLo w w.heap.size L2 m2 hd2 rg2 bd2)
 (hb1 : RBl w w.heap.size B1 k1 IA1 IL1 IC1 T1) (hb2 : RBl w w.heap.size B2 k2 IA2 IL2 IC2 T2) (hi1 : ∀ j, j < k1 -> RIn w w.heap.size (IA1 j) (IL1 j) (I1 j) /\ IL1 j <= 65536) (hi2 : ∀ j, j < k2 -> RIn w w.heap.size (IA2 j) (IL2 j) (I2 j) /\ IL2 j <= 65536) :
 Calls Tryz.prog 33 #[.agg #[g1, s1, r1, l1, p1, .slice A1 n1 c1, .slice L1 m1 d1, .slice B1 k1 e1], .agg #[g2, s2, r2, l2, p2, .slice A2 n2 c2, .slice L2 m2 d2, .slice B2 k2 e2]] w fun e w' => e = .returned (.bool (sameC (sameHd g1 s1 r1 l1 p1 g2 s2 r2 l2 p2 n1 m1 n2 m2 nm1 nm2 sp1 ty1 ln1 sp2 ty2 ln2 hd1 rg1 bd1 hd2 rg2 bd2) k1 k2 IL1 IL2 I1 I2 T1 T2)) /\ Below w.heap.size w w' := by
 have HH := lh (fun (W : World) (hW : Below w.heap.size w W) => SameHead_any n1 m1 n2 m2 c1 d1 k1 e1 c2 d2 k2 e2 A1 L1 B1 A2 L2 B2 nm1 nm2 sp1 ty1 ln1 sp2 ty2 ln2 hd1 rg1 bd1 hd2 rg2 bd2 g1 s1 r1 l1 p1 g2 s2 r2 l2 p2 W hn hm (ha1.to hW) (ha2.to hW) (hl1.to hW) (hl2.to hW))
 obtain ⟨h, hh⟩ : ∃ h, sameHd g1 s1 r1 l1 p1 g2 s2 r2 l2 p2 n1 m1 n2 m2 nm1 nm2 sp1 ty1 ln1 sp2 ty2 ln2 hd1 rg1 bd1 hd2 rg2 bd2 = h := ⟨_, rfl⟩
 rw [hh] at HH ⊢
 clear hh ha1 ha2 hl1 hl2
 cases h
 . have hs : sameC false k1 k2 IL1 IL2 I1 I2 T1 T2 = false := by simp [sameC]
   rw [hs]
   clear hs hb1 hb2 hi1 hi2
   go_enter Tryz.func33, Tryz.ntmps33
   go_wp2_with (go_at_call 63; (with_reducible refine (HH.out _ ?_).mono ?_); exact (Below.refl _ _).alloc (Nat.le_refl _) _ |>.alloc (by simp) _; rintro e w1 ⟨rfl, hb1⟩; have HB1 := lh hb1; clear hb1)
   go_ret
   exact ⟨rfl, (((Below.refl _ _).alloc (Nat.le_refl _) _).alloc (by simp) _).trans (HB1.out.mono (by simp; omega))⟩
 by_cases e : k1 = k2
 rotate_left
 . have hs : sameC true k1 k2 IL1 IL2 I1 I2 T1 T2 = false := by simp [sameC, e]
   rw [hs]
   have hne : ¬ ((k1 : Int) = (k2 : Int)) := by omega
   clear hs hb1 hb2 hi1 hi2 e
   have HBX := lh (fun (w1 : World) (hb : Below ((w.alloc (.cells #[g1, s1, r1, l1, p1, .slice A1 n1 c1, .slice L1 m1 d1, .slice B1 k1 e1] 36)).alloc (.cells #[g2, s2, r2, l2, p2, .slice A2 n2 c2, .slice L2 m2 d2, .slice B2 k2 e2] 36)).heap.size ((w.alloc (.cells #[g1, s1, r1, l1, p1, .slice A1 n1 c1, .slice L1 m1 d1, .slice B1 k1 e1] 36)).alloc (.cells #[g2, s2, r2, l2, p2, .slice A2 n2 c2, .slice L2 m2 d2, .slice B2 k2 e2] 36)) w1) => (show w1.cell? ⟨w.heap.size, 7, none⟩ = some (.slice B1 k1 e1) /\ w1.cell? ⟨w.heap.size + 1, 7, none⟩ = some (.slice B2 k2 e2) /\ Below w.heap.size w w1 from by
    have hkk0 : w1.heap[w.heap.size]? = some (.cells #[g1, s1, r1, l1, p1, .slice A1 n1 c1, .slice L1 m1 d1, .slice B1 k1 e1] 36) := (hb.block _ (by simp; omega)).trans ((Below.heap_alloc _ _ _ (by simp)).trans (heap_alloc_new w _))
    have hkk1 : w1.heap[w.heap.size + 1]? = some (.cells #[g2, s2, r2, l2, p2, .slice A2 n2 c2, .slice L2 m2 d2, .slice B2 k2 e2] 36) := by
     have hk := heap_alloc_new (w.alloc (.cells #[g1, s1, r1, l1, p1, .slice A1 n1 c1, .slice L1 m1 d1, .slice B1 k1 e1] 36)) (.cells #[g2, s2, r2, l2, p2, .slice A2 n2 c2, .slice L2 m2 d2, .slice B2 k2 e2] 36)
     rw [World.size_alloc] at hk
     exact (hb.block _ (by simp)).trans hk
    refine ⟨by simp only [World.cell?, hkk0]; rfl, by simp only [World.cell?, hkk1]; rfl, (((Below.refl _ _).alloc (Nat.le_refl _) _).alloc (by simp) _).trans (hb.mono (by simp; omega))⟩))
   go_enter Tryz.func33, Tryz.ntmps33
   go_wp2_with (go_at_call 63; (with_reducible refine (HH.out _ ?_).mono ?_); exact (Below.refl _ _).alloc (Nat.le_refl _) _ |>.alloc (by simp) _; rintro e w1 ⟨rfl, hb1⟩; obtain ⟨q0, q1, hbw⟩ := HBX.out w1 hb1; have HB1 := lh hbw; clear hb1 hbw)
   go_ret
   exact ⟨rfl, HB1.out⟩
 subst e
 have HBX := lh (fun (w1 : World) (hb : Below ((w.alloc (.cells #[g1, s1, r1, l1, p1, .slice A1 n1 c1, .slice L1 m1 d1, .slice B1 k1 e1] 36)).alloc (.cells #[g2, s2, r2, l2, p2, .slice A2 n2 c2, .slice L2 m2 d2, .slice B2 k1 e2] 36)).heap.size ((w.alloc (.cells #[g1, s1, r1, l1, p1, .slice A1 n1 c1, .slice L1 m1 d1, .slice B1 k1 e1] 36)).alloc (.cells #[g2, s2, r2, l2, p2, .slice A2 n2 c2, .slice L2 m2 d2, .slice B2 k1 e2] 36)) w1) => (show w1.cell? ⟨w.heap.size, 7, none⟩ = some (.slice B1 k1 e1) /\ w1.cell? ⟨w.heap.size + 1, 7, none⟩ = some (.slice B2 k1 e2) /\ Below w.heap.size w w1 from by
  have hkk0 : w1.heap[w.heap.size]? = some (.cells #[g1, s1, r1, l1, p1, .slice A1 n1 c1, .slice L1 m1 d1, .slice B1 k1 e1] 36) := (hb.block _ (by simp; omega)).trans ((Below.heap_alloc _ _ _ (by simp)).trans (heap_alloc_new w _))
  have hkk1 : w1.heap[w.heap.size + 1]? = some (.cells #[g2, s2, r2, l2, p2, .slice A2 n2 c2, .slice L2 m2 d2, .slice B2 k1 e2] 36) := by
   have hk := heap_alloc_new (w.alloc (.cells #[g1, s1, r1, l1, p1, .slice A1 n1 c1, .slice L1 m1 d1, .slice B1 k1 e1] 36)) (.cells #[g2, s2, r2, l2, p2, .slice A2 n2 c2, .slice L2 m2 d2, .slice B2 k1 e2] 36)
   rw [World.size_alloc] at hk
   exact (hb.block _ (by simp)).trans hk
  refine ⟨by simp only [World.cell?, hkk0]; rfl, by simp only [World.cell?, hkk1]; rfl, (((Below.refl _ _).alloc (Nat.le_refl _) _).alloc (by simp) _).trans (hb.mono (by simp; omega))⟩))
 have hs : sameC true k1 k1 IL1 IL2 I1 I2 T1 T2 = (List.range k1).all fun j => sameB (IL1 j) (IL2 j) (I1 j) (I2 j) (T1 j) (T2 j) := by simp [sameC]
 rw [hs]
 clear hs
 obtain ⟨a, haa⟩ : ∃ a : Nat -> Bool, (fun j => sameB (IL1 j) (IL2 j) (I1 j) (I2 j) (T1 j) (T2 j)) = a := ⟨_, rfl⟩
 have HSB := lh (fun (j : Nat) (hj : j < k1) (W : World) (hW : Below w.heap.size w W) => (show Calls Tryz.prog 64 #[.agg #[.slice (IA1 j) (IL1 j) (IC1 j), (T1 j).kind, (T1 j).sub, (T1 j).d.k, (T1 j).d.n, .int .i32 (T1 j).d.v, (T1 j).a.k, (T1 j).a.n, .int .i32 (T1 j).a.v, (T1 j).b.k, (T1 j).b.n, .int .i32 (T1 j).b.v, (T1 j).t0, (T1 j).t1], .agg #[.slice (IA2 j) (IL2 j) (IC2 j), (T2 j).kind, (T2 j).sub, (T2 j).d.k, (T2 j).d.n, .int .i32 (T2 j).d.v, (T2 j).a.k, (T2 j).a.n, .int .i32 (T2 j).a.v, (T2 j).b.k, (T2 j).b.n, .int .i32 (T2 j).b.v, (T2 j).t0, (T2 j).t1]] W fun e w' => e = .returned (.bool (a j)) /\ Below W.heap.size W w' from by
  rw [<- haa]
  exact SameBlock_any (IL1 j) (IC1 j) (IL2 j) (IC2 j) (IA1 j) (IA2 j) (I1 j) (I2 j) (T1 j) (T2 j) W (hi1 j hj).2 (hi2 j hj).2 ((hi1 j hj).1.to hW) ((hi2 j hj).1.to hW)))
 rw [haa]
 have HN := lh (fun (k : Nat) (hk : k < k1) (e : a k = false) => show (List.range k1).all a = false from by rw [Bool.eq_false_iff, ne_eq, List.all_eq_true]; exact fun hh => by have := hh k (by simpa using hk); rw [e] at this; cases this)
 have HT := lh (fun (h1 : ∀ j, j < k1 -> a j = true) => show (List.range k1).all a = true from List.all_eq_true.2 (fun j hj => h1 j (by simpa using hj)))
 obtain ⟨res, hres⟩ : ∃ res, (List.range k1).all a = res := ⟨_, rfl⟩
 rw [hres] at HN HT ⊢
 have HR1 := lh hb1; have HR2 := lh hb2
 clear hb1 hb2 hi1 hi2 hres haa
 go_enter Tryz.func33, Tryz.ntmps33
 go_wp2_with (go_at_call 63; (with_reducible refine (HH.out _ ?_).mono ?_); exact (Below.refl _ _).alloc (Nat.le_refl _) _ |>.alloc (by simp) _; rintro e w1 ⟨rfl, hb1⟩; obtain ⟨q0, q1, hbw⟩ := HBX.out w1 hb1; have HB1 := lh hbw; clear hb1 hbw)
 go_loopw [5] (fun i wr => ∃ k : Nat, k <= k1 /\ i = .int .i64 k /\ Hid (∀ j, j < k -> a j = true) /\ Hid (Below w.heap.size w wr) /\ wr.cell? ⟨w.heap.size, 7, none⟩ = some (.slice B1 k1 e1) /\ wr.cell? ⟨w.heap.size + 1, 7, none⟩ = some (.slice B2 k1 e2) /\ w.heap.size + 2 <= wr.heap.size) (fun i _ => k1 - (intOf i).toNat)
 case atStart => exact ⟨0, Nat.zero_le _, rfl, lh (fun j hj => absurd hj (by omega)), HB1, q0, q1, by have := World.block_lt_of_cell? _ _ q1; show w.heap.size + 1 < _; exact this⟩
 case round =>
  clear q0 q1 HB1
  obtain ⟨k, hk, rfl, hall, HBe, q0, q1, hsz⟩ := hrel
  by_cases hlt : k < k1
  . obtain ⟨b1, o1, rfl, _, hc1⟩ := (HR1.out.below HBe.out) (by omega)
    obtain ⟨b2, o2, rfl, _, hc2⟩ := (HR2.out.below HBe.out) (by omega)
    obtain ⟨_, _, _, _, _, _, _, _, _, _, _, _, _, _⟩ := hc1 k hlt
    obtain ⟨_, _, _, _, _, _, _, _, _, _, _, _, _, _⟩ := hc2 k hlt
    clear hc1 hc2
    have HSK := lh (HSB.out k hlt wr.drew (below_drewN HBe.out 1))
    have HQ := lh (fun (w2 : World) (hb : Below wr.heap.size wr.drew w2) => (show w2.cell? ⟨w.heap.size, 7, none⟩ = some (.slice (some ⟨b1, o1, none⟩) k1 e1) /\ w2.cell? ⟨w.heap.size + 1, 7, none⟩ = some (.slice (some ⟨b2, o2, none⟩) k1 e2) from ⟨(hb.cell (p := ⟨w.heap.size, 7, none⟩) (by show w.heap.size < _; omega)).trans q0, (hb.cell (p := ⟨w.heap.size + 1, 7, none⟩) (by show w.heap.size + 1 < _; omega)).trans q1⟩))
    cases ht : a k
    . have HX : Hid (res = false) := lh (HN.out k hlt ht)
      rw [ht] at HSK
      clear ht
      go_wp2
      go_region_with (first | (go_at_call 64; (with_reducible refine HSK.out.mono ?_); rintro e w2 ⟨rfl, hb2⟩; have HB2 := lh hb2; clear hb2))
      all_goals
       go_wp2
       go_ret
       exact ⟨by rw [HX.out]; rfl, (below_drewN HBe.out 1).trans (HB2.out.mono HBe.out.size)⟩
    . have HAll : Hid (∀ j, j < k + 1 -> a j = true) := lh (fun j hj => by
       by_cases e : j = k
       . subst e; exact ht
       . exact hall.out j (by omega))
      rw [ht] at HSK
      clear ht hall
      go_wp2
      go_region_with (first | (go_at_call 64; (with_reducible refine HSK.out.mono ?_); rintro e w2 ⟨rfl, hb2⟩; have HB2 := lh hb2; clear hb2))
      all_goals
       go_wp2
       go_roundw
       case rel => exact ⟨k + 1, by omega, by go_num, HAll, lh ((below_drewN HBe.out 1).trans (HB2.out.mono HBe.out.size)), (HQ.out _ HB2.out).1, (HQ.out _ HB2.out).2, by have := HB2.out.size; have h0 : wr.drew.heap.size = wr.heap.size := rfl; omega⟩
       case measure => simp [intOf]; omega
  . obtain rfl : k = k1 := by omega
    have HX : Hid (res = true) := lh (HT.out hall.out)
    go_wp2
    go_ret
    exact ⟨by rw [HX.out]; rfl, HBe.out⟩
end
end Go.Proofs.YtkncilgmlkeifaaGreatDoor
