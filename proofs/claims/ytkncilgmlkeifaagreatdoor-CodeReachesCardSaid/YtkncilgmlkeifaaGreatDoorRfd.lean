import Derived.Test.YtkncilgmlkeifaaGreatDoorNeq
import Derived.Test.YtkncilgmlkeifaaGreatDoorAll
/-
  The reference: the contract of SameHead.
-/
set_option linter.unusedVariables false
set_option linter.unusedSimpArgs false
namespace Go.Proofs.YtkncilgmlkeifaaGreatDoor
open Go.ChangeShapes Go.WideShapes Go.ChangeAt Go.RowKit Go.Shelf

def eqA (x y : ByteArray) (a b c a' b' c' : Int) : Bool := (x.toList == y.toList && (a == a' && (b == b' && c == c')))
def eqL (a b c a' b' c' : Int) : Bool := (a == a' && (b == b' && c == c'))
theorem eqA_run (x y : ByteArray) (a b c a' b' c' : Int) (w : World) : (binOp .neq 91 (.agg #[.string x, .int .i64 a, .int .i64 b, .int .i64 c]) (.agg #[.string y, .int .i64 a', .int .i64 b', .int .i64 c'])).run Tryz.prog w = .ok (.bool (!eqA x y a b c a' b' c')) w := arr_neq _ _ _ _ _ _ _ _ w
theorem eqL_run (a b c a' b' c' : Int) (w : World) : (binOp .neq 85 (.agg #[.int .i64 a, .int .i64 b, .int .i64 c]) (.agg #[.int .i64 a', .int .i64 b', .int .i64 c'])).run Tryz.prog w = .ok (.bool (!eqL a b c a' b' c')) w := loop_neq _ _ _ _ _ _ w
def sameHd (g1 s1 r1 l1 p1 g2 s2 r2 l2 p2 : Int) (n1 m1 n2 m2 : Nat) (nm1 nm2 : Nat → ByteArray) (sp1 ty1 ln1 sp2 ty2 ln2 hd1 rg1 bd1 hd2 rg2 bd2 : Nat → Int) : Bool :=
  decide (g1 = g2) && (decide (s1 = s2) && (decide (r1 = r2) && (decide (l1 = l2) && (decide (p1 = p2) && (decide (n1 = n2) && (decide (m1 = m2) && (((List.range n1).all fun j => eqA (nm1 j) (nm2 j) (sp1 j) (ty1 j) (ln1 j) (sp2 j) (ty2 j) (ln2 j)) && (List.range m1).all fun j => eqL (hd1 j) (rg1 j) (bd1 j) (hd2 j) (rg2 j) (bd2 j))))))))
section
variable (n1 m1 n2 m2 c1 d1 k1 e1 c2 d2 k2 e2 : Nat) (A1 L1 B1 A2 L2 B2 : Option Addr) (nm1 nm2 : Nat → ByteArray) (sp1 ty1 ln1 sp2 ty2 ln2 hd1 rg1 bd1 hd2 rg2 bd2 : Nat → Int)
set_option maxRecDepth 100000 in
set_option maxHeartbeats 4000000 in
theorem SameHead_eq (g1 s1 r1 l1 p1 : Int) (w : World) (hn : n1 ≤ 65536) (hm : m1 ≤ 65536) (ha1 : RAr w w.heap.size A1 n1 nm1 sp1 ty1 ln1) (ha2 : RAr w w.heap.size A2 n1 nm2 sp2 ty2 ln2) (hl1 : RLo w w.heap.size L1 m1 hd1 rg1 bd1) (hl2 : RLo w w.heap.size L2 m1 hd2 rg2 bd2) :
    Calls Tryz.prog 63 #[.agg #[.int .i64 g1, .int .i64 s1, .int .i64 r1, .int .i64 l1, .int .i64 p1, .slice A1 n1 c1, .slice L1 m1 d1, .slice B1 k1 e1], .agg #[.int .i64 g1, .int .i64 s1, .int .i64 r1, .int .i64 l1, .int .i64 p1, .slice A2 n1 c2, .slice L2 m1 d2, .slice B2 k2 e2]] w fun e w' => e = .returned (.bool (((List.range n1).all fun j => eqA (nm1 j) (nm2 j) (sp1 j) (ty1 j) (ln1 j) (sp2 j) (ty2 j) (ln2 j)) && (List.range m1).all fun j => eqL (hd1 j) (rg1 j) (bd1 j) (hd2 j) (rg2 j) (bd2 j))) ∧ Below w.heap.size w w' := by
  obtain ⟨a, haa⟩ : ∃ a : Nat → Bool, (fun j => eqA (nm1 j) (nm2 j) (sp1 j) (ty1 j) (ln1 j) (sp2 j) (ty2 j) (ln2 j)) = a := ⟨_, rfl⟩
  obtain ⟨b, hbb⟩ : ∃ b : Nat → Bool, (fun j => eqL (hd1 j) (rg1 j) (bd1 j) (hd2 j) (rg2 j) (bd2 j)) = b := ⟨_, rfl⟩
  have HEA := Lib.hid (fun (j : Nat) (W : World) => (show (binOp .neq 91 (.agg #[.string (nm1 j), .int .i64 (sp1 j), .int .i64 (ty1 j), .int .i64 (ln1 j)]) (.agg #[.string (nm2 j), .int .i64 (sp2 j), .int .i64 (ty2 j), .int .i64 (ln2 j)])).run Tryz.prog W = .ok (.bool (!a j)) W from by rw [← haa]; exact eqA_run _ _ _ _ _ _ _ _ W))
  have HEL := Lib.hid (fun (j : Nat) (W : World) => (show (binOp .neq 85 (.agg #[.int .i64 (hd1 j), .int .i64 (rg1 j), .int .i64 (bd1 j)]) (.agg #[.int .i64 (hd2 j), .int .i64 (rg2 j), .int .i64 (bd2 j)])).run Tryz.prog W = .ok (.bool (!b j)) W from by rw [← hbb]; exact eqL_run _ _ _ _ _ _ W))
  rw [haa, hbb]
  have HNA := Lib.hid (fun (k : Nat) (hk : k < n1) (e : a k = false) => show ((List.range n1).all a && (List.range m1).all b) = false from by
    have : (List.range n1).all a = false := by rw [Bool.eq_false_iff, ne_eq, List.all_eq_true]; exact fun hh => by have := hh k (by simpa using hk); rw [e] at this; cases this
    rw [this]; rfl)
  have HNB := Lib.hid (fun (k : Nat) (hk : k < m1) (e : b k = false) => show ((List.range n1).all a && (List.range m1).all b) = false from by
    have : (List.range m1).all b = false := by rw [Bool.eq_false_iff, ne_eq, List.all_eq_true]; exact fun hh => by have := hh k (by simpa using hk); rw [e] at this; cases this
    rw [this, Bool.and_false])
  have HT := Lib.hid (fun (h1 : ∀ j, j < n1 → a j = true) (h2 : ∀ j, j < m1 → b j = true) => show ((List.range n1).all a && (List.range m1).all b) = true from by
    rw [List.all_eq_true.2 (fun j hj => h1 j (by simpa using hj)), List.all_eq_true.2 (fun j hj => h2 j (by simpa using hj))]; rfl)
  obtain ⟨res, hres⟩ : ∃ res, ((List.range n1).all a && (List.range m1).all b) = res := ⟨_, rfl⟩
  rw [hres] at HNA HNB HT ⊢
  have HA1 := Lib.hid ha1; have HA2 := Lib.hid ha2; have HL1 := Lib.hid hl1; have HL2 := Lib.hid hl2
  clear ha1 ha2 hl1 hl2 hres haa hbb
  go_enter Tryz.func63, Tryz.ntmps63
  go_wp2
  have hbel : Below w.heap.size w ((w.alloc (.cells #[.int .i64 g1, .int .i64 s1, .int .i64 r1, .int .i64 l1, .int .i64 p1, .slice A1 n1 c1, .slice L1 m1 d1, .slice B1 k1 e1] 36)).alloc (.cells #[.int .i64 g1, .int .i64 s1, .int .i64 r1, .int .i64 l1, .int .i64 p1, .slice A2 n1 c2, .slice L2 m1 d2, .slice B2 k2 e2] 36)) := ((Below.refl _ _).alloc (Nat.le_refl _) _).alloc (by simp) _
  have hkk0 : ((w.alloc (.cells #[.int .i64 g1, .int .i64 s1, .int .i64 r1, .int .i64 l1, .int .i64 p1, .slice A1 n1 c1, .slice L1 m1 d1, .slice B1 k1 e1] 36)).alloc (.cells #[.int .i64 g1, .int .i64 s1, .int .i64 r1, .int .i64 l1, .int .i64 p1, .slice A2 n1 c2, .slice L2 m1 d2, .slice B2 k2 e2] 36)).heap[w.heap.size]? = some (.cells #[.int .i64 g1, .int .i64 s1, .int .i64 r1, .int .i64 l1, .int .i64 p1, .slice A1 n1 c1, .slice L1 m1 d1, .slice B1 k1 e1] 36) := (Below.heap_alloc _ _ _ (by simp)).trans (heap_alloc_new w _)
  have hkk1 : ((w.alloc (.cells #[.int .i64 g1, .int .i64 s1, .int .i64 r1, .int .i64 l1, .int .i64 p1, .slice A1 n1 c1, .slice L1 m1 d1, .slice B1 k1 e1] 36)).alloc (.cells #[.int .i64 g1, .int .i64 s1, .int .i64 r1, .int .i64 l1, .int .i64 p1, .slice A2 n1 c2, .slice L2 m1 d2, .slice B2 k2 e2] 36)).heap[w.heap.size + 1]? = some (.cells #[.int .i64 g1, .int .i64 s1, .int .i64 r1, .int .i64 l1, .int .i64 p1, .slice A2 n1 c2, .slice L2 m1 d2, .slice B2 k2 e2] 36) := by
    have hk := heap_alloc_new (w.alloc (.cells #[.int .i64 g1, .int .i64 s1, .int .i64 r1, .int .i64 l1, .int .i64 p1, .slice A1 n1 c1, .slice L1 m1 d1, .slice B1 k1 e1] 36)) (.cells #[.int .i64 g1, .int .i64 s1, .int .i64 r1, .int .i64 l1, .int .i64 p1, .slice A2 n1 c2, .slice L2 m1 d2, .slice B2 k2 e2] 36)
    rw [World.size_alloc] at hk
    exact hk
  have q05 : ((w.alloc (.cells #[.int .i64 g1, .int .i64 s1, .int .i64 r1, .int .i64 l1, .int .i64 p1, .slice A1 n1 c1, .slice L1 m1 d1, .slice B1 k1 e1] 36)).alloc (.cells #[.int .i64 g1, .int .i64 s1, .int .i64 r1, .int .i64 l1, .int .i64 p1, .slice A2 n1 c2, .slice L2 m1 d2, .slice B2 k2 e2] 36)).cell? ⟨w.heap.size, 5, none⟩ = some (.slice A1 n1 c1) := by simp only [World.cell?, hkk0]; rfl
  have q06 : ((w.alloc (.cells #[.int .i64 g1, .int .i64 s1, .int .i64 r1, .int .i64 l1, .int .i64 p1, .slice A1 n1 c1, .slice L1 m1 d1, .slice B1 k1 e1] 36)).alloc (.cells #[.int .i64 g1, .int .i64 s1, .int .i64 r1, .int .i64 l1, .int .i64 p1, .slice A2 n1 c2, .slice L2 m1 d2, .slice B2 k2 e2] 36)).cell? ⟨w.heap.size, 6, none⟩ = some (.slice L1 m1 d1) := by simp only [World.cell?, hkk0]; rfl
  have q15 : ((w.alloc (.cells #[.int .i64 g1, .int .i64 s1, .int .i64 r1, .int .i64 l1, .int .i64 p1, .slice A1 n1 c1, .slice L1 m1 d1, .slice B1 k1 e1] 36)).alloc (.cells #[.int .i64 g1, .int .i64 s1, .int .i64 r1, .int .i64 l1, .int .i64 p1, .slice A2 n1 c2, .slice L2 m1 d2, .slice B2 k2 e2] 36)).cell? ⟨w.heap.size + 1, 5, none⟩ = some (.slice A2 n1 c2) := by simp only [World.cell?, hkk1]; rfl
  have q16 : ((w.alloc (.cells #[.int .i64 g1, .int .i64 s1, .int .i64 r1, .int .i64 l1, .int .i64 p1, .slice A1 n1 c1, .slice L1 m1 d1, .slice B1 k1 e1] 36)).alloc (.cells #[.int .i64 g1, .int .i64 s1, .int .i64 r1, .int .i64 l1, .int .i64 p1, .slice A2 n1 c2, .slice L2 m1 d2, .slice B2 k2 e2] 36)).cell? ⟨w.heap.size + 1, 6, none⟩ = some (.slice L2 m1 d2) := by simp only [World.cell?, hkk1]; rfl
  clear hkk0 hkk1
  generalize ((w.alloc (.cells #[.int .i64 g1, .int .i64 s1, .int .i64 r1, .int .i64 l1, .int .i64 p1, .slice A1 n1 c1, .slice L1 m1 d1, .slice B1 k1 e1] 36)).alloc (.cells #[.int .i64 g1, .int .i64 s1, .int .i64 r1, .int .i64 l1, .int .i64 p1, .slice A2 n1 c2, .slice L2 m1 d2, .slice B2 k2 e2] 36)) = W2 at *
  have HBL := Lib.hid hbel
  clear hbel
  go_loopw [5] (fun i wr => ∃ k : Nat, k ≤ n1 ∧ i = .int .i64 k ∧ Hid (∀ j, j < k → a j = true) ∧ Hid (Below w.heap.size w wr) ∧ wr.cell? ⟨w.heap.size, 5, none⟩ = some (.slice A1 n1 c1) ∧ wr.cell? ⟨w.heap.size, 6, none⟩ = some (.slice L1 m1 d1) ∧ wr.cell? ⟨w.heap.size + 1, 5, none⟩ = some (.slice A2 n1 c2) ∧ wr.cell? ⟨w.heap.size + 1, 6, none⟩ = some (.slice L2 m1 d2)) (fun i _ => n1 - (intOf i).toNat)
  case atStart => exact ⟨0, Nat.zero_le _, rfl, Lib.hid (fun j hj => absurd hj (by omega)), HBL, q05, q06, q15, q16⟩
  case round =>
    clear q05 q06 q15 q16 HBL
    obtain ⟨k, hk, rfl, hall, HBe, q05, q06, q15, q16⟩ := hrel
    by_cases hlt : k < n1
    · obtain ⟨b1, o1, rfl, _, hc1⟩ := (HA1.out.below HBe.out) (by omega)
      obtain ⟨b2, o2, rfl, _, hc2⟩ := (HA2.out.below HBe.out) (by omega)
      obtain ⟨x0, x1, x2, x3⟩ := hc1 k hlt
      obtain ⟨y0, y1, y2, y3⟩ := hc2 k hlt
      clear hc1 hc2
      have hI := fun (W : World) => HEA.out k W
      cases ht : a k
      · have HX : Hid (res = false) := Lib.hid (HNA.out k hlt ht)
        rw [ht] at hI
        clear ht
        go_wp2
        go_quiet (fail)
        go_wp2
        go_ret
        exact ⟨by rw [HX.out]; rfl, below_drewN HBe.out _⟩
      · have HAll : Hid (∀ j, j < k + 1 → a j = true) := Lib.hid (fun j hj => by
          by_cases e : j = k
          · subst e; exact ht
          · exact hall.out j (by omega))
        rw [ht] at hI
        clear ht hall
        go_wp2
        go_quiet (fail)
        go_wp2
        go_roundw
        case rel => exact ⟨k + 1, by omega, by go_num, HAll, Lib.hid (below_drewN HBe.out _), q05, q06, q15, q16⟩
        case measure => simp [intOf]; omega
    · obtain rfl : k = n1 := by omega
      have HAA := Lib.hid hall.out
      clear hall
      obtain ⟨wo, rfl⟩ : ∃ wo : World, wo = wr := ⟨_, rfl⟩
      go_wp2
      go_loopw [6] (fun i wx => ∃ z : Nat, z ≤ m1 ∧ i = .int .i64 z ∧ Hid (∀ j, j < z → b j = true) ∧ Hid (Below w.heap.size w wx) ∧ wx.cell? ⟨w.heap.size, 6, none⟩ = some (.slice L1 m1 d1) ∧ wx.cell? ⟨w.heap.size + 1, 6, none⟩ = some (.slice L2 m1 d2)) (fun i _ => m1 - (intOf i).toNat)
      case atStart => exact ⟨0, Nat.zero_le _, rfl, Lib.hid (fun j hj => absurd hj (by omega)), HBe, q06, q16⟩
      case round =>
        clear q05 q06 q15 q16 HBe
        obtain ⟨z, hz, rfl, hall, HBe, q06, q16⟩ := hrel
        by_cases hlt : z < m1
        · obtain ⟨b1, o1, rfl, _, hc1⟩ := (HL1.out.below HBe.out) (by omega)
          obtain ⟨b2, o2, rfl, _, hc2⟩ := (HL2.out.below HBe.out) (by omega)
          obtain ⟨x0, x1, x2⟩ := hc1 z hlt
          obtain ⟨y0, y1, y2⟩ := hc2 z hlt
          clear hc1 hc2
          have hI := fun (W : World) => HEL.out z W
          cases ht : b z
          · have HX : Hid (res = false) := Lib.hid (HNB.out z hlt ht)
            rw [ht] at hI
            clear ht
            go_wp2
            go_quiet (fail)
            go_wp2
            go_ret
            exact ⟨by rw [HX.out]; rfl, below_drewN HBe.out _⟩
          · have HAll : Hid (∀ j, j < z + 1 → b j = true) := Lib.hid (fun j hj => by
              by_cases e : j = z
              · subst e; exact ht
              · exact hall.out j (by omega))
            rw [ht] at hI
            clear ht hall
            go_wp2
            go_quiet (fail)
            go_wp2
            go_roundw
            case rel => exact ⟨z + 1, by omega, by go_num, HAll, Lib.hid (below_drewN HBe.out _), q06, q16⟩
            case measure => simp [intOf]; omega
        · obtain rfl : z = m1 := by omega
          have HX : Hid (res = true) := Lib.hid (HT.out HAA.out hall.out)
          go_wp2
          go_ret
          exact ⟨by rw [HX.out]; rfl, HBe.out⟩
end
end Go.Proofs.YtkncilgmlkeifaaGreatDoor
/-
  The reference: the contract of SameHead, any two codes.
-/
set_option linter.unusedVariables false
set_option linter.unusedSimpArgs false
namespace Go.Proofs.YtkncilgmlkeifaaGreatDoor
open Go.ChangeShapes Go.WideShapes Go.ChangeAt Go.RowKit Go.Shelf

section
variable (n1 m1 n2 m2 c1 d1 k1 e1 c2 d2 k2 e2 : Nat) (A1 L1 B1 A2 L2 B2 : Option Addr) (nm1 nm2 : Nat → ByteArray) (sp1 ty1 ln1 sp2 ty2 ln2 hd1 rg1 bd1 hd2 rg2 bd2 : Nat → Int)
set_option maxRecDepth 100000 in
set_option maxHeartbeats 4000000 in
theorem SameHead_any (g1 s1 r1 l1 p1 g2 s2 r2 l2 p2 : Int) (w : World) (hn : n1 ≤ 65536) (hm : m1 ≤ 65536) (ha1 : RAr w w.heap.size A1 n1 nm1 sp1 ty1 ln1) (ha2 : RAr w w.heap.size A2 n2 nm2 sp2 ty2 ln2) (hl1 : RLo w w.heap.size L1 m1 hd1 rg1 bd1) (hl2 : RLo w w.heap.size L2 m2 hd2 rg2 bd2) :
    Calls Tryz.prog 63 #[.agg #[.int .i64 g1, .int .i64 s1, .int .i64 r1, .int .i64 l1, .int .i64 p1, .slice A1 n1 c1, .slice L1 m1 d1, .slice B1 k1 e1], .agg #[.int .i64 g2, .int .i64 s2, .int .i64 r2, .int .i64 l2, .int .i64 p2, .slice A2 n2 c2, .slice L2 m2 d2, .slice B2 k2 e2]] w fun e w' => e = .returned (.bool (sameHd g1 s1 r1 l1 p1 g2 s2 r2 l2 p2 n1 m1 n2 m2 nm1 nm2 sp1 ty1 ln1 sp2 ty2 ln2 hd1 rg1 bd1 hd2 rg2 bd2)) ∧ Below w.heap.size w w' := by
  by_cases h : g1 = g2
  rotate_left
  · have hs : sameHd g1 s1 r1 l1 p1 g2 s2 r2 l2 p2 n1 m1 n2 m2 nm1 nm2 sp1 ty1 ln1 sp2 ty2 ln2 hd1 rg1 bd1 hd2 rg2 bd2 = false := by
      simp [sameHd, h]
    rw [hs]
    have hne : ¬ ((g1 : Int) = (g2 : Int)) := by exact h
    clear hs ha1 ha2 hl1 hl2 h
    go_enter Tryz.func63, Tryz.ntmps63
    go_wp2
    go_ret
    exact ⟨rfl, ((Below.refl _ _).alloc (Nat.le_refl _) _).alloc (by simp) _⟩
  subst h
  by_cases h : s1 = s2
  rotate_left
  · have hs : sameHd g1 s1 r1 l1 p1 g1 s2 r2 l2 p2 n1 m1 n2 m2 nm1 nm2 sp1 ty1 ln1 sp2 ty2 ln2 hd1 rg1 bd1 hd2 rg2 bd2 = false := by
      simp [sameHd, h]
    rw [hs]
    have hne : ¬ ((s1 : Int) = (s2 : Int)) := by exact h
    clear hs ha1 ha2 hl1 hl2 h
    go_enter Tryz.func63, Tryz.ntmps63
    go_wp2
    go_ret
    exact ⟨rfl, ((Below.refl _ _).alloc (Nat.le_refl _) _).alloc (by simp) _⟩
  subst h
  by_cases h : r1 = r2
  rotate_left
  · have hs : sameHd g1 s1 r1 l1 p1 g1 s1 r2 l2 p2 n1 m1 n2 m2 nm1 nm2 sp1 ty1 ln1 sp2 ty2 ln2 hd1 rg1 bd1 hd2 rg2 bd2 = false := by
      simp [sameHd, h]
    rw [hs]
    have hne : ¬ ((r1 : Int) = (r2 : Int)) := by exact h
    clear hs ha1 ha2 hl1 hl2 h
    go_enter Tryz.func63, Tryz.ntmps63
    go_wp2
    go_ret
    exact ⟨rfl, ((Below.refl _ _).alloc (Nat.le_refl _) _).alloc (by simp) _⟩
  subst h
  by_cases h : l1 = l2
  rotate_left
  · have hs : sameHd g1 s1 r1 l1 p1 g1 s1 r1 l2 p2 n1 m1 n2 m2 nm1 nm2 sp1 ty1 ln1 sp2 ty2 ln2 hd1 rg1 bd1 hd2 rg2 bd2 = false := by
      simp [sameHd, h]
    rw [hs]
    have hne : ¬ ((l1 : Int) = (l2 : Int)) := by exact h
    clear hs ha1 ha2 hl1 hl2 h
    go_enter Tryz.func63, Tryz.ntmps63
    go_wp2
    go_ret
    exact ⟨rfl, ((Below.refl _ _).alloc (Nat.le_refl _) _).alloc (by simp) _⟩
  subst h
  by_cases h : p1 = p2
  rotate_left
  · have hs : sameHd g1 s1 r1 l1 p1 g1 s1 r1 l1 p2 n1 m1 n2 m2 nm1 nm2 sp1 ty1 ln1 sp2 ty2 ln2 hd1 rg1 bd1 hd2 rg2 bd2 = false := by
      simp [sameHd, h]
    rw [hs]
    have hne : ¬ ((p1 : Int) = (p2 : Int)) := by exact h
    clear hs ha1 ha2 hl1 hl2 h
    go_enter Tryz.func63, Tryz.ntmps63
    go_wp2
    go_ret
    exact ⟨rfl, ((Below.refl _ _).alloc (Nat.le_refl _) _).alloc (by simp) _⟩
  subst h
  by_cases h : n1 = n2
  rotate_left
  · have hs : sameHd g1 s1 r1 l1 p1 g1 s1 r1 l1 p1 n1 m1 n2 m2 nm1 nm2 sp1 ty1 ln1 sp2 ty2 ln2 hd1 rg1 bd1 hd2 rg2 bd2 = false := by
      simp [sameHd, h]
    rw [hs]
    have hne : ¬ ((n1 : Int) = (n2 : Int)) := by omega
    clear hs ha1 ha2 hl1 hl2 h
    go_enter Tryz.func63, Tryz.ntmps63
    go_wp2
    go_ret
    exact ⟨rfl, ((Below.refl _ _).alloc (Nat.le_refl _) _).alloc (by simp) _⟩
  subst h
  by_cases h : m1 = m2
  rotate_left
  · have hs : sameHd g1 s1 r1 l1 p1 g1 s1 r1 l1 p1 n1 m1 n1 m2 nm1 nm2 sp1 ty1 ln1 sp2 ty2 ln2 hd1 rg1 bd1 hd2 rg2 bd2 = false := by
      simp [sameHd, h]
    rw [hs]
    have hne : ¬ ((m1 : Int) = (m2 : Int)) := by omega
    clear hs ha1 ha2 hl1 hl2 h
    go_enter Tryz.func63, Tryz.ntmps63
    go_wp2
    go_ret
    exact ⟨rfl, ((Below.refl _ _).alloc (Nat.le_refl _) _).alloc (by simp) _⟩
  subst h
  refine (SameHead_eq n1 m1 c1 d1 k1 e1 c2 d2 k2 e2 A1 L1 B1 A2 L2 B2 nm1 nm2 sp1 ty1 ln1 sp2 ty2 ln2 hd1 rg1 bd1 hd2 rg2 bd2 g1 s1 r1 l1 p1 w hn hm ha1 ha2 hl1 hl2).mono ?_
  rintro e w' ⟨rfl, hb⟩
  exact ⟨by simp [sameHd], hb⟩
end
end Go.Proofs.YtkncilgmlkeifaaGreatDoor
