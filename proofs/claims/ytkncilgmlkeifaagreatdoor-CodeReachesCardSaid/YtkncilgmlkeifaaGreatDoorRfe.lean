/-
  The reference: the contract of Same.
-/
import Derived.Test.YtkncilgmlkeifaaGreatDoorRfd
import Derived.Test.YtkncilgmlkeifaaGreatDoorRfb
import Derived.Test.YtkncilgmlkeifaaGreatDoorLim
import Derived.Deep.RegionWith
set_option linter.unusedVariables false
set_option linter.unusedSimpArgs false
namespace Go.Proofs.YtkncilgmlkeifaaGreatDoor
open Go.ChangeShapes Go.WideShapes Go.ChangeAt Go.RowKit Go.Shelf

section
variable (n1 m1 n2 m2 c1 d1 k1 e1 c2 d2 k2 e2 : Nat) (A1 L1 B1 A2 L2 B2 : Option Addr) (nm1 nm2 : Nat → ByteArray) (sp1 ty1 ln1 sp2 ty2 ln2 hd1 rg1 bd1 hd2 rg2 bd2 : Nat → Int)
  (IA1 IA2 : Nat → Option Addr) (IL1 IC1 IL2 IC2 : Nat → Nat) (I1 I2 : Nat → Nat → InstV) (T1 T2 : Nat → TermV)
def sameC (h : Bool) (k1 k2 : Nat) (IL1 IL2 : Nat → Nat) (I1 I2 : Nat → Nat → InstV) (T1 T2 : Nat → TermV) : Bool := h && (decide (k1 = k2) && (List.range k1).all fun j => sameB (IL1 j) (IL2 j) (I1 j) (I2 j) (T1 j) (T2 j))
theorem RAr.to {w w' : World} {n : Nat} {A : Option Addr} {nm : Nat → ByteArray} {sp ty ln : Nat → Int} (h : RAr w w.heap.size A n nm sp ty ln) (hb : Below w.heap.size w w') : RAr w' w'.heap.size A n nm sp ty ln := fun hn => by
  obtain ⟨b, off, e, hlt, hc⟩ := (h.below hb) hn
  exact ⟨b, off, e, Nat.lt_of_lt_of_le hlt hb.size, hc⟩
theorem RLo.to {w w' : World} {n : Nat} {A : Option Addr} {sp ty ln : Nat → Int} (h : RLo w w.heap.size A n sp ty ln) (hb : Below w.heap.size w w') : RLo w' w'.heap.size A n sp ty ln := fun hn => by
  obtain ⟨b, off, e, hlt, hc⟩ := (h.below hb) hn
  exact ⟨b, off, e, Nat.lt_of_lt_of_le hlt hb.size, hc⟩
theorem RIn.to {w w' : World} {n : Nat} {A : Option Addr} {I : Nat → InstV} (h : RIn w w.heap.size A n I) (hb : Below w.heap.size w w') : RIn w' w'.heap.size A n I := fun hn => by
  obtain ⟨b, off, e, hlt, hc⟩ := (h.below hb) hn
  exact ⟨b, off, e, Nat.lt_of_lt_of_le hlt hb.size, hc⟩
set_option maxRecDepth 100000 in
set_option maxHeartbeats 4000000 in
theorem Same_any (g1 s1 r1 l1 p1 g2 s2 r2 l2 p2 : Int) (w : World) (hn : n1 ≤ 65536) (hm : m1 ≤ 65536) (hk1 : k1 ≤ 65536) (hk2 : k2 ≤ 65536) (ha1 : RAr w w.heap.size A1 n1 nm1 sp1 ty1 ln1) (ha2 : RAr w w.heap.size A2 n2 nm2 sp2 ty2 ln2) (hl1 : RLo w w.heap.size L1 m1 hd1 rg1 bd1) (hl2 : RLo w w.heap.size L2 m2 hd2 rg2 bd2)
    (hb1 : RBl w w.heap.size B1 k1 IA1 IL1 IC1 T1) (hb2 : RBl w w.heap.size B2 k2 IA2 IL2 IC2 T2) (hi1 : ∀ j, j < k1 → RIn w w.heap.size (IA1 j) (IL1 j) (I1 j) ∧ IL1 j ≤ 65536) (hi2 : ∀ j, j < k2 → RIn w w.heap.size (IA2 j) (IL2 j) (I2 j) ∧ IL2 j ≤ 65536) :
    Calls Tryz.prog 33 #[.agg #[.int .i64 g1, .int .i64 s1, .int .i64 r1, .int .i64 l1, .int .i64 p1, .slice A1 n1 c1, .slice L1 m1 d1, .slice B1 k1 e1], .agg #[.int .i64 g2, .int .i64 s2, .int .i64 r2, .int .i64 l2, .int .i64 p2, .slice A2 n2 c2, .slice L2 m2 d2, .slice B2 k2 e2]] w fun e w' => e = .returned (.bool (sameC (sameHd g1 s1 r1 l1 p1 g2 s2 r2 l2 p2 n1 m1 n2 m2 nm1 nm2 sp1 ty1 ln1 sp2 ty2 ln2 hd1 rg1 bd1 hd2 rg2 bd2) k1 k2 IL1 IL2 I1 I2 T1 T2)) ∧ Below w.heap.size w w' := by
  have HH := Lib.hid (fun (W : World) (hW : Below w.heap.size w W) => SameHead_any n1 m1 n2 m2 c1 d1 k1 e1 c2 d2 k2 e2 A1 L1 B1 A2 L2 B2 nm1 nm2 sp1 ty1 ln1 sp2 ty2 ln2 hd1 rg1 bd1 hd2 rg2 bd2 g1 s1 r1 l1 p1 g2 s2 r2 l2 p2 W hn hm (ha1.to hW) (ha2.to hW) (hl1.to hW) (hl2.to hW))
  obtain ⟨h, hh⟩ : ∃ h, sameHd g1 s1 r1 l1 p1 g2 s2 r2 l2 p2 n1 m1 n2 m2 nm1 nm2 sp1 ty1 ln1 sp2 ty2 ln2 hd1 rg1 bd1 hd2 rg2 bd2 = h := ⟨_, rfl⟩
  rw [hh] at HH ⊢
  clear hh ha1 ha2 hl1 hl2
  cases h
  · have hs : sameC false k1 k2 IL1 IL2 I1 I2 T1 T2 = false := by simp [sameC]
    rw [hs]
    clear hs hb1 hb2 hi1 hi2
    go_enter Tryz.func33, Tryz.ntmps33
    go_wp2_with (go_at_call 63; (with_reducible refine (HH.out _ ?_).mono ?_); exact (Below.refl _ _).alloc (Nat.le_refl _) _ |>.alloc (by simp) _; rintro e w1 ⟨rfl, hb1⟩; have HB1 := Lib.hid hb1; clear hb1)
    go_ret
    exact ⟨rfl, (((Below.refl _ _).alloc (Nat.le_refl _) _).alloc (by simp) _).trans (HB1.out.mono (by simp; omega))⟩
  by_cases e : k1 = k2
  rotate_left
  · have hs : sameC true k1 k2 IL1 IL2 I1 I2 T1 T2 = false := by simp [sameC, e]
    rw [hs]
    have hne : ¬ ((k1 : Int) = (k2 : Int)) := by omega
    clear hs hb1 hb2 hi1 hi2 e
    have HBX := Lib.hid (fun (w1 : World) (hb : Below ((w.alloc (.cells #[.int .i64 g1, .int .i64 s1, .int .i64 r1, .int .i64 l1, .int .i64 p1, .slice A1 n1 c1, .slice L1 m1 d1, .slice B1 k1 e1] 36)).alloc (.cells #[.int .i64 g2, .int .i64 s2, .int .i64 r2, .int .i64 l2, .int .i64 p2, .slice A2 n2 c2, .slice L2 m2 d2, .slice B2 k2 e2] 36)).heap.size ((w.alloc (.cells #[.int .i64 g1, .int .i64 s1, .int .i64 r1, .int .i64 l1, .int .i64 p1, .slice A1 n1 c1, .slice L1 m1 d1, .slice B1 k1 e1] 36)).alloc (.cells #[.int .i64 g2, .int .i64 s2, .int .i64 r2, .int .i64 l2, .int .i64 p2, .slice A2 n2 c2, .slice L2 m2 d2, .slice B2 k2 e2] 36)) w1) => (show w1.cell? ⟨w.heap.size, 7, none⟩ = some (.slice B1 k1 e1) ∧ w1.cell? ⟨w.heap.size + 1, 7, none⟩ = some (.slice B2 k2 e2) ∧ Below w.heap.size w w1 from by
      have hkk0 : w1.heap[w.heap.size]? = some (.cells #[.int .i64 g1, .int .i64 s1, .int .i64 r1, .int .i64 l1, .int .i64 p1, .slice A1 n1 c1, .slice L1 m1 d1, .slice B1 k1 e1] 36) := (hb.block _ (by simp; omega)).trans ((Below.heap_alloc _ _ _ (by simp)).trans (heap_alloc_new w _))
      have hkk1 : w1.heap[w.heap.size + 1]? = some (.cells #[.int .i64 g2, .int .i64 s2, .int .i64 r2, .int .i64 l2, .int .i64 p2, .slice A2 n2 c2, .slice L2 m2 d2, .slice B2 k2 e2] 36) := by
        have hk := heap_alloc_new (w.alloc (.cells #[.int .i64 g1, .int .i64 s1, .int .i64 r1, .int .i64 l1, .int .i64 p1, .slice A1 n1 c1, .slice L1 m1 d1, .slice B1 k1 e1] 36)) (.cells #[.int .i64 g2, .int .i64 s2, .int .i64 r2, .int .i64 l2, .int .i64 p2, .slice A2 n2 c2, .slice L2 m2 d2, .slice B2 k2 e2] 36)
        rw [World.size_alloc] at hk
        exact (hb.block _ (by simp)).trans hk
      refine ⟨by simp only [World.cell?, hkk0]; rfl, by simp only [World.cell?, hkk1]; rfl, (((Below.refl _ _).alloc (Nat.le_refl _) _).alloc (by simp) _).trans (hb.mono (by simp; omega))⟩))
    go_enter Tryz.func33, Tryz.ntmps33
    go_wp2_with (go_at_call 63; (with_reducible refine (HH.out _ ?_).mono ?_); exact (Below.refl _ _).alloc (Nat.le_refl _) _ |>.alloc (by simp) _; rintro e w1 ⟨rfl, hb1⟩; obtain ⟨q0, q1, hbw⟩ := HBX.out w1 hb1; have HB1 := Lib.hid hbw; clear hb1 hbw)
    go_ret
    exact ⟨rfl, HB1.out⟩
  subst e
  have HBX := Lib.hid (fun (w1 : World) (hb : Below ((w.alloc (.cells #[.int .i64 g1, .int .i64 s1, .int .i64 r1, .int .i64 l1, .int .i64 p1, .slice A1 n1 c1, .slice L1 m1 d1, .slice B1 k1 e1] 36)).alloc (.cells #[.int .i64 g2, .int .i64 s2, .int .i64 r2, .int .i64 l2, .int .i64 p2, .slice A2 n2 c2, .slice L2 m2 d2, .slice B2 k1 e2] 36)).heap.size ((w.alloc (.cells #[.int .i64 g1, .int .i64 s1, .int .i64 r1, .int .i64 l1, .int .i64 p1, .slice A1 n1 c1, .slice L1 m1 d1, .slice B1 k1 e1] 36)).alloc (.cells #[.int .i64 g2, .int .i64 s2, .int .i64 r2, .int .i64 l2, .int .i64 p2, .slice A2 n2 c2, .slice L2 m2 d2, .slice B2 k1 e2] 36)) w1) => (show w1.cell? ⟨w.heap.size, 7, none⟩ = some (.slice B1 k1 e1) ∧ w1.cell? ⟨w.heap.size + 1, 7, none⟩ = some (.slice B2 k1 e2) ∧ Below w.heap.size w w1 from by
    have hkk0 : w1.heap[w.heap.size]? = some (.cells #[.int .i64 g1, .int .i64 s1, .int .i64 r1, .int .i64 l1, .int .i64 p1, .slice A1 n1 c1, .slice L1 m1 d1, .slice B1 k1 e1] 36) := (hb.block _ (by simp; omega)).trans ((Below.heap_alloc _ _ _ (by simp)).trans (heap_alloc_new w _))
    have hkk1 : w1.heap[w.heap.size + 1]? = some (.cells #[.int .i64 g2, .int .i64 s2, .int .i64 r2, .int .i64 l2, .int .i64 p2, .slice A2 n2 c2, .slice L2 m2 d2, .slice B2 k1 e2] 36) := by
      have hk := heap_alloc_new (w.alloc (.cells #[.int .i64 g1, .int .i64 s1, .int .i64 r1, .int .i64 l1, .int .i64 p1, .slice A1 n1 c1, .slice L1 m1 d1, .slice B1 k1 e1] 36)) (.cells #[.int .i64 g2, .int .i64 s2, .int .i64 r2, .int .i64 l2, .int .i64 p2, .slice A2 n2 c2, .slice L2 m2 d2, .slice B2 k1 e2] 36)
      rw [World.size_alloc] at hk
      exact (hb.block _ (by simp)).trans hk
    refine ⟨by simp only [World.cell?, hkk0]; rfl, by simp only [World.cell?, hkk1]; rfl, (((Below.refl _ _).alloc (Nat.le_refl _) _).alloc (by simp) _).trans (hb.mono (by simp; omega))⟩))
  have hs : sameC true k1 k1 IL1 IL2 I1 I2 T1 T2 = (List.range k1).all fun j => sameB (IL1 j) (IL2 j) (I1 j) (I2 j) (T1 j) (T2 j) := by simp [sameC]
  rw [hs]
  clear hs
  obtain ⟨a, haa⟩ : ∃ a : Nat → Bool, (fun j => sameB (IL1 j) (IL2 j) (I1 j) (I2 j) (T1 j) (T2 j)) = a := ⟨_, rfl⟩
  have HSB := Lib.hid (fun (j : Nat) (hj : j < k1) (W : World) (hW : Below w.heap.size w W) => (show Calls Tryz.prog 64 #[.agg #[.slice (IA1 j) (IL1 j) (IC1 j), .int .i64 (T1 j).kind, .int .i64 (T1 j).sub, .int .i64 (T1 j).d.k, .int .i64 (T1 j).d.n, .int .i32 (T1 j).d.v, .int .i64 (T1 j).a.k, .int .i64 (T1 j).a.n, .int .i32 (T1 j).a.v, .int .i64 (T1 j).b.k, .int .i64 (T1 j).b.n, .int .i32 (T1 j).b.v, .int .i64 (T1 j).t0, .int .i64 (T1 j).t1], .agg #[.slice (IA2 j) (IL2 j) (IC2 j), .int .i64 (T2 j).kind, .int .i64 (T2 j).sub, .int .i64 (T2 j).d.k, .int .i64 (T2 j).d.n, .int .i32 (T2 j).d.v, .int .i64 (T2 j).a.k, .int .i64 (T2 j).a.n, .int .i32 (T2 j).a.v, .int .i64 (T2 j).b.k, .int .i64 (T2 j).b.n, .int .i32 (T2 j).b.v, .int .i64 (T2 j).t0, .int .i64 (T2 j).t1]] W fun e w' => e = .returned (.bool (a j)) ∧ Below W.heap.size W w' from by
    rw [← haa]
    exact SameBlock_any (IL1 j) (IC1 j) (IL2 j) (IC2 j) (IA1 j) (IA2 j) (I1 j) (I2 j) (T1 j) (T2 j) W (hi1 j hj).2 (hi2 j hj).2 ((hi1 j hj).1.to hW) ((hi2 j hj).1.to hW)))
  rw [haa]
  have HN := Lib.hid (fun (k : Nat) (hk : k < k1) (e : a k = false) => show (List.range k1).all a = false from by rw [Bool.eq_false_iff, ne_eq, List.all_eq_true]; exact fun hh => by have := hh k (by simpa using hk); rw [e] at this; cases this)
  have HT := Lib.hid (fun (h1 : ∀ j, j < k1 → a j = true) => show (List.range k1).all a = true from List.all_eq_true.2 (fun j hj => h1 j (by simpa using hj)))
  obtain ⟨res, hres⟩ : ∃ res, (List.range k1).all a = res := ⟨_, rfl⟩
  rw [hres] at HN HT ⊢
  have HR1 := Lib.hid hb1; have HR2 := Lib.hid hb2
  clear hb1 hb2 hi1 hi2 hres haa
  go_enter Tryz.func33, Tryz.ntmps33
  go_wp2_with (go_at_call 63; (with_reducible refine (HH.out _ ?_).mono ?_); exact (Below.refl _ _).alloc (Nat.le_refl _) _ |>.alloc (by simp) _; rintro e w1 ⟨rfl, hb1⟩; obtain ⟨q0, q1, hbw⟩ := HBX.out w1 hb1; have HB1 := Lib.hid hbw; clear hb1 hbw)
  go_loopw [5] (fun i wr => ∃ k : Nat, k ≤ k1 ∧ i = .int .i64 k ∧ Hid (∀ j, j < k → a j = true) ∧ Hid (Below w.heap.size w wr) ∧ wr.cell? ⟨w.heap.size, 7, none⟩ = some (.slice B1 k1 e1) ∧ wr.cell? ⟨w.heap.size + 1, 7, none⟩ = some (.slice B2 k1 e2) ∧ w.heap.size + 2 ≤ wr.heap.size) (fun i _ => k1 - (intOf i).toNat)
  case atStart => exact ⟨0, Nat.zero_le _, rfl, Lib.hid (fun j hj => absurd hj (by omega)), HB1, q0, q1, by have := World.block_lt_of_cell? _ _ q1; show w.heap.size + 1 < _; exact this⟩
  case round =>
    clear q0 q1 HB1
    obtain ⟨k, hk, rfl, hall, HBe, q0, q1, hsz⟩ := hrel
    by_cases hlt : k < k1
    · obtain ⟨b1, o1, rfl, _, hc1⟩ := (HR1.out.below HBe.out) (by omega)
      obtain ⟨b2, o2, rfl, _, hc2⟩ := (HR2.out.below HBe.out) (by omega)
      obtain ⟨x0, x1, x2, x3, x4, x5, x6, x7, x8, x9, x10, x11, x12, x13⟩ := hc1 k hlt
      obtain ⟨y0, y1, y2, y3, y4, y5, y6, y7, y8, y9, y10, y11, y12, y13⟩ := hc2 k hlt
      clear hc1 hc2
      have HSK := Lib.hid (HSB.out k hlt wr.drew (below_drewN HBe.out 1))
      have HQ := Lib.hid (fun (w2 : World) (hb : Below wr.heap.size wr.drew w2) => (show w2.cell? ⟨w.heap.size, 7, none⟩ = some (.slice (some ⟨b1, o1, none⟩) k1 e1) ∧ w2.cell? ⟨w.heap.size + 1, 7, none⟩ = some (.slice (some ⟨b2, o2, none⟩) k1 e2) from ⟨(hb.cell (p := ⟨w.heap.size, 7, none⟩) (by show w.heap.size < _; omega)).trans q0, (hb.cell (p := ⟨w.heap.size + 1, 7, none⟩) (by show w.heap.size + 1 < _; omega)).trans q1⟩))
      cases ht : a k
      · have HX : Hid (res = false) := Lib.hid (HN.out k hlt ht)
        rw [ht] at HSK
        clear ht
        go_wp2
        go_region_with (first | (go_at_call 64; (with_reducible refine HSK.out.mono ?_); rintro e w2 ⟨rfl, hb2⟩; have HB2 := Lib.hid hb2; clear hb2))
        all_goals
          go_wp2
          go_ret
          exact ⟨by rw [HX.out]; rfl, (below_drewN HBe.out 1).trans (HB2.out.mono HBe.out.size)⟩
      · have HAll : Hid (∀ j, j < k + 1 → a j = true) := Lib.hid (fun j hj => by
          by_cases e : j = k
          · subst e; exact ht
          · exact hall.out j (by omega))
        rw [ht] at HSK
        clear ht hall
        go_wp2
        go_region_with (first | (go_at_call 64; (with_reducible refine HSK.out.mono ?_); rintro e w2 ⟨rfl, hb2⟩; have HB2 := Lib.hid hb2; clear hb2))
        all_goals
          go_wp2
          go_roundw
          case rel => exact ⟨k + 1, by omega, by go_num, HAll, Lib.hid ((below_drewN HBe.out 1).trans (HB2.out.mono HBe.out.size)), (HQ.out _ HB2.out).1, (HQ.out _ HB2.out).2, by have := HB2.out.size; have h0 : wr.drew.heap.size = wr.heap.size := rfl; omega⟩
          case measure => simp [intOf]; omega
    · obtain rfl : k = k1 := by omega
      have HX : Hid (res = true) := Lib.hid (HT.out hall.out)
      go_wp2
      go_ret
      exact ⟨by rw [HX.out]; rfl, HBe.out⟩
end
end Go.Proofs.YtkncilgmlkeifaaGreatDoor
