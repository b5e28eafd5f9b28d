/-
  The reference: the contract of SameBlock.
-/
import Derived.Test.YtkncilgmlkeifaaGreatDoorNeq
import Derived.Test.YtkncilgmlkeifaaGreatDoorAll
set_option linter.unusedVariables false
set_option linter.unusedSimpArgs false
namespace Go.Proofs.YtkncilgmlkeifaaGreatDoor
open Go.ChangeShapes Go.WideShapes Go.ChangeAt Go.RowKit Go.Shelf

def eqT (t u : TermV) : Bool := (t.kind == u.kind && (t.sub == u.sub && (t.d.k == u.d.k && (t.d.n == u.d.n && (t.d.v == u.d.v && (t.a.k == u.a.k && (t.a.n == u.a.n && (t.a.v == u.a.v && (t.b.k == u.b.k && (t.b.n == u.b.n && (t.b.v == u.b.v && (t.t0 == u.t0 && t.t1 == u.t1))))))))))))
def eqI (i j : InstV) : Bool := (i.op == j.op && (i.sub == j.sub && (i.n == j.n && (i.d.k == j.d.k && (i.d.n == j.d.n && (i.d.v == j.d.v && (i.a.k == j.a.k && (i.a.n == j.a.n && (i.a.v == j.a.v && (i.b.k == j.b.k && (i.b.n == j.b.n && (i.b.v == j.b.v && (i.c.k == j.c.k && (i.c.n == j.c.n && (i.c.v == j.c.v)))))))))))))))
theorem eqT_run (t u : TermV) (w : World) : (binOp .neq 53 (.agg #[.int .i64 t.kind, .int .i64 t.sub, .int .i64 t.d.k, .int .i64 t.d.n, .int .i32 t.d.v, .int .i64 t.a.k, .int .i64 t.a.n, .int .i32 t.a.v, .int .i64 t.b.k, .int .i64 t.b.n, .int .i32 t.b.v, .int .i64 t.t0, .int .i64 t.t1]) (.agg #[.int .i64 u.kind, .int .i64 u.sub, .int .i64 u.d.k, .int .i64 u.d.n, .int .i32 u.d.v, .int .i64 u.a.k, .int .i64 u.a.n, .int .i32 u.a.v, .int .i64 u.b.k, .int .i64 u.b.n, .int .i32 u.b.v, .int .i64 u.t0, .int .i64 u.t1])).run Tryz.prog w = .ok (.bool (!eqT t u)) w := term_neq _ _ _ _ _ _ _ _ _ _ _ _ _ _ _ _ _ _ _ _ _ _ _ _ _ _ w
theorem eqI_run (i j : InstV) (w : World) : (binOp .neq 61 (.agg #[.int .i64 i.op, .int .i64 i.sub, .int .i64 i.n, .int .i64 i.d.k, .int .i64 i.d.n, .int .i32 i.d.v, .int .i64 i.a.k, .int .i64 i.a.n, .int .i32 i.a.v, .int .i64 i.b.k, .int .i64 i.b.n, .int .i32 i.b.v, .int .i64 i.c.k, .int .i64 i.c.n, .int .i32 i.c.v]) (.agg #[.int .i64 j.op, .int .i64 j.sub, .int .i64 j.n, .int .i64 j.d.k, .int .i64 j.d.n, .int .i32 j.d.v, .int .i64 j.a.k, .int .i64 j.a.n, .int .i32 j.a.v, .int .i64 j.b.k, .int .i64 j.b.n, .int .i32 j.b.v, .int .i64 j.c.k, .int .i64 j.c.n, .int .i32 j.c.v])).run Tryz.prog w = .ok (.bool (!eqI i j)) w := inst_neq _ _ _ _ _ _ _ _ _ _ _ _ _ _ _ _ _ _ _ _ _ _ _ _ _ _ _ _ _ _ w
def sameB (n m : Nat) (I J : Nat → InstV) (t u : TermV) : Bool := decide (n = m) && (eqT t u && (List.range n).all fun j => eqI (I j) (J j))
set_option maxRecDepth 100000 in
set_option maxHeartbeats 4000000 in
theorem SameBlock_any (n c m d : Nat) (A B : Option Addr) (I J : Nat → InstV) (t u : TermV) (w : World) (hn : n ≤ 65536) (hm : m ≤ 65536) (ha : RIn w w.heap.size A n I) (hb : RIn w w.heap.size B m J) :
    Calls Tryz.prog 64 #[.agg #[.slice A n c, .int .i64 t.kind, .int .i64 t.sub, .int .i64 t.d.k, .int .i64 t.d.n, .int .i32 t.d.v, .int .i64 t.a.k, .int .i64 t.a.n, .int .i32 t.a.v, .int .i64 t.b.k, .int .i64 t.b.n, .int .i32 t.b.v, .int .i64 t.t0, .int .i64 t.t1], .agg #[.slice B m d, .int .i64 u.kind, .int .i64 u.sub, .int .i64 u.d.k, .int .i64 u.d.n, .int .i32 u.d.v, .int .i64 u.a.k, .int .i64 u.a.n, .int .i32 u.a.v, .int .i64 u.b.k, .int .i64 u.b.n, .int .i32 u.b.v, .int .i64 u.t0, .int .i64 u.t1]] w fun e w' => e = .returned (.bool (sameB n m I J t u)) ∧ Below w.heap.size w w' := by
  have hT := fun (W : World) => eqT_run t u W
  by_cases e : n = m
  · subst e
    cases et : eqT t u
    · have hs : sameB n n I J t u = false := by simp [sameB, et]
      rw [hs]
      rw [et] at hT
      clear hs et ha hb
      go_enter Tryz.func64, Tryz.ntmps64
      go_wp2
      go_ret
      exact ⟨rfl, ((Below.refl _ _).alloc (Nat.le_refl _) _).alloc (by simp) _⟩
    · have HS : Hid (sameB n n I J t u = (List.range n).all fun j => eqI (I j) (J j)) := Lib.hid (by simp [sameB, et])
      have HT := Lib.hid (fun (k : ∀ j, j < n → eqI (I j) (J j) = true) => show (List.range n).all (fun j => eqI (I j) (J j)) = true from List.all_eq_true.2 (fun j hj => k j (by simpa using hj)))
      have HN := Lib.hid (fun (k : Nat) (hk : k < n) (e : eqI (I k) (J k) = false) => show (List.range n).all (fun j => eqI (I j) (J j)) = false from by rw [Bool.eq_false_iff, ne_eq, List.all_eq_true]; exact fun hh => by have := hh k (by simpa using hk); rw [e] at this; cases this)
      obtain ⟨res, hres⟩ : ∃ res, sameB n n I J t u = res := ⟨_, rfl⟩
      have HRE : Hid ((List.range n).all (fun j => eqI (I j) (J j)) = res) := Lib.hid (HS.out.symm.trans hres)
      rw [hres]
      rw [et] at hT
      have HA := Lib.hid ha
      have HB := Lib.hid hb
      clear ha hb hres HS et
      go_enter Tryz.func64, Tryz.ntmps64
      go_wp2
      have hbel : Below w.heap.size w ((w.alloc (.cells #[.slice A n c, .int .i64 t.kind, .int .i64 t.sub, .int .i64 t.d.k, .int .i64 t.d.n, .int .i32 t.d.v, .int .i64 t.a.k, .int .i64 t.a.n, .int .i32 t.a.v, .int .i64 t.b.k, .int .i64 t.b.n, .int .i32 t.b.v, .int .i64 t.t0, .int .i64 t.t1] 55)).alloc (.cells #[.slice B n d, .int .i64 u.kind, .int .i64 u.sub, .int .i64 u.d.k, .int .i64 u.d.n, .int .i32 u.d.v, .int .i64 u.a.k, .int .i64 u.a.n, .int .i32 u.a.v, .int .i64 u.b.k, .int .i64 u.b.n, .int .i32 u.b.v, .int .i64 u.t0, .int .i64 u.t1] 55)) := ((Below.refl _ _).alloc (Nat.le_refl _) _).alloc (by simp) _
      have hk0 : ((w.alloc (.cells #[.slice A n c, .int .i64 t.kind, .int .i64 t.sub, .int .i64 t.d.k, .int .i64 t.d.n, .int .i32 t.d.v, .int .i64 t.a.k, .int .i64 t.a.n, .int .i32 t.a.v, .int .i64 t.b.k, .int .i64 t.b.n, .int .i32 t.b.v, .int .i64 t.t0, .int .i64 t.t1] 55)).alloc (.cells #[.slice B n d, .int .i64 u.kind, .int .i64 u.sub, .int .i64 u.d.k, .int .i64 u.d.n, .int .i32 u.d.v, .int .i64 u.a.k, .int .i64 u.a.n, .int .i32 u.a.v, .int .i64 u.b.k, .int .i64 u.b.n, .int .i32 u.b.v, .int .i64 u.t0, .int .i64 u.t1] 55)).cell? ⟨w.heap.size, 0, none⟩ = some (.slice A n c) := by
        have hk : ((w.alloc (.cells #[.slice A n c, .int .i64 t.kind, .int .i64 t.sub, .int .i64 t.d.k, .int .i64 t.d.n, .int .i32 t.d.v, .int .i64 t.a.k, .int .i64 t.a.n, .int .i32 t.a.v, .int .i64 t.b.k, .int .i64 t.b.n, .int .i32 t.b.v, .int .i64 t.t0, .int .i64 t.t1] 55)).alloc (.cells #[.slice B n d, .int .i64 u.kind, .int .i64 u.sub, .int .i64 u.d.k, .int .i64 u.d.n, .int .i32 u.d.v, .int .i64 u.a.k, .int .i64 u.a.n, .int .i32 u.a.v, .int .i64 u.b.k, .int .i64 u.b.n, .int .i32 u.b.v, .int .i64 u.t0, .int .i64 u.t1] 55)).heap[w.heap.size]? = _ := (Below.heap_alloc _ _ _ (by simp)).trans (heap_alloc_new w _)
        simp only [World.cell?, hk]
        rfl
      have hk1 : ((w.alloc (.cells #[.slice A n c, .int .i64 t.kind, .int .i64 t.sub, .int .i64 t.d.k, .int .i64 t.d.n, .int .i32 t.d.v, .int .i64 t.a.k, .int .i64 t.a.n, .int .i32 t.a.v, .int .i64 t.b.k, .int .i64 t.b.n, .int .i32 t.b.v, .int .i64 t.t0, .int .i64 t.t1] 55)).alloc (.cells #[.slice B n d, .int .i64 u.kind, .int .i64 u.sub, .int .i64 u.d.k, .int .i64 u.d.n, .int .i32 u.d.v, .int .i64 u.a.k, .int .i64 u.a.n, .int .i32 u.a.v, .int .i64 u.b.k, .int .i64 u.b.n, .int .i32 u.b.v, .int .i64 u.t0, .int .i64 u.t1] 55)).cell? ⟨w.heap.size + 1, 0, none⟩ = some (.slice B n d) := by
        have hk := heap_alloc_new (w.alloc (.cells #[.slice A n c, .int .i64 t.kind, .int .i64 t.sub, .int .i64 t.d.k, .int .i64 t.d.n, .int .i32 t.d.v, .int .i64 t.a.k, .int .i64 t.a.n, .int .i32 t.a.v, .int .i64 t.b.k, .int .i64 t.b.n, .int .i32 t.b.v, .int .i64 t.t0, .int .i64 t.t1] 55)) (.cells #[.slice B n d, .int .i64 u.kind, .int .i64 u.sub, .int .i64 u.d.k, .int .i64 u.d.n, .int .i32 u.d.v, .int .i64 u.a.k, .int .i64 u.a.n, .int .i32 u.a.v, .int .i64 u.b.k, .int .i64 u.b.n, .int .i32 u.b.v, .int .i64 u.t0, .int .i64 u.t1] 55)
        rw [World.size_alloc] at hk
        simp only [World.cell?, hk]
        rfl
      generalize ((w.alloc (.cells #[.slice A n c, .int .i64 t.kind, .int .i64 t.sub, .int .i64 t.d.k, .int .i64 t.d.n, .int .i32 t.d.v, .int .i64 t.a.k, .int .i64 t.a.n, .int .i32 t.a.v, .int .i64 t.b.k, .int .i64 t.b.n, .int .i32 t.b.v, .int .i64 t.t0, .int .i64 t.t1] 55)).alloc (.cells #[.slice B n d, .int .i64 u.kind, .int .i64 u.sub, .int .i64 u.d.k, .int .i64 u.d.n, .int .i32 u.d.v, .int .i64 u.a.k, .int .i64 u.a.n, .int .i32 u.a.v, .int .i64 u.b.k, .int .i64 u.b.n, .int .i32 u.b.v, .int .i64 u.t0, .int .i64 u.t1] 55)) = W2 at *
      have HBL := Lib.hid hbel
      clear hbel hT
      go_loopw [5] (fun i wr => ∃ k : Nat, k ≤ n ∧ i = .int .i64 k ∧ Hid (∀ j, j < k → eqI (I j) (J j) = true) ∧ Hid (Below w.heap.size w wr) ∧ wr.cell? ⟨w.heap.size, 0, none⟩ = some (.slice A n c) ∧ wr.cell? ⟨w.heap.size + 1, 0, none⟩ = some (.slice B n d)) (fun i _ => n - (intOf i).toNat)
      case atStart => exact ⟨0, Nat.zero_le _, rfl, Lib.hid (fun j hj => absurd hj (by omega)), HBL, hk0, hk1⟩
      case round =>
        obtain ⟨k, hk, rfl, hall, HBe, g0, g1⟩ := hrel
        by_cases hlt : k < n
        · obtain ⟨b1, o1, rfl, _, hc1⟩ := (HA.out.below HBe.out) (by omega)
          obtain ⟨b2, o2, rfl, _, hc2⟩ := (HB.out.below HBe.out) (by omega)
          obtain ⟨x0, x1, x2, x3, x4, x5, x6, x7, x8, x9, x10, x11, x12, x13, x14⟩ := hc1 k hlt
          obtain ⟨y0, y1, y2, y3, y4, y5, y6, y7, y8, y9, y10, y11, y12, y13, y14⟩ := hc2 k hlt
          clear hc1 hc2
          have hI := fun (W : World) => eqI_run (I k) (J k) W
          cases ht : eqI (I k) (J k)
          · have HX : Hid (res = false) := Lib.hid (HRE.out.symm.trans (HN.out k hlt ht))
            rw [ht] at hI
            clear ht
            go_wp2
            go_quiet (fail)
            go_wp2
            go_ret
            exact ⟨by rw [HX.out]; rfl, below_drewN HBe.out _⟩
          · have HAll : Hid (∀ j, j < k + 1 → eqI (I j) (J j) = true) := Lib.hid (fun j hj => by
              by_cases e : j = k
              · subst e; exact ht
              · exact hall.out j (by omega))
            rw [ht] at hI
            clear ht hall
            go_wp2
            go_quiet (fail)
            go_wp2
            go_roundw
            case rel => exact ⟨k + 1, by omega, by go_num, HAll, Lib.hid (below_drewN HBe.out _), g0, g1⟩
            case measure => simp [intOf]; omega
        · obtain rfl : k = n := by omega
          have HX : Hid (res = true) := Lib.hid (HRE.out.symm.trans (HT.out hall.out))
          go_wp2
          go_ret
          exact ⟨by rw [HX.out]; rfl, HBe.out⟩
  · have hs : sameB n m I J t u = false := by simp [sameB, e]
    rw [hs]
    have hne : ¬ ((n : Int) = (m : Int)) := by omega
    clear hs e ha hb hT
    go_enter Tryz.func64, Tryz.ntmps64
    go_wp2
    go_ret
    exact ⟨rfl, ((Below.refl _ _).alloc (Nat.le_refl _) _).alloc (by simp) _⟩
end Go.Proofs.YtkncilgmlkeifaaGreatDoor
