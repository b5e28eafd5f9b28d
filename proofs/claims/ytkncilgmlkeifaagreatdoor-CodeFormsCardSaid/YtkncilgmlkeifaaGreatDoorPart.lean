/-
  Package code: contracts of isValue, set.has, isIndex, instParts, endParts.
-/
import Derived.Test.YtkncilgmlkeifaaGreatDoorOpd
set_option linter.unusedVariables false
set_option linter.unusedSimpArgs false
namespace Go.Proofs.YtkncilgmlkeifaaGreatDoor
open Go.ChangeShapes Go.WideShapes Go.ChangeAt Go.RowKit Go.Shelf

section
variable (g s r sl p : Int) (n1 c1 n2 c2 n3 c3 : Nat) (A1 A2 A3 : Option Addr)
/-- The operand is a value. -/
def valB (r : Int) (o : OpdV) : Bool := (decide (o.k = 1) && decide (o.n = 0)) || regB r o
set_option maxRecDepth 100000 in
theorem isValue_any (k n v : Int) (w : World) (r0 : 0 ≤ r) (r1 : r ≤ 9223372036854775807) :
    Calls Tryz.prog 170 #[.agg #[.int .i64 g, .int .i64 s, .int .i64 r, .int .i64 sl, .int .i64 p, .slice A1 n1 c1, .slice A2 n2 c2, .slice A3 n3 c3], .agg #[.int .i64 k, .int .i64 n, .int .i32 v]] w fun e w' => e = .returned (.bool (valB r ⟨k, n, v⟩)) ∧ Below w.heap.size w w' := by
  have H2 := Lib.hid (fun W => isRegister_any g s r sl p n1 c1 n2 c2 n3 c3 A1 A2 A3 k n v W r0 r1)
  have hb : ∀ o o', Below w.heap.size w ((w.alloc o).alloc o') := fun o o' => ((Below.refl _ _).alloc (Nat.le_refl _) o).alloc (by simp) o'
  have HB := Lib.hid hb
  unfold valB
  clear hb
  obtain ⟨rb, hrb⟩ : ∃ rb, regB r ⟨k, n, v⟩ = rb := ⟨_, rfl⟩
  rw [hrb] at H2 ⊢
  clear hrb
  by_cases hk : k = 1
  · subst hk
    by_cases hv : n = 0
    · subst hv
      simp only [decide_true, Bool.true_and, Bool.true_or]
      go_enter Tryz.func170, Tryz.ntmps170
      go_wp2
      go_ret
      exact ⟨rfl, HB.out _ _⟩
    · simp only [decide_eq_false hv, Bool.and_false, Bool.false_or]
      have hv2 : (n == 0) = false := by simpa using hv
      go_enter Tryz.func170, Tryz.ntmps170
      go_wp2_with (go_at_call 169; (with_reducible refine (H2.out _).mono ?_); rintro e w1 ⟨rfl, hb1⟩; have HB1 := Lib.hid ((HB.out _ _).trans (hb1.mono (by simp; omega))); clear hb1)
      go_ret
      exact ⟨rfl, HB1.out⟩
  · simp only [decide_eq_false hk, Bool.false_and, Bool.false_or]
    have hk2 : (k == 1) = false := by simpa using hk
    go_enter Tryz.func170, Tryz.ntmps170
    go_wp2_with (go_at_call 169; (with_reducible refine (H2.out _).mono ?_); rintro e w1 ⟨rfl, hb1⟩; have HB1 := Lib.hid ((HB.out _ _).trans (hb1.mono (by simp; omega))); clear hb1)
    go_ret
    exact ⟨rfl, HB1.out⟩
end
/-- The parts of an instruction or an end: sub, n, d, a, b, c, to. -/
structure PartV where
  sub : Int
  n : Int
  d : OpdV
  a : OpdV
  b : OpdV
  c : OpdV
  t0 : Int
  t1 : Int
def PartV.val (q : PartV) : Value := .agg #[.int .i64 q.sub, .int .i64 q.n, .int .i64 q.d.k, .int .i64 q.d.n, .int .i32 q.d.v, .int .i64 q.a.k, .int .i64 q.a.n, .int .i32 q.a.v, .int .i64 q.b.k, .int .i64 q.b.n, .int .i32 q.b.v, .int .i64 q.c.k, .int .i64 q.c.n, .int .i32 q.c.v, .int .i64 q.t0, .int .i64 q.t1]
def InstV.val (i : InstV) : Value := .agg #[.int .i64 i.op, .int .i64 i.sub, .int .i64 i.n, .int .i64 i.d.k, .int .i64 i.d.n, .int .i32 i.d.v, .int .i64 i.a.k, .int .i64 i.a.n, .int .i32 i.a.v, .int .i64 i.b.k, .int .i64 i.b.n, .int .i32 i.b.v, .int .i64 i.c.k, .int .i64 i.c.n, .int .i32 i.c.v]
def TermV.val (t : TermV) : Value := .agg #[.int .i64 t.kind, .int .i64 t.sub, .int .i64 t.d.k, .int .i64 t.d.n, .int .i32 t.d.v, .int .i64 t.a.k, .int .i64 t.a.n, .int .i32 t.a.v, .int .i64 t.b.k, .int .i64 t.b.n, .int .i32 t.b.v, .int .i64 t.t0, .int .i64 t.t1]
def noOpd : OpdV := ⟨0, 0, 0⟩
def InstV.parts (i : InstV) : PartV := ⟨i.sub, i.n, i.d, i.a, i.b, i.c, 0, 0⟩
def TermV.parts (t : TermV) : PartV := ⟨t.sub, 0, t.d, t.a, t.b, noOpd, t.t0, t.t1⟩
set_option maxRecDepth 100000 in
theorem instParts_any (i : InstV) (w : World) : Calls Tryz.prog 88 #[i.val] w fun e w' => e = .returned i.parts.val ∧ Below w.heap.size w w' := by
  obtain ⟨op, sub, n, ⟨dk, dn, dv⟩, ⟨ak, an, av⟩, ⟨bk, bn, bv⟩, ⟨ck, cn, cv⟩⟩ := i
  simp only [InstV.val, InstV.parts, PartV.val]
  go_enter Tryz.func88, Tryz.ntmps88
  go_wp2
  exact bodyPost_ret (v := .agg #[.int .i64 sub, .int .i64 n, .int .i64 dk, .int .i64 dn, .int .i32 dv, .int .i64 ak, .int .i64 an, .int .i32 av, .int .i64 bk, .int .i64 bn, .int .i32 bv, .int .i64 ck, .int .i64 cn, .int .i32 cv, .int .i64 0, .int .i64 0]) (by simp [results, Tryz.results88, go_sem]) rfl ⟨rfl, ((Below.refl _ _).alloc (Nat.le_refl _) _).alloc (by simp) _⟩
set_option maxRecDepth 100000 in
theorem endParts_any (t : TermV) (w : World) : Calls Tryz.prog 89 #[t.val] w fun e w' => e = .returned t.parts.val ∧ Below w.heap.size w w' := by
  obtain ⟨kind, sub, ⟨dk, dn, dv⟩, ⟨ak, an, av⟩, ⟨bk, bn, bv⟩, t0, t1⟩ := t
  simp only [TermV.val, TermV.parts, PartV.val, noOpd]
  go_enter Tryz.func89, Tryz.ntmps89
  go_wp2
  exact bodyPost_ret (v := .agg #[.int .i64 sub, .int .i64 0, .int .i64 dk, .int .i64 dn, .int .i32 dv, .int .i64 ak, .int .i64 an, .int .i32 av, .int .i64 bk, .int .i64 bn, .int .i32 bv, .int .i64 0, .int .i64 0, .int .i32 0, .int .i64 t0, .int .i64 t1]) (by simp [results, Tryz.results89, go_sem]) rfl ⟨rfl, ((Below.refl _ _).alloc (Nat.le_refl _) _).alloc (by simp) _⟩
end Go.Proofs.YtkncilgmlkeifaaGreatDoor
