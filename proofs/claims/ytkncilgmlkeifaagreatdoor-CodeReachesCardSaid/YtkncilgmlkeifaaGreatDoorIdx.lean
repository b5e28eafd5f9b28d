import Derived.Test.YtkncilgmlkeifaaGreatDoorForm
/-
  Package code: contracts of isTarget, isLoop, isRegister, isValue.
-/
set_option linter.unusedVariables false
set_option linter.unusedSimpArgs false
namespace Go.Proofs.YtkncilgmlkeifaaGreatDoor
open Go.ChangeShapes Go.WideShapes Go.ChangeAt Go.RowKit Go.Shelf

section
variable (g s r sl p : Int) (n1 c1 n2 c2 n3 c3 : Nat) (A1 A2 A3 : Option Addr)
theorem isTarget_any (n : Int) (w : World) (h3 : n3 ≤ 65536) :
    Calls Tryz.prog 129 #[.agg #[.int .i64 g, .int .i64 s, .int .i64 r, .int .i64 sl, .int .i64 p, .slice A1 n1 c1, .slice A2 n2 c2, .slice A3 n3 c3], .int .i64 n] w fun e w' => e = .returned (.bool (wthB n 0 ((n3 : Int) - 1))) ∧ Below w.heap.size w w' := by
  have H := Lib.hid (fun W => within_any n 0 ((n3 : Int) - 1) W)
  go_enter Tryz.func129, Tryz.ntmps129
  go_wp2_with (go_at_call 56; (with_reducible refine (H.out _).mono ?_); rintro e w' ⟨rfl, rfl⟩)
  go_ret
  exact ⟨rfl, (Below.refl _ _).alloc (Nat.le_refl _) _⟩
def loopB (r : Int) (n3 : Nat) (hd rg bd : Int) : Bool := wthB hd 0 ((n3 : Int) - 1) && (wthB rg 0 (r - 1) && wthB bd 1 1024)
set_option maxRecDepth 100000 in
theorem isLoop_any (hd rg bd : Int) (w : World) (h3 : n3 ≤ 65536) (r0 : 0 ≤ r) (r1 : r ≤ 9223372036854775807) :
    Calls Tryz.prog 98 #[.agg #[.int .i64 g, .int .i64 s, .int .i64 r, .int .i64 sl, .int .i64 p, .slice A1 n1 c1, .slice A2 n2 c2, .slice A3 n3 c3], .agg #[.int .i64 hd, .int .i64 rg, .int .i64 bd]] w fun e w' => e = .returned (.bool (loopB r n3 hd rg bd)) ∧ Below w.heap.size w w' := by
  have H1 := fun W => isTarget_any g s r sl p n1 c1 n2 c2 n3 c3 A1 A2 A3 hd W h3
  have H2 := fun W => within_any rg 0 (r - 1) W
  have H3 := fun W => within_any bd 1 1024 W
  have hb : ∀ o o', Below w.heap.size w ((w.alloc o).alloc o') := fun o o' => ((Below.refl _ _).alloc (Nat.le_refl _) o).alloc (by simp) o'
  have HB := Lib.hid hb
  unfold loopB
  clear hb
  cases h1 : wthB hd 0 ((n3 : Int) - 1)
  · rw [h1] at H1; rw [Bool.false_and]
    have G1 := Lib.hid H1; clear H1 H2 H3 h1
    go_enter Tryz.func98, Tryz.ntmps98
    go_wp2_with (go_at_call 129; (with_reducible refine (G1.out _).mono ?_); rintro e w1 ⟨rfl, hb1⟩; have HB1 := Lib.hid ((HB.out _ _).trans (hb1.mono (by simp; omega))); clear hb1)
    go_ret
    exact ⟨rfl, HB1.out⟩
  · rw [h1] at H1; rw [Bool.true_and]
    cases h2 : wthB rg 0 (r - 1)
    · rw [h2] at H2; rw [Bool.false_and]
      have G1 := Lib.hid H1; have G2 := Lib.hid H2; clear H1 H2 H3 h1 h2
      go_enter Tryz.func98, Tryz.ntmps98
      go_wp2_with (first | (go_at_call 129; (with_reducible refine (G1.out _).mono ?_); rintro e w1 ⟨rfl, hb1⟩; obtain ⟨hc, _⟩ := bcell hb1; have HB1 := Lib.hid ((HB.out _ _).trans (hb1.mono (by simp; omega))); clear hb1) | (go_at_call 56; (with_reducible refine (G2.out _).mono ?_); rintro e w' ⟨rfl, rfl⟩))
      go_ret
      exact ⟨rfl, HB1.out⟩
    · rw [h2] at H2; rw [Bool.true_and]
      obtain ⟨b3, hb3⟩ : ∃ b3, wthB bd 1 1024 = b3 := ⟨_, rfl⟩
      rw [hb3] at H3 ⊢
      have G1 := Lib.hid H1; have G2 := Lib.hid H2; have G3 := Lib.hid H3; clear H1 H2 H3 h1 h2 hb3
      go_enter Tryz.func98, Tryz.ntmps98
      go_wp2_with (first | (go_at_call 129; (with_reducible refine (G1.out _).mono ?_); rintro e w1 ⟨rfl, hb1⟩; obtain ⟨hc, _⟩ := bcell hb1; have HB1 := Lib.hid ((HB.out _ _).trans (hb1.mono (by simp; omega))); clear hb1) | (go_at_call 56; (with_reducible refine (G2.out _).mono ?_); rintro e w' ⟨rfl, rfl⟩) | (go_at_call 56; (with_reducible refine (G3.out _).mono ?_); rintro e w' ⟨rfl, rfl⟩))
      go_ret
      exact ⟨rfl, HB1.out⟩
/-- The operand is a register. -/
def regB (r : Int) (o : OpdV) : Bool := decide (o.k = 2) && (decide (o.v = 0) && wthB o.n 0 (r - 1))
set_option maxRecDepth 100000 in
theorem isRegister_any (k n v : Int) (w : World) (r0 : 0 ≤ r) (r1 : r ≤ 9223372036854775807) :
    Calls Tryz.prog 169 #[.agg #[.int .i64 g, .int .i64 s, .int .i64 r, .int .i64 sl, .int .i64 p, .slice A1 n1 c1, .slice A2 n2 c2, .slice A3 n3 c3], .agg #[.int .i64 k, .int .i64 n, .int .i32 v]] w fun e w' => e = .returned (.bool (regB r ⟨k, n, v⟩)) ∧ Below w.heap.size w w' := by
  have H2 := Lib.hid (fun W => within_any n 0 (r - 1) W)
  have hb : ∀ o o', Below w.heap.size w ((w.alloc o).alloc o') := fun o o' => ((Below.refl _ _).alloc (Nat.le_refl _) o).alloc (by simp) o'
  have HB := Lib.hid hb
  unfold regB
  clear hb
  by_cases hk : k = 2
  · subst hk
    by_cases hv : v = 0
    · subst hv
      simp only [decide_true, Bool.true_and]
      go_enter Tryz.func169, Tryz.ntmps169
      go_wp2_with (go_at_call 56; (with_reducible refine (H2.out _).mono ?_); rintro e w' ⟨rfl, rfl⟩)
      go_ret
      exact ⟨rfl, HB.out _ _⟩
    · simp only [decide_eq_false hv, Bool.false_and, Bool.and_false]
      have hv2 : (v == 0) = false := by simpa using hv
      go_enter Tryz.func169, Tryz.ntmps169
      go_wp2_with (go_at_call 56; (with_reducible refine (H2.out _).mono ?_); rintro e w' ⟨rfl, rfl⟩)
      go_ret
      exact ⟨rfl, HB.out _ _⟩
  · simp only [decide_eq_false hk, Bool.false_and]
    have hk2 : (k == 2) = false := by simpa using hk
    go_enter Tryz.func169, Tryz.ntmps169
    go_wp2_with (go_at_call 56; (with_reducible refine (H2.out _).mono ?_); rintro e w' ⟨rfl, rfl⟩)
    go_ret
    exact ⟨rfl, HB.out _ _⟩
end
end Go.Proofs.YtkncilgmlkeifaaGreatDoor
/-
  Package code: contracts of isValue, set.has, isIndex, instParts, endParts.
-/
set_option linter.unusedVariables false
set_option linter.unusedSimpArgs false
namespace Go.Proofs.YtkncilgmlkeifaaGreatDoor
open Go.ChangeShapes Go.WideShapes Go.ChangeAt Go.RowKit Go.Shelf

section
variable (g s r sl p : Int) (n1 c1 n2 c2 n3 c3 : Nat) (A1 A2 A3 : Option Addr)
/-- The operand is a value. -/
def valB (r : Int) (o : OpdV) : Bool := (decide (o.k = 1) && decide (o.n = 0)) || regB r o
set_option maxRecDepth 100000 in
theorem isValue_any (k n v : Int) (w : World) (r0 : 0 ≤ r) (r1 : r ≤ 9223372036854775807) :
    Calls Tryz.prog 170 #[.agg #[.int .i64 g, .int .i64 s, .int .i64 r, .int .i64 sl, .int .i64 p, .slice A1 n1 c1, .slice A2 n2 c2, .slice A3 n3 c3], .agg #[.int .i64 k, .int .i64 n, .int .i32 v]] w fun e w' => e = .returned (.bool (valB r ⟨k, n, v⟩)) ∧ Below w.heap.size w w' := by
  have H2 := Lib.hid (fun W => isRegister_any g s r sl p n1 c1 n2 c2 n3 c3 A1 A2 A3 k n v W r0 r1)
  have hb : ∀ o o', Below w.heap.size w ((w.alloc o).alloc o') := fun o o' => ((Below.refl _ _).alloc (Nat.le_refl _) o).alloc (by simp) o'
  have HB := Lib.hid hb
  unfold valB
  clear hb
  obtain ⟨rb, hrb⟩ : ∃ rb, regB r ⟨k, n, v⟩ = rb := ⟨_, rfl⟩
  rw [hrb] at H2 ⊢
  clear hrb
  by_cases hk : k = 1
  · subst hk
    by_cases hv : n = 0
    · subst hv
      simp only [decide_true, Bool.true_and, Bool.true_or]
      go_enter Tryz.func170, Tryz.ntmps170
      go_wp2
      go_ret
      exact ⟨rfl, HB.out _ _⟩
    · simp only [decide_eq_false hv, Bool.and_false, Bool.false_or]
      have hv2 : (n == 0) = false := by simpa using hv
      go_enter Tryz.func170, Tryz.ntmps170
      go_wp2_with (go_at_call 169; (with_reducible refine (H2.out _).mono ?_); rintro e w1 ⟨rfl, hb1⟩; have HB1 := Lib.hid ((HB.out _ _).trans (hb1.mono (by simp; omega))); clear hb1)
      go_ret
      exact ⟨rfl, HB1.out⟩
  · simp only [decide_eq_false hk, Bool.false_and, Bool.false_or]
    have hk2 : (k == 1) = false := by simpa using hk
    go_enter Tryz.func170, Tryz.ntmps170
    go_wp2_with (go_at_call 169; (with_reducible refine (H2.out _).mono ?_); rintro e w1 ⟨rfl, hb1⟩; have HB1 := Lib.hid ((HB.out _ _).trans (hb1.mono (by simp; omega))); clear hb1)
    go_ret
    exact ⟨rfl, HB1.out⟩
end
/-- The parts of an instruction or an end: sub, n, d, a, b, c, to. -/
structure PartV where
  sub : Int
  n : Int
  d : OpdV
  a : OpdV
  b : OpdV
  c : OpdV
  t0 : Int
  t1 : Int
def PartV.val (q : PartV) : Value := .agg #[.int .i64 q.sub, .int .i64 q.n, .int .i64 q.d.k, .int .i64 q.d.n, .int .i32 q.d.v, .int .i64 q.a.k, .int .i64 q.a.n, .int .i32 q.a.v, .int .i64 q.b.k, .int .i64 q.b.n, .int .i32 q.b.v, .int .i64 q.c.k, .int .i64 q.c.n, .int .i32 q.c.v, .int .i64 q.t0, .int .i64 q.t1]
def InstV.val (i : InstV) : Value := .agg #[.int .i64 i.op, .int .i64 i.sub, .int .i64 i.n, .int .i64 i.d.k, .int .i64 i.d.n, .int .i32 i.d.v, .int .i64 i.a.k, .int .i64 i.a.n, .int .i32 i.a.v, .int .i64 i.b.k, .int .i64 i.b.n, .int .i32 i.b.v, .int .i64 i.c.k, .int .i64 i.c.n, .int .i32 i.c.v]
def TermV.val (t : TermV) : Value := .agg #[.int .i64 t.kind, .int .i64 t.sub, .int .i64 t.d.k, .int .i64 t.d.n, .int .i32 t.d.v, .int .i64 t.a.k, .int .i64 t.a.n, .int .i32 t.a.v, .int .i64 t.b.k, .int .i64 t.b.n, .int .i32 t.b.v, .int .i64 t.t0, .int .i64 t.t1]
def noOpd : OpdV := ⟨0, 0, 0⟩
def InstV.parts (i : InstV) : PartV := ⟨i.sub, i.n, i.d, i.a, i.b, i.c, 0, 0⟩
def TermV.parts (t : TermV) : PartV := ⟨t.sub, 0, t.d, t.a, t.b, noOpd, t.t0, t.t1⟩
set_option maxRecDepth 100000 in
theorem instParts_any (i : InstV) (w : World) : Calls Tryz.prog 88 #[i.val] w fun e w' => e = .returned i.parts.val ∧ Below w.heap.size w w' := by
  obtain ⟨op, sub, n, ⟨dk, dn, dv⟩, ⟨ak, an, av⟩, ⟨bk, bn, bv⟩, ⟨ck, cn, cv⟩⟩ := i
  simp only [InstV.val, InstV.parts, PartV.val]
  go_enter Tryz.func88, Tryz.ntmps88
  go_wp2
  exact bodyPost_ret (v := .agg #[.int .i64 sub, .int .i64 n, .int .i64 dk, .int .i64 dn, .int .i32 dv, .int .i64 ak, .int .i64 an, .int .i32 av, .int .i64 bk, .int .i64 bn, .int .i32 bv, .int .i64 ck, .int .i64 cn, .int .i32 cv, .int .i64 0, .int .i64 0]) (by simp [results, Tryz.results88, go_sem]) rfl ⟨rfl, ((Below.refl _ _).alloc (Nat.le_refl _) _).alloc (by simp) _⟩
set_option maxRecDepth 100000 in
theorem endParts_any (t : TermV) (w : World) : Calls Tryz.prog 89 #[t.val] w fun e w' => e = .returned t.parts.val ∧ Below w.heap.size w w' := by
  obtain ⟨kind, sub, ⟨dk, dn, dv⟩, ⟨ak, an, av⟩, ⟨bk, bn, bv⟩, t0, t1⟩ := t
  simp only [TermV.val, TermV.parts, PartV.val, noOpd]
  go_enter Tryz.func89, Tryz.ntmps89
  go_wp2
  exact bodyPost_ret (v := .agg #[.int .i64 sub, .int .i64 0, .int .i64 dk, .int .i64 dn, .int .i32 dv, .int .i64 ak, .int .i64 an, .int .i32 av, .int .i64 bk, .int .i64 bn, .int .i32 bv, .int .i64 0, .int .i64 0, .int .i32 0, .int .i64 t0, .int .i64 t1]) (by simp [results, Tryz.results89, go_sem]) rfl ⟨rfl, ((Below.refl _ _).alloc (Nat.le_refl _) _).alloc (by simp) _⟩
end Go.Proofs.YtkncilgmlkeifaaGreatDoor
/-
  Package code: contracts of set.has and isIndex.
-/
set_option linter.unusedVariables false
set_option linter.unusedSimpArgs false
namespace Go.Proofs.YtkncilgmlkeifaaGreatDoor
open Go.ChangeShapes Go.WideShapes Go.ChangeAt Go.RowKit Go.Shelf

/-- The set holds n. -/
def hasB (m n : Int) : Bool := wthB n 0 31 && (bits BinOp.and IntKind.u32 (m / 2 ^ n.toNat) 1 == 1)
set_option maxRecDepth 100000 in
theorem setHas_any (m n : Int) (w : World) (m0 : 0 ≤ m) (m1 : m < 4294967296) : Calls Tryz.prog 167 #[.int .u32 m, .int .i64 n] w fun e w' => e = .returned (.bool (hasB m n)) ∧ w = w' := by
  have H := fun W => within_any n 0 31 W
  unfold hasB
  cases h : wthB n 0 31
  · rw [h] at H; rw [Bool.false_and]
    have G := Lib.hid H; clear H h
    go_enter Tryz.func167, Tryz.ntmps167
    go_wp2_with (go_at_call 56; (with_reducible refine (G.out _).mono ?_); rintro e w' ⟨rfl, rfl⟩)
    go_ret
    exact ⟨rfl, rfl⟩
  · have hh := h
    unfold wthB at hh
    simp only [Bool.and_eq_true, decide_eq_true_eq] at hh
    obtain ⟨h0, h1⟩ := hh
    obtain ⟨k, rfl⟩ : ∃ k : Nat, n = (k : Int) := ⟨n.toNat, by omega⟩
    rw [h] at H; rw [Bool.true_and, Int.toNat_natCast]
    have hk : k < 32 := by omega
    have G := Lib.hid H; clear H h
    obtain ⟨b, hb⟩ : ∃ b, (bits BinOp.and IntKind.u32 (m / 2 ^ k) 1 == 1) = b := ⟨_, rfl⟩
    rw [hb]
    go_enter Tryz.func167, Tryz.ntmps167
    go_wp2_with (go_at_call 56; (with_reducible refine (G.out _).mono ?_); rintro e w' ⟨rfl, rfl⟩)
    go_ret
    exact ⟨ret_b (by first | rfl | simp [hb]), rfl⟩
section
variable (g s r sl p : Int) (n1 c1 n2 c2 n3 c3 : Nat) (A1 A2 A3 : Option Addr) (nm : Nat → ByteArray) (sp ty ln : Nat → Int)
/-- The index fits to the table: parameters, slots, arrays, arrays that are not private. -/
def idxB (p sl : Int) (n1 : Nat) (sp : Nat → Int) (t n : Int) : Bool :=
  if t = 1 then wthB n 0 (p - 1) else if t = 4 then wthB n 0 (sl - 1) else wthB n 0 ((n1 : Int) - 1) && (decide (t = 2) || !decide (sp n.toNat = 3))
set_option maxRecDepth 100000 in
set_option maxHeartbeats 1000000 in
theorem isIndex_any (t n : Int) (w : World) (ht : 1 ≤ t ∧ t ≤ 4) (p0 : 0 ≤ p) (p1 : p ≤ 9223372036854775807) (s0 : 0 ≤ sl) (s1 : sl ≤ 9223372036854775807) (hn : n1 ≤ 65536) (hr : RAr w w.heap.size A1 n1 nm sp ty ln) :
    Calls Tryz.prog 168 #[.agg #[.int .i64 g, .int .i64 s, .int .i64 r, .int .i64 sl, .int .i64 p, .slice A1 n1 c1, .slice A2 n2 c2, .slice A3 n3 c3], .int .i64 t, .int .i64 n] w fun e w' => e = .returned (.bool (idxB p sl n1 sp t n)) ∧ Below w.heap.size w w' := by
  have hb : ∀ o, Below w.heap.size w (w.alloc o) := fun o => (Below.refl _ _).alloc (Nat.le_refl _) o
  have HB := Lib.hid hb
  have HP := Lib.hid (fun W => within_any n 0 (p - 1) W)
  have HS := Lib.hid (fun W => within_any n 0 (sl - 1) W)
  have HA := fun W => within_any n 0 ((n1 : Int) - 1) W
  clear hb
  have hcs : t = 1 ∨ t = 4 ∨ t = 2 ∨ t = 3 := by omega
  clear ht
  unfold idxB
  rcases hcs with rfl | rfl | rfl | rfl
  · rw [if_pos rfl]
    go_enter Tryz.func168, Tryz.ntmps168
    go_wp2_with (go_at_call 56; (with_reducible refine (HP.out _).mono ?_); rintro e w' ⟨rfl, rfl⟩)
    go_ret
    exact ⟨rfl, HB.out _⟩
  · rw [if_neg (by decide), if_pos rfl]
    go_enter Tryz.func168, Tryz.ntmps168
    go_wp2_with (go_at_call 56; (with_reducible refine (HS.out _).mono ?_); rintro e w' ⟨rfl, rfl⟩)
    go_ret
    exact ⟨rfl, HB.out _⟩
  · rw [if_neg (by decide), if_neg (by decide)]
    cases h : wthB n 0 ((n1 : Int) - 1)
    · rw [h] at HA; rw [Bool.false_and]
      have G := Lib.hid HA; clear HA h
      go_enter Tryz.func168, Tryz.ntmps168
      go_wp2_with (go_at_call 56; (with_reducible refine (G.out _).mono ?_); rintro e w' ⟨rfl, rfl⟩)
      go_ret
      exact ⟨rfl, HB.out _⟩
    · rw [h] at HA; rw [Bool.true_and, decide_eq_true rfl, Bool.true_or]
      have G := Lib.hid HA; clear HA h
      go_enter Tryz.func168, Tryz.ntmps168
      go_wp2_with (go_at_call 56; (with_reducible refine (G.out _).mono ?_); rintro e w' ⟨rfl, rfl⟩)
      go_ret
      exact ⟨rfl, HB.out _⟩
  · rw [if_neg (by decide), if_neg (by decide)]
    cases h : wthB n 0 ((n1 : Int) - 1)
    · rw [h] at HA; rw [Bool.false_and]
      have G := Lib.hid HA; clear HA h
      go_enter Tryz.func168, Tryz.ntmps168
      go_wp2_with (go_at_call 56; (with_reducible refine (G.out _).mono ?_); rintro e w' ⟨rfl, rfl⟩)
      go_ret
      exact ⟨rfl, HB.out _⟩
    · have hh := h
      unfold wthB at hh
      simp only [Bool.and_eq_true, decide_eq_true_eq] at hh
      obtain ⟨h0, h1⟩ := hh
      obtain ⟨k, rfl⟩ : ∃ k : Nat, n = (k : Int) := ⟨n.toNat, by omega⟩
      have hk : k < n1 := by omega
      rw [h] at HA
      have e3 : (true && (decide ((3 : Int) = 2) || !decide (sp ((k : Int)).toNat = 3))) = !decide (sp k = 3) := by rw [Int.toNat_natCast]; simp
      rw [e3]
      have G := Lib.hid HA; clear HA h e3
      obtain ⟨b, off, rfl, hlt, hc⟩ := hr (by omega)
      have hs := (hc k hk).2.1
      have hs2 : ∀ o, (w.alloc o).cell? ⟨b, off + k * 4 + 1, none⟩ = some (.int .i64 (sp k)) := fun o => (World.cell?_alloc_lt _ _ _ (by exact hlt)).trans hs
      clear hr hc hs
      by_cases h3 : sp k = 3
      · have hq : (sp k != 3) = false := by simpa using h3
        rw [decide_eq_true h3]
        have H3 := Lib.hid h3; clear h3
        go_enter Tryz.func168, Tryz.ntmps168
        go_wp2_with (go_at_call 56; (with_reducible refine (G.out _).mono ?_); rintro e w' ⟨rfl, rfl⟩)
        go_ret
        exact ⟨rfl, HB.out _⟩
      · have hq : (sp k != 3) = true := by simpa using h3
        rw [decide_eq_false h3]
        clear h3
        go_enter Tryz.func168, Tryz.ntmps168
        go_wp2_with (go_at_call 56; (with_reducible refine (G.out _).mono ?_); rintro e w' ⟨rfl, rfl⟩)
        go_ret
        exact ⟨rfl, HB.out _⟩
end
end Go.Proofs.YtkncilgmlkeifaaGreatDoor
