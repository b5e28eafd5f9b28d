import Derived.Test.YtkncilgmlkeifaaGreatDoorForm
/-
  Package code: contracts of isTarget, isLoop, isRegister, isValue.
-/
set_option linter.unusedVariables false
set_option linter.unusedSimpArgs false
set_option maxRecDepth 100000
set_option maxHeartbeats 2000000
namespace Go.Proofs.YtkncilgmlkeifaaGreatDoor
open Go.ChangeShapes Go.WideShapes Go.ChangeAt Go.RowKit Go.Shelf
section
variable (g s r sl p : Int) (n1 c1 n2 c2 n3 c3 : Nat) (A1 A2 A3 : Option Addr)
theorem isTarget_any (n : Int) (w : World) (h3 : n3 <= 65536) :
 Calls Tryz.prog 129 #[.agg #[g, s, r, sl, p, .slice A1 n1 c1, .slice A2 n2 c2, .slice A3 n3 c3], n] w fun e w' => e = .returned (.bool (wthB n 0 ((n3 : Int) - 1))) /\ Below w.heap.size w w' := by
 have H := lh (fun W => within_any n 0 ((n3 : Int) - 1) W)
 go_enter Tryz.func129, Tryz.ntmps129
 go_wp2_with (go_at_call 56; (with_reducible refine (H.out _).mono ?_); rintro e w' ⟨rfl, rfl⟩)
 go_ret
 exact ⟨rfl, (Below.refl _ _).alloc (Nat.le_refl _) _⟩
def loopB (r : Int) (n3 : Nat) (hd rg bd : Int) : Bool := wthB hd 0 ((n3 : Int) - 1) && (wthB rg 0 (r - 1) && wthB bd 1 1024)
theorem isLoop_any (hd rg bd : Int) (w : World) (h3 : n3 <= 65536) (r0 : 0 <= r) (r1 : r <= 9223372036854775807) :
 Calls Tryz.prog 98 #[.agg #[g, s, r, sl, p, .slice A1 n1 c1, .slice A2 n2 c2, .slice A3 n3 c3], .agg #[hd, rg, bd]] w fun e w' => e = .returned (.bool (loopB r n3 hd rg bd)) /\ Below w.heap.size w w' := by
 have H1 := fun W => isTarget_any g s r sl p n1 c1 n2 c2 n3 c3 A1 A2 A3 hd W h3
 have H2 := fun W => within_any rg 0 (r - 1) W
 have H3 := fun W => within_any bd 1 1024 W
 have hb : ∀ o o', Below w.heap.size w ((w.alloc o).alloc o') := fun o o' => ((Below.refl _ _).alloc (Nat.le_refl _) o).alloc (by simp) o'
 have HB := lh hb
 unfold loopB
 clear hb
 cases h1 : wthB hd 0 ((n3 : Int) - 1)
 . rw [h1] at H1; rw [Bool.false_and]
   have G1 := lh H1; clear H1 H2 H3 h1
   go_enter Tryz.func98, Tryz.ntmps98
   go_wp2_with (go_at_call 129; (with_reducible refine (G1.out _).mono ?_); rintro e w1 ⟨rfl, hb1⟩; have HB1 := lh ((HB.out _ _).trans (hb1.mono (by simp; omega))); clear hb1)
   go_ret
   exact ⟨rfl, HB1.out⟩
 . rw [h1] at H1; rw [Bool.true_and]
   cases h2 : wthB rg 0 (r - 1)
   . rw [h2] at H2; rw [Bool.false_and]
     have G1 := lh H1; have G2 := lh H2; clear H1 H2 H3 h1 h2
     go_enter Tryz.func98, Tryz.ntmps98
     go_wp2_with (first | (go_at_call 129; (with_reducible refine (G1.out _).mono ?_); rintro e w1 ⟨rfl, hb1⟩; obtain ⟨hc, _⟩ := bcell hb1; have HB1 := lh ((HB.out _ _).trans (hb1.mono (by simp; omega))); clear hb1) | (go_at_call 56; (with_reducible refine (G2.out _).mono ?_); rintro e w' ⟨rfl, rfl⟩))
     go_ret
     exact ⟨rfl, HB1.out⟩
   . rw [h2] at H2; rw [Bool.true_and]
     obtain ⟨b3, hb3⟩ : ∃ b3, wthB bd 1 1024 = b3 := ⟨_, rfl⟩
     rw [hb3] at H3 ⊢
     have G1 := lh H1; have G2 := lh H2; have G3 := lh H3; clear H1 H2 H3 h1 h2 hb3
     go_enter Tryz.func98, Tryz.ntmps98
     go_wp2_with (first | (go_at_call 129; (with_reducible refine (G1.out _).mono ?_); rintro e w1 ⟨rfl, hb1⟩; obtain ⟨hc, _⟩ := bcell hb1; have HB1 := lh ((HB.out _ _).trans (hb1.mono (by simp; omega))); clear hb1) | (go_at_call 56; (with_reducible first | refine (G2.out _).mono ?_ | refine (G3.out _).mono ?_); rintro e w' ⟨rfl, rfl⟩))
     go_ret
     exact ⟨rfl, HB1.out⟩
def regB (r : Int) (o : OpdV) : Bool := decide (o.k = 2) && (decide (o.v = 0) && wthB o.n 0 (r - 1))
theorem isRegister_any (k n v : Int) (w : World) (r0 : 0 <= r) (r1 : r <= 9223372036854775807) :
 Calls Tryz.prog 169 #[.agg #[g, s, r, sl, p, .slice A1 n1 c1, .slice A2 n2 c2, .slice A3 n3 c3], .agg #[k, n, .int .i32 v]] w fun e w' => e = .returned (.bool (regB r ⟨k, n, v⟩)) /\ Below w.heap.size w w' := by
 have H2 := lh (fun W => within_any n 0 (r - 1) W)
 have hb : ∀ o o', Below w.heap.size w ((w.alloc o).alloc o') := fun o o' => ((Below.refl _ _).alloc (Nat.le_refl _) o).alloc (by simp) o'
 have HB := lh hb
 unfold regB
 clear hb
 by_cases hk : k = 2
 . subst hk
   by_cases hv : v = 0
   . subst hv
     simp only [decide_true, Bool.true_and]
     go_enter Tryz.func169, Tryz.ntmps169
     go_wp2_with (go_at_call 56; (with_reducible refine (H2.out _).mono ?_); rintro e w' ⟨rfl, rfl⟩)
     go_ret
     exact ⟨rfl, HB.out _ _⟩
   . simp only [decide_eq_false hv, Bool.false_and, Bool.and_false]
     have hv2 : (v == 0) = false := by simpa using hv
     go_enter Tryz.func169, Tryz.ntmps169
     go_wp2_with (go_at_call 56; (with_reducible refine (H2.out _).mono ?_); rintro e w' ⟨rfl, rfl⟩)
     go_ret
     exact ⟨rfl, HB.out _ _⟩
 . simp only [decide_eq_false hk, Bool.false_and]
   have hk2 : (k == 2) = false := by simpa using hk
   go_enter Tryz.func169, Tryz.ntmps169
   go_wp2_with (go_at_call 56; (with_reducible refine (H2.out _).mono ?_); rintro e w' ⟨rfl, rfl⟩)
   go_ret
   exact ⟨rfl, HB.out _ _⟩
end
section
variable (g s r sl p : Int) (n1 c1 n2 c2 n3 c3 : Nat) (A1 A2 A3 : Option Addr)
def valB (r : Int) (o : OpdV) : Bool := (decide (o.k = 1) && decide (o.n = 0)) || regB r o
theorem isValue_any (k n v : Int) (w : World) (r0 : 0 <= r) (r1 : r <= 9223372036854775807) :
 Calls Tryz.prog 170 #[.agg #[g, s, r, sl, p, .slice A1 n1 c1, .slice A2 n2 c2, .slice A3 n3 c3], .agg #[k, n, .int .i32 v]] w fun e w' => e = .returned (.bool (valB r ⟨k, n, v⟩)) /\ Below w.heap.size w w' := by
 have H2 := lh (fun W => isRegister_any g s r sl p n1 c1 n2 c2 n3 c3 A1 A2 A3 k n v W r0 r1)
 have hb : ∀ o o', Below w.heap.size w ((w.alloc o).alloc o') := fun o o' => ((Below.refl _ _).alloc (Nat.le_refl _) o).alloc (by simp) o'
 have HB := lh hb
 unfold valB
 clear hb
 obtain ⟨rb, hrb⟩ : ∃ rb, regB r ⟨k, n, v⟩ = rb := ⟨_, rfl⟩
 rw [hrb] at H2 ⊢
 clear hrb
 by_cases hk : k = 1
 . subst hk
   by_cases hv : n = 0
   . subst hv
     simp only [decide_true, Bool.true_and, Bool.true_or]
     go_enter Tryz.func170, Tryz.ntmps170
     go_wp2
     go_ret
     exact ⟨rfl, HB.out _ _⟩
   . simp only [decide_eq_false hv, Bool.and_false, Bool.false_or]
     have hv2 : (n == 0) = false := by simpa using hv
     go_enter Tryz.func170, Tryz.ntmps170
     go_wp2_with (go_at_call 169; (with_reducible refine (H2.out _).mono ?_); rintro e w1 ⟨rfl, hb1⟩; have HB1 := lh ((HB.out _ _).trans (hb1.mono (by simp; omega))); clear hb1)
     go_ret
     exact ⟨rfl, HB1.out⟩
 . simp only [decide_eq_false hk, Bool.false_and, Bool.false_or]
   have hk2 : (k == 1) = false := by simpa using hk
   go_enter Tryz.func170, Tryz.ntmps170
   go_wp2_with (go_at_call 169; (with_reducible refine (H2.out _).mono ?_); rintro e w1 ⟨rfl, hb1⟩; have HB1 := lh ((HB.out _ _).trans (hb1.mono (by simp; omega))); clear hb1)
   go_ret
   exact ⟨rfl, HB1.out⟩
end
structure PartV where
 sub : Int
 n : Int
 d : OpdV
 a : OpdV
 b : OpdV
 c : OpdV
 t0 : Int
 t1 : Int
def PartV.val (q : PartV) : Value := .agg #[q.sub, q.n, q.d.k, q.d.n, .int .i32 q.d.v, q.a.k, q.a.n, .int .i32 q.a.v, q.b.k, q.b.n, .int .i32 q.b.v, q.c.k, q.c.n, .int .i32 q.c.v, q.t0, q.t1]
def InstV.val (i : InstV) : Value := .agg #[i.op, i.sub, i.n, i.d.k, i.d.n, .int .i32 i.d.v, i.a.k, i.a.n, .int .i32 i.a.v, i.b.k, i.b.n, .int .i32 i.b.v, i.c.k, i.c.n, .int .i32 i.c.v]
def TermV.val (t : TermV) : Value := .agg #[t.kind, t.sub, t.d.k, t.d.n, .int .i32 t.d.v, t.a.k, t.a.n, .int .i32 t.a.v, t.b.k, t.b.n, .int .i32 t.b.v, t.t0, t.t1]
def noOpd : OpdV := ⟨0, 0, 0⟩
def InstV.parts (i : InstV) : PartV := ⟨i.sub, i.n, i.d, i.a, i.b, i.c, 0, 0⟩
def TermV.parts (t : TermV) : PartV := ⟨t.sub, 0, t.d, t.a, t.b, noOpd, t.t0, t.t1⟩
theorem instParts_any (i : InstV) (w : World) : Calls Tryz.prog 88 #[i.val] w fun e w' => e = .returned i.parts.val /\ Below w.heap.size w w' := by
 obtain ⟨op, sub, n, ⟨dk, dn, dv⟩, ⟨ak, an, av⟩, ⟨bk, bn, bv⟩, ⟨ck, cn, cv⟩⟩ := i
 simp only [InstV.val, InstV.parts, PartV.val]
 go_enter Tryz.func88, Tryz.ntmps88
 go_wp2
 exact bodyPost_ret (v := .agg #[sub, n, dk, dn, .int .i32 dv, ak, an, .int .i32 av, bk, bn, .int .i32 bv, ck, cn, .int .i32 cv, (0:Int), (0:Int)]) (by simp [results, Tryz.results88, go_sem]) rfl ⟨rfl, ((Below.refl _ _).alloc (Nat.le_refl _) _).alloc (by simp) _⟩
theorem endParts_any (t : TermV) (w : World) : Calls Tryz.prog 89 #[t.val] w fun e w' => e = .returned t.parts.val /\ Below w.heap.size w w' := by
 obtain ⟨kind, sub, ⟨dk, dn, dv⟩, ⟨ak, an, av⟩, ⟨bk, bn, bv⟩, t0, t1⟩ := t
 simp only [TermV.val, TermV.parts, PartV.val, noOpd]
 go_enter Tryz.func89, Tryz.ntmps89
 go_wp2
 exact bodyPost_ret (v := .agg #[sub, (0:Int), dk, dn, .int .i32 dv, ak, an, .int .i32 av, bk, bn, .int .i32 bv, (0:Int), (0:Int), .int .i32 0, t0, t1]) (by simp [results, Tryz.results89, go_sem]) rfl ⟨rfl, ((Below.refl _ _).alloc (Nat.le_refl _) _).alloc (by simp) _⟩
def hasB (m n : Int) : Bool := wthB n 0 31 && (bits BinOp.and IntKind.u32 (m / 2 ^ n.toNat) 1 == 1)
theorem setHas_any (m n : Int) (w : World) (m0 : 0 <= m) (m1 : m < 4294967296) : Calls Tryz.prog 167 #[.int .u32 m, n] w fun e w' => e = .returned (.bool (hasB m n)) /\ w = w' := by
 have H := fun W => within_any n 0 31 W
 unfold hasB
 cases h : wthB n 0 31
 . rw [h] at H; rw [Bool.false_and]
   have G := lh H; clear H h
   go_enter Tryz.func167, Tryz.ntmps167
   go_wp2_with (go_at_call 56; (with_reducible refine (G.out _).mono ?_); rintro e w' ⟨rfl, rfl⟩)
   go_ret
   exact ⟨rfl, rfl⟩
 . have hh := h
   unfold wthB at hh
   simp only [Bool.and_eq_true, decide_eq_true_eq] at hh
   obtain ⟨h0, h1⟩ := hh
   obtain ⟨k, rfl⟩ : ∃ k : Nat, n = (k : Int) := ⟨n.toNat, by omega⟩
   rw [h] at H; rw [Bool.true_and, Int.toNat_natCast]
   have hk : k < 32 := by omega
   have G := lh H; clear H h
   obtain ⟨b, hb⟩ : ∃ b, (bits BinOp.and IntKind.u32 (m / 2 ^ k) 1 == 1) = b := ⟨_, rfl⟩
   rw [hb]
   go_enter Tryz.func167, Tryz.ntmps167
   go_wp2_with (go_at_call 56; (with_reducible refine (G.out _).mono ?_); rintro e w' ⟨rfl, rfl⟩)
   go_ret
   exact ⟨ret_b (by first | rfl | simp [hb]), rfl⟩
section
variable (g s r sl p : Int) (n1 c1 n2 c2 n3 c3 : Nat) (A1 A2 A3 : Option Addr) (nm : Nat -> ByteArray) (sp ty ln : Nat -> Int)
def idxB (p sl : Int) (n1 : Nat) (sp : Nat -> Int) (t n : Int) : Bool :=
 if t = 1 then wthB n 0 (p - 1) else if t = 4 then wthB n 0 (sl - 1) else wthB n 0 ((n1 : Int) - 1) && (decide (t = 2) || !decide (sp n.toNat = 3))
theorem isIndex_any (t n : Int) (w : World) (ht : 1 <= t /\ t <= 4) (p0 : 0 <= p) (p1 : p <= 9223372036854775807) (s0 : 0 <= sl) (s1 : sl <= 9223372036854775807) (hn : n1 <= 65536) (hr : RAr w w.heap.size A1 n1 nm sp ty ln) :
 Calls Tryz.prog 168 #[.agg #[g, s, r, sl, p, .slice A1 n1 c1, .slice A2 n2 c2, .slice A3 n3 c3], t, n] w fun e w' => e = .returned (.bool (idxB p sl n1 sp t n)) /\ Below w.heap.size w w' := by
 have hb : ∀ o, Below w.heap.size w (w.alloc o) := fun o => (Below.refl _ _).alloc (Nat.le_refl _) o
 have HB := lh hb
 have HP := lh (fun W => within_any n 0 (p - 1) W)
 have HS := lh (fun W => within_any n 0 (sl - 1) W)
 have HA := fun W => within_any n 0 ((n1 : Int) - 1) W
 clear hb
 have hcs : t = 1 \/ t = 4 \/ t = 2 \/ t = 3 := by omega
 clear ht
 unfold idxB
 rcases hcs with rfl | rfl | rfl | rfl
 . rw [if_pos rfl]
   go_enter Tryz.func168, Tryz.ntmps168
   go_wp2_with (go_at_call 56; (with_reducible refine (HP.out _).mono ?_); rintro e w' ⟨rfl, rfl⟩)
   go_ret
   exact ⟨rfl, HB.out _⟩
 . rw [if_neg (by decide), if_pos rfl]
   go_enter Tryz.func168, Tryz.ntmps168
   go_wp2_with (go_at_call 56; (with_reducible refine (HS.out _).mono ?_); rintro e w' ⟨rfl, rfl⟩)
   go_ret
   exact ⟨rfl, HB.out _⟩
 . rw [if_neg (by decide), if_neg (by decide)]
   cases h : wthB n 0 ((n1 : Int) - 1)
   . rw [h] at HA; rw [Bool.false_and]
     have G := lh HA; clear HA h
     go_enter Tryz.func168, Tryz.ntmps168
     go_wp2_with (go_at_call 56; (with_reducible refine (G.out _).mono ?_); rintro e w' ⟨rfl, rfl⟩)
     go_ret
     exact ⟨rfl, HB.out _⟩
   . rw [h] at HA; rw [Bool.true_and, decide_eq_true rfl, Bool.true_or]
     have G := lh HA; clear HA h
     go_enter Tryz.func168, Tryz.ntmps168
     go_wp2_with (go_at_call 56; (with_reducible refine (G.out _).mono ?_); rintro e w' ⟨rfl, rfl⟩)
     go_ret
     exact ⟨rfl, HB.out _⟩
 . rw [if_neg (by decide), if_neg (by decide)]
   cases h : wthB n 0 ((n1 : Int) - 1)
   . rw [h] at HA; rw [Bool.false_and]
     have G := lh HA; clear HA h
     go_enter Tryz.func168, Tryz.ntmps168
     go_wp2_with (go_at_call 56; (with_reducible refine (G.out _).mono ?_); rintro e w' ⟨rfl, rfl⟩)
     go_ret
     exact ⟨rfl, HB.out _⟩
   . have hh := h
     unfold wthB at hh
     simp only [Bool.and_eq_true, decide_eq_true_eq] at hh
     obtain ⟨h0, h1⟩ := hh
     obtain ⟨k, rfl⟩ : ∃ k : Nat, n = (k : Int) := ⟨n.toNat, by omega⟩
     have hk : k < n1 := by omega
     rw [h] at HA
     have e3 : (true && (decide ((3 : Int) = 2) || !decide (sp ((k : Int)).toNat = 3))) = !decide (sp k = 3) := by rw [Int.toNat_natCast]; simp
     rw [e3]
     have G := lh HA; clear HA h e3
     obtain ⟨b, off, rfl, hlt, hc⟩ := hr (by omega)
     have hs := (hc k hk).2.1
     have hs2 : ∀ o, (w.alloc o).cell? ⟨b, off + k * 4 + 1, none⟩ = some (.int .i64 (sp k)) := fun o => (World.cell?_alloc_lt _ _ _ (by exact hlt)).trans hs
     clear hr hc hs
     by_cases h3 : sp k = 3
     . have hq : (sp k != 3) = false := by simpa using h3
       rw [decide_eq_true h3]
       have H3 := lh h3; clear h3
       go_enter Tryz.func168, Tryz.ntmps168
       go_wp2_with (go_at_call 56; (with_reducible refine (G.out _).mono ?_); rintro e w' ⟨rfl, rfl⟩)
       go_ret
       exact ⟨rfl, HB.out _⟩
     . have hq : (sp k != 3) = true := by simpa using h3
       rw [decide_eq_false h3]
       clear h3
       go_enter Tryz.func168, Tryz.ntmps168
       go_wp2_with (go_at_call 56; (with_reducible refine (G.out _).mono ?_); rintro e w' ⟨rfl, rfl⟩)
       go_ret
       exact ⟨rfl, HB.out _⟩
end
def RLo (w : World) (B : Nat) (A : Option Addr) (n : Nat) (hd rg bd : Nat -> Int) : Prop :=
 0 < n -> ∃ b off, A = some ⟨b, off, none⟩ /\ b < B /\ ∀ j, j < n -> w.cell? ⟨b, off + j * 3, none⟩ = some (.int .i64 (hd j)) /\ w.cell? ⟨b, off + j * 3 + 1, none⟩ = some (.int .i64 (rg j)) /\ w.cell? ⟨b, off + j * 3 + 2, none⟩ = some (.int .i64 (bd j))
theorem RLo.below {w w' : World} {B n : Nat} {A : Option Addr} {hd rg bd : Nat -> Int} (h : RLo w B A n hd rg bd) (hb : Below B w w') : RLo w' B A n hd rg bd := fun hn => by
 obtain ⟨b, off, e, hlt, hc⟩ := h hn
 have k : ∀ o, w'.cell? ⟨b, o, none⟩ = w.cell? ⟨b, o, none⟩ := fun o => hb.cell (p := ⟨b, o, none⟩) hlt
 refine ⟨b, off, e, hlt, fun j hj => ?_⟩
 simp only [k]
 exact hc j hj
theorem allLo_any (n c F : Nat) (rc : Value) (A : Option Addr) (hd rg bd : Nat -> Int) (t : Nat -> Bool) (w : World) (hn : n <= 65536) (hr : RLo w w.heap.size A n hd rg bd) (hE : ∀ args w, (callFunc F args).run Tryz.prog w = .ok (.enter F args) w)
 (hF : ∀ j W, j < n -> Below w.heap.size w W -> Calls Tryz.prog F #[rc, .agg #[(hd j), (rg j), (bd j)]] W fun e w' => e = .returned (.bool (t j)) /\ Below W.heap.size W w') :
 Calls Tryz.prog 97 #[.slice A n c, .func (.func F) #[rc] #[]] w fun e w' => e = .returned (.bool ((List.range n).all t)) /\ Below w.heap.size w w' := by
 have HR := lh hr
 have HF := lh hF
 have HT := lh (fun (h : ∀ j, j < n -> t j = true) => show (List.range n).all t = true from List.all_eq_true.2 (fun j hj => h j (by simpa using hj)))
 have HN := lh (fun (k : Nat) (hk : k < n) (h : t k = false) => show (List.range n).all t = false from by rw [Bool.eq_false_iff, ne_eq, List.all_eq_true]; exact fun hh => by have := hh k (by simpa using hk); rw [h] at this; cases this)
 obtain ⟨res, hres⟩ : ∃ res, (List.range n).all t = res := ⟨_, rfl⟩
 rw [hres] at HT HN ⊢
 clear hr hF hres
 go_enter Tryz.func97, Tryz.ntmps97
 go_wp2
 go_loopw [9] (fun i wr => ∃ k : Nat, k <= n /\ i = .int .i64 k /\ Hid (∀ j, j < k -> t j = true) /\ Below w.heap.size w wr) (fun i _ => n - (intOf i).toNat)
 case atStart => exact ⟨0, Nat.zero_le _, rfl, lh (fun j hj => absurd hj (by omega)), Below.refl _ _⟩
 case round =>
  obtain ⟨k, hk, rfl, hall, hbel⟩ := hrel
  by_cases hlt : k < n
  . obtain ⟨b, off, rfl, hb, hc⟩ := (HR.out.below hbel) (by omega)
    obtain ⟨m0, m1, m2⟩ := hc k hlt
    have hsz := hbel.size
    have HB := lh hbel
    have hal : ∀ o : Obj, Below w.heap.size w (wr.alloc o) := fun o => hbel.alloc hsz o
    have HFK := fun (o : Obj) => HF.out k (wr.alloc o) hlt (hal o)
    clear hbel hc hal
    cases ht : t k
    . rw [ht] at HFK
      have HK := lh HFK
      have HX := lh (HN.out k hlt ht)
      clear HFK ht hall
      go_wp2_with ((with_reducible refine (HK.out _).mono ?_); rintro e w1 ⟨rfl, hb1⟩; have HB1 := lh hb1; clear hb1)
      go_ret
      exact ⟨ret_b HX.out.symm, HB.out.trans (((Below.refl wr.heap.size wr).alloc (Nat.le_refl _) _).trans (HB1.out.mono (by simp))|>.mono hsz)⟩
    . rw [ht] at HFK
      have HK := lh HFK
      have HA : Hid (∀ j, j < k + 1 -> t j = true) := lh (fun j hj => by
       by_cases e : j = k
       . subst e; exact ht
       . exact hall.out j (by omega))
      clear HFK ht hall
      go_wp2_with ((with_reducible refine (HK.out _).mono ?_); rintro e w1 ⟨rfl, hb1⟩; have HB1 := lh hb1; clear hb1)
      go_roundw
      case rel => exact ⟨k + 1, by omega, by go_num, HA, HB.out.trans (((Below.refl wr.heap.size wr).alloc (Nat.le_refl _) _).trans (HB1.out.mono (by simp))|>.mono hsz)⟩
      case measure => simp [intOf]; omega
  . obtain rfl : k = n := by omega
    have HX := lh (HT.out hall.out)
    go_wp2
    go_ret
    exact ⟨ret_b HX.out.symm, hbel⟩
def RIn (w : World) (B : Nat) (A : Option Addr) (n : Nat) (I : Nat -> InstV) : Prop :=
 0 < n -> ∃ b off, A = some ⟨b, off, none⟩ /\ b < B /\ ∀ j, j < n -> w.cell? ⟨b, off + j * 15, none⟩ = some (.int .i64 (I j).op) /\ w.cell? ⟨b, off + j * 15 + 1, none⟩ = some (.int .i64 (I j).sub) /\ w.cell? ⟨b, off + j * 15 + 2, none⟩ = some (.int .i64 (I j).n) /\ w.cell? ⟨b, off + j * 15 + 3, none⟩ = some (.int .i64 (I j).d.k) /\ w.cell? ⟨b, off + j * 15 + 4, none⟩ = some (.int .i64 (I j).d.n) /\ w.cell? ⟨b, off + j * 15 + 5, none⟩ = some (.int .i32 (I j).d.v) /\ w.cell? ⟨b, off + j * 15 + 6, none⟩ = some (.int .i64 (I j).a.k) /\ w.cell? ⟨b, off + j * 15 + 7, none⟩ = some (.int .i64 (I j).a.n) /\ w.cell? ⟨b, off + j * 15 + 8, none⟩ = some (.int .i32 (I j).a.v) /\ w.cell? ⟨b, off + j * 15 + 9, none⟩ = some (.int .i64 (I j).b.k) /\ w.cell? ⟨b, off + j * 15 + 10, none⟩ = some (.int .i64 (I j).b.n) /\ w.cell? ⟨b, off + j * 15 + 11, none⟩ = some (.int .i32 (I j).b.v) /\ w.cell? ⟨b, off + j * 15 + 12, none⟩ = some (.int .i64 (I j).c.k) /\ w.cell? ⟨b, off + j * 15 + 13, none⟩ = some (.int .i64 (I j).c.n) /\ w.cell? ⟨b, off + j * 15 + 14, none⟩ = some (.int .i32 (I j).c.v)
theorem RIn.below {w w' : World} {B n : Nat} {A : Option Addr} {I : Nat -> InstV} (h : RIn w B A n I) (hb : Below B w w') : RIn w' B A n I := fun hn => by
 obtain ⟨b, off, e, hlt, hc⟩ := h hn
 have k : ∀ o, w'.cell? ⟨b, o, none⟩ = w.cell? ⟨b, o, none⟩ := fun o => hb.cell (p := ⟨b, o, none⟩) hlt
 refine ⟨b, off, e, hlt, fun j hj => ?_⟩
 simp only [k]
 exact hc j hj
theorem allIn_any (n c F : Nat) (rc : Value) (A : Option Addr) (I : Nat -> InstV) (t : Nat -> Bool) (w : World) (hn : n <= 65536) (hr : RIn w w.heap.size A n I) (hE : ∀ args w, (callFunc F args).run Tryz.prog w = .ok (.enter F args) w)
 (hF : ∀ j W, j < n -> Below w.heap.size w W -> Calls Tryz.prog F #[rc, .agg #[(I j).op, (I j).sub, (I j).n, (I j).d.k, (I j).d.n, .int .i32 (I j).d.v, (I j).a.k, (I j).a.n, .int .i32 (I j).a.v, (I j).b.k, (I j).b.n, .int .i32 (I j).b.v, (I j).c.k, (I j).c.n, .int .i32 (I j).c.v]] W fun e w' => e = .returned (.bool (t j)) /\ Below W.heap.size W w') :
 Calls Tryz.prog 130 #[.slice A n c, .func (.func F) #[rc] #[]] w fun e w' => e = .returned (.bool ((List.range n).all t)) /\ Below w.heap.size w w' := by
 have HR := lh hr
 have HF := lh hF
 have HT := lh (fun (h : ∀ j, j < n -> t j = true) => show (List.range n).all t = true from List.all_eq_true.2 (fun j hj => h j (by simpa using hj)))
 have HN := lh (fun (k : Nat) (hk : k < n) (h : t k = false) => show (List.range n).all t = false from by rw [Bool.eq_false_iff, ne_eq, List.all_eq_true]; exact fun hh => by have := hh k (by simpa using hk); rw [h] at this; cases this)
 obtain ⟨res, hres⟩ : ∃ res, (List.range n).all t = res := ⟨_, rfl⟩
 rw [hres] at HT HN ⊢
 clear hr hF hres
 go_enter Tryz.func130, Tryz.ntmps130
 go_wp2
 go_loopw [9] (fun i wr => ∃ k : Nat, k <= n /\ i = .int .i64 k /\ Hid (∀ j, j < k -> t j = true) /\ Below w.heap.size w wr) (fun i _ => n - (intOf i).toNat)
 case atStart => exact ⟨0, Nat.zero_le _, rfl, lh (fun j hj => absurd hj (by omega)), Below.refl _ _⟩
 case round =>
  obtain ⟨k, hk, rfl, hall, hbel⟩ := hrel
  by_cases hlt : k < n
  . obtain ⟨b, off, rfl, hb, hc⟩ := (HR.out.below hbel) (by omega)
    obtain ⟨m0, m1, m2, _, _, _, _, _, _, _, _, _, _, _, _⟩ := hc k hlt
    have hsz := hbel.size
    have HB := lh hbel
    have hal : ∀ o : Obj, Below w.heap.size w (wr.alloc o) := fun o => hbel.alloc hsz o
    have HFK := fun (o : Obj) => HF.out k (wr.alloc o) hlt (hal o)
    clear hbel hc hal
    cases ht : t k
    . rw [ht] at HFK
      have HK := lh HFK
      have HX := lh (HN.out k hlt ht)
      clear HFK ht hall
      go_wp2_with ((with_reducible refine (HK.out _).mono ?_); rintro e w1 ⟨rfl, hb1⟩; have HB1 := lh hb1; clear hb1)
      go_ret
      exact ⟨ret_b HX.out.symm, HB.out.trans (((Below.refl wr.heap.size wr).alloc (Nat.le_refl _) _).trans (HB1.out.mono (by simp))|>.mono hsz)⟩
    . rw [ht] at HFK
      have HK := lh HFK
      have HA : Hid (∀ j, j < k + 1 -> t j = true) := lh (fun j hj => by
       by_cases e : j = k
       . subst e; exact ht
       . exact hall.out j (by omega))
      clear HFK ht hall
      go_wp2_with ((with_reducible refine (HK.out _).mono ?_); rintro e w1 ⟨rfl, hb1⟩; have HB1 := lh hb1; clear hb1)
      go_roundw
      case rel => exact ⟨k + 1, by omega, by go_num, HA, HB.out.trans (((Below.refl wr.heap.size wr).alloc (Nat.le_refl _) _).trans (HB1.out.mono (by simp))|>.mono hsz)⟩
      case measure => simp [intOf]; omega
  . obtain rfl : k = n := by omega
    have HX := lh (HT.out hall.out)
    go_wp2
    go_ret
    exact ⟨ret_b HX.out.symm, hbel⟩
theorem allBl_any (n c F : Nat) (rc : Value) (A : Option Addr) (IA : Nat -> Option Addr) (IL IC : Nat -> Nat) (T : Nat -> TermV) (t : Nat -> Bool) (w : World) (hn : n <= 65536) (hr : RBl w w.heap.size A n IA IL IC T) (hE : ∀ args w, (callFunc F args).run Tryz.prog w = .ok (.enter F args) w)
 (hF : ∀ j W, j < n -> Below w.heap.size w W -> Calls Tryz.prog F #[rc, .agg #[.slice (IA j) (IL j) (IC j), (T j).kind, (T j).sub, (T j).d.k, (T j).d.n, .int .i32 (T j).d.v, (T j).a.k, (T j).a.n, .int .i32 (T j).a.v, (T j).b.k, (T j).b.n, .int .i32 (T j).b.v, (T j).t0, (T j).t1]] W fun e w' => e = .returned (.bool (t j)) /\ Below W.heap.size W w') :
 Calls Tryz.prog 99 #[.slice A n c, .func (.func F) #[rc] #[]] w fun e w' => e = .returned (.bool ((List.range n).all t)) /\ Below w.heap.size w w' := by
 have HR := lh hr
 have HF := lh hF
 have HT := lh (fun (h : ∀ j, j < n -> t j = true) => show (List.range n).all t = true from List.all_eq_true.2 (fun j hj => h j (by simpa using hj)))
 have HN := lh (fun (k : Nat) (hk : k < n) (h : t k = false) => show (List.range n).all t = false from by rw [Bool.eq_false_iff, ne_eq, List.all_eq_true]; exact fun hh => by have := hh k (by simpa using hk); rw [h] at this; cases this)
 obtain ⟨res, hres⟩ : ∃ res, (List.range n).all t = res := ⟨_, rfl⟩
 rw [hres] at HT HN ⊢
 clear hr hF hres
 go_enter Tryz.func99, Tryz.ntmps99
 go_wp2
 go_loopw [9] (fun i wr => ∃ k : Nat, k <= n /\ i = .int .i64 k /\ Hid (∀ j, j < k -> t j = true) /\ Below w.heap.size w wr) (fun i _ => n - (intOf i).toNat)
 case atStart => exact ⟨0, Nat.zero_le _, rfl, lh (fun j hj => absurd hj (by omega)), Below.refl _ _⟩
 case round =>
  obtain ⟨k, hk, rfl, hall, hbel⟩ := hrel
  by_cases hlt : k < n
  . obtain ⟨b, off, rfl, hb, hc⟩ := (HR.out.below hbel) (by omega)
    obtain ⟨m0, m1, m2, _, _, _, _, _, _, _, _, _, _, _⟩ := hc k hlt
    have hsz := hbel.size
    have HB := lh hbel
    have hal : ∀ o : Obj, Below w.heap.size w (wr.alloc o) := fun o => hbel.alloc hsz o
    have HFK := fun (o : Obj) => HF.out k (wr.alloc o) hlt (hal o)
    clear hbel hc hal
    cases ht : t k
    . rw [ht] at HFK
      have HK := lh HFK
      have HX := lh (HN.out k hlt ht)
      clear HFK ht hall
      go_wp2_with ((with_reducible refine (HK.out _).mono ?_); rintro e w1 ⟨rfl, hb1⟩; have HB1 := lh hb1; clear hb1)
      go_ret
      exact ⟨ret_b HX.out.symm, HB.out.trans (((Below.refl wr.heap.size wr).alloc (Nat.le_refl _) _).trans (HB1.out.mono (by simp))|>.mono hsz)⟩
    . rw [ht] at HFK
      have HK := lh HFK
      have HA : Hid (∀ j, j < k + 1 -> t j = true) := lh (fun j hj => by
       by_cases e : j = k
       . subst e; exact ht
       . exact hall.out j (by omega))
      clear HFK ht hall
      go_wp2_with ((with_reducible refine (HK.out _).mono ?_); rintro e w1 ⟨rfl, hb1⟩; have HB1 := lh hb1; clear hb1)
      go_roundw
      case rel => exact ⟨k + 1, by omega, by go_num, HA, HB.out.trans (((Below.refl wr.heap.size wr).alloc (Nat.le_refl _) _).trans (HB1.out.mono (by simp))|>.mono hsz)⟩
      case measure => simp [intOf]; omega
  . obtain rfl : k = n := by omega
    have HX := lh (HT.out hall.out)
    go_wp2
    go_ret
    exact ⟨ret_b HX.out.symm, hbel⟩
def RI (w : World) (B : Nat) (A : Option Addr) (n : Nat) (f : Nat -> Int) : Prop :=
 0 < n -> ∃ b off, A = some ⟨b, off, none⟩ /\ b < B /\ ∀ j, j < n -> w.cell? ⟨b, off + j, none⟩ = some (.int .i64 (f j))
theorem RI.below {w w' : World} {B n : Nat} {A : Option Addr} {f : Nat -> Int} (h : RI w B A n f) (hb : Below B w w') : RI w' B A n f := fun hn => by
 obtain ⟨b, off, e, hlt, hc⟩ := h hn
 exact ⟨b, off, e, hlt, fun j hj => (hb.cell (p := ⟨b, _, none⟩) hlt).trans (hc j hj)⟩
theorem allI_any (n c F : Nat) (rc : Value) (A : Option Addr) (f : Nat -> Int) (t : Nat -> Bool) (w : World) (hn : n <= 65536) (hr : RI w w.heap.size A n f) (hE : ∀ args w, (callFunc F args).run Tryz.prog w = .ok (.enter F args) w)
 (hF : ∀ j W, j < n -> Below w.heap.size w W -> Calls Tryz.prog F #[rc, (f j)] W fun e w' => e = .returned (.bool (t j)) /\ Below W.heap.size W w') :
 Calls Tryz.prog 171 #[.slice A n c, .func (.func F) #[rc] #[]] w fun e w' => e = .returned (.bool ((List.range n).all t)) /\ Below w.heap.size w w' := by
 have HR := lh hr
 have HF := lh hF
 have HT := lh (fun (h : ∀ j, j < n -> t j = true) => show (List.range n).all t = true from List.all_eq_true.2 (fun j hj => h j (by simpa using hj)))
 have HN := lh (fun (k : Nat) (hk : k < n) (h : t k = false) => show (List.range n).all t = false from by rw [Bool.eq_false_iff, ne_eq, List.all_eq_true]; exact fun hh => by have := hh k (by simpa using hk); rw [h] at this; cases this)
 obtain ⟨res, hres⟩ : ∃ res, (List.range n).all t = res := ⟨_, rfl⟩
 rw [hres] at HT HN ⊢
 clear hr hF hres
 go_enter Tryz.func171, Tryz.ntmps171
 go_wp2
 go_loopw [6, 9] (fun x i wr => ∃ k : Nat, k <= n /\ i = .int .i64 k /\ Hid (∀ j, j < k -> t j = true) /\ Below w.heap.size w wr) (fun _ i _ => n - (intOf i).toNat)
 case atStart => exact ⟨0, Nat.zero_le _, rfl, lh (fun j hj => absurd hj (by omega)), Below.refl _ _⟩
 case round =>
  obtain ⟨k, hk, rfl, hall, hbel⟩ := hrel
  by_cases hlt : k < n
  . obtain ⟨b, off, rfl, hb, hc⟩ := (HR.out.below hbel) (by omega)
    have m0 := hc k hlt
    have hsz := hbel.size
    have HB := lh hbel
    have HFK := HF.out k wr hlt hbel
    clear hbel hc
    cases ht : t k
    . rw [ht] at HFK
      have HK := lh HFK
      have HX := lh (HN.out k hlt ht)
      clear HFK ht hall
      go_wp2_with ((with_reducible refine HK.out.mono ?_); rintro e w1 ⟨rfl, hb1⟩; have HB1 := lh hb1; clear hb1)
      go_ret
      exact ⟨ret_b HX.out.symm, HB.out.trans (HB1.out.mono hsz)⟩
    . rw [ht] at HFK
      have HK := lh HFK
      have HA : Hid (∀ j, j < k + 1 -> t j = true) := lh (fun j hj => by
       by_cases e : j = k
       . subst e; exact ht
       . exact hall.out j (by omega))
      clear HFK ht hall
      go_wp2_with ((with_reducible refine HK.out.mono ?_); rintro e w1 ⟨rfl, hb1⟩; have HB1 := lh hb1; clear hb1)
      go_roundw
      case rel => exact ⟨k + 1, by omega, by go_num, HA, HB.out.trans (HB1.out.mono hsz)⟩
      case measure => simp [intOf]; omega
  . obtain rfl : k = n := by omega
    have HX := lh (HT.out hall.out)
    go_wp2
    go_ret
    exact ⟨ret_b HX.out.symm, hbel⟩
end Go.Proofs.YtkncilgmlkeifaaGreatDoor
