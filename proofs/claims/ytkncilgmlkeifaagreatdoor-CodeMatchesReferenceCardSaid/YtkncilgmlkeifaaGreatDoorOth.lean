/-
  Package code: the contracts of the closures in others, and of others.
-/
import Derived.Test.YtkncilgmlkeifaaGreatDoorVis
import Derived.Test.YtkncilgmlkeifaaGreatDoorAll
import Derived.Deep.OwnRows
set_option linter.unusedVariables false
set_option linter.unusedSimpArgs false
set_option maxRecDepth 100000
set_option maxHeartbeats 4000000
namespace Go.Proofs.YtkncilgmlkeifaaGreatDoor
open Go.ChangeShapes Go.WideShapes Go.ChangeAt Go.RowKit Go.Shelf
def PartV.cells (q : PartV) : Array Value := #[q.sub, q.n, q.d.k, q.d.n, .int .i32 q.d.v, q.a.k, q.a.n, .int .i32 q.a.v, q.b.k, q.b.n, .int .i32 q.b.v, q.c.k, q.c.n, .int .i32 q.c.v, q.t0, q.t1]
def PartV.cell (q : PartV) (j : Nat) : Value := q.cells.getD j undef
theorem lt16 {j : Nat} (h : j < 16) : j = 0 \/ j = 1 \/ j = 2 \/ j = 3 \/ j = 4 \/ j = 5 \/ j = 6 \/ j = 7 \/ j = 8 \/ j = 9 \/ j = 10 \/ j = 11 \/ j = 12 \/ j = 13 \/ j = 14 \/ j = 15 := by omega
theorem lt8 {j : Nat} (h : j < 8) : j = 0 \/ j = 1 \/ j = 2 \/ j = 3 \/ j = 4 \/ j = 5 \/ j = 6 \/ j = 7 := by omega
def stepO (j : Nat) : Nat := if j = 0 then 0 else if j = 1 then 1 else if j < 5 then 2 else if j < 8 then 3 else if j < 11 then 4 else if j < 14 then 5 else if j = 14 then 6 else 7
def zeroO (j : Nat) : Value := if j = 4 \/ j = 7 \/ j = 10 \/ j = 13 then .int .i32 0 else .int .i64 0
def othC (f : FormV) (q : PartV) (s : Nat) : Nat -> Value := fun j => if (f.want (stepO j) && decide (stepO j < s)) = true then zeroO j else q.cell j
def othV (f : FormV) (q : PartV) : PartV :=
 ⟨if f.want 0 then 0 else q.sub, if f.want 1 then 0 else q.n, if f.want 2 then noOpd else q.d, if f.want 3 then noOpd else q.a, if f.want 4 then noOpd else q.b, if f.want 5 then noOpd else q.c, if f.want 6 then 0 else q.t0, if f.want 7 then 0 else q.t1⟩
theorem othC_zero (f : FormV) (q : PartV) (j : Nat) : othC f q 0 j = q.cell j := by simp [othC]
theorem othC_skip {f : FormV} {q : PartV} {s : Nat} (h : f.want s = false) : othC f q s = othC f q (s + 1) := by
 funext j
 unfold othC
 by_cases e : stepO j = s
 . rw [e, h]; simp
 . have : decide (stepO j < s + 1) = decide (stepO j < s) := by simp; omega
   rw [this]
theorem othC_num {f : FormV} {q : PartV} {s : Nat} (hs : s < 8) (hn : numS s = true) (h : f.want s = true) (j : Nat) (hj : j < 16) : (if j = offS s then .int .i64 0 else othC f q s j) = othC f q (s + 1) j := by
 rcases lt8 hs with rfl | rfl | rfl | rfl | rfl | rfl | rfl | rfl
 all_goals first | (exfalso; revert hn; decide) | skip
 all_goals
  rcases lt16 hj with rfl | rfl | rfl | rfl | rfl | rfl | rfl | rfl | rfl | rfl | rfl | rfl | rfl | rfl | rfl | rfl <;> simp [othC, offS, stepO, zeroO, h]
theorem othC_opd {f : FormV} {q : PartV} {s : Nat} (hs : s < 8) (hn : numS s = false) (h : f.want s = true) (j : Nat) (hj : j < 16) : (if j = offS s + 2 then .int .i32 0 else if j = offS s + 1 then .int .i64 0 else if j = offS s then .int .i64 0 else othC f q s j) = othC f q (s + 1) j := by
 rcases lt8 hs with rfl | rfl | rfl | rfl | rfl | rfl | rfl | rfl
 all_goals first | (exfalso; revert hn; decide) | skip
 all_goals
  rcases lt16 hj with rfl | rfl | rfl | rfl | rfl | rfl | rfl | rfl | rfl | rfl | rfl | rfl | rfl | rfl | rfl | rfl <;> simp [othC, offS, stepO, zeroO, h]
theorem othC_end (f : FormV) (q : PartV) (j : Nat) (hj : j < 16) : othC f q 8 j = (othV f q).cell j := by
 have h8 : decide (stepO j < 8) = true := by rcases lt16 hj with rfl | rfl | rfl | rfl | rfl | rfl | rfl | rfl | rfl | rfl | rfl | rfl | rfl | rfl | rfl | rfl <;> decide
 unfold othC othV
 rw [h8, Bool.and_true]
 rcases lt16 hj with rfl | rfl | rfl | rfl | rfl | rfl | rfl | rfl | rfl | rfl | rfl | rfl | rfl | rfl | rfl | rfl <;> simp only [stepO, zeroO, PartV.cell, PartV.cells] <;> simp <;> split <;> simp_all [noOpd]
theorem zeroN_any (b o n : Nat) (g : Nat -> Value) (W : World) (hr : W.rowIs b 147 n g) (ho : o < n) : Calls Tryz.prog 188 #[.pointer (some ⟨b, o, none⟩)] W fun e w' => (∃ v, e = .returned v) /\ w' = W.setCell ⟨b, o, none⟩ (.int .i64 0) := by
 have hc := hr.cell ho
 have hf := hr.frozen o
 go_enter Tryz.func188, Tryz.ntmps188
 go_wp2
 go_end0
 exact ⟨⟨_, rfl⟩, rfl⟩
theorem zeroO_any (b o n : Nat) (g : Nat -> Value) (W : World) (hr : W.rowIs b 147 n g) (ho : o + 2 < n) : Calls Tryz.prog 189 #[.pointer (some ⟨b, o, none⟩)] W fun e w' => (∃ v, e = .returned v) /\ w' = ((W.setCell ⟨b, o, none⟩ (.int .i64 0)).setCell ⟨b, o + 1, none⟩ (.int .i64 0)).setCell ⟨b, o + 2, none⟩ (.int .i32 0) := by
 have hc := hr.cell (i := o) (by omega)
 have hc1 := hr.cell (i := o + 1) (by omega)
 have hc2 := hr.cell (i := o + 2) (by omega)
 have hf := hr.frozen o
 have hf1 := hr.frozen (o + 1)
 have hf2 := hr.frozen (o + 2)
 go_enter Tryz.func189, Tryz.ntmps189
 go_wp2
 go_end0
 exact ⟨⟨_, rfl⟩, rfl⟩
theorem grown_setCell {a w : World} {g : Nat} (h : a.grownBy w (some g)) (o : Nat) (u : Value) : a.grownBy (w.setCell ⟨g, o, none⟩ u) (some g) :=
 ⟨h.os, h.tape, h.output, by simpa [World.setCell] using h.size, fun i hi hne => (Below.heap_setCell w ⟨g, o, none⟩ u i (by
  rintro rfl
  exact hne rfl)).trans (h.block i hi hne)⟩
def OthJ (W0 : World) (n : Nat) (f : FormV) (q : PartV) (s : Nat) (W : World) : Prop := W.rowIs (n + 1) 147 16 (othC f q s) /\ W0.grownBy W (some (n + 1))
theorem othJ_num {W0 : World} {n : Nat} {f : FormV} {q : PartV} {s : Nat} {W : World} (h : OthJ W0 n f q s W) (hs : s < 8) (hn : numS s = true) (hw : f.want s = true) :
 Calls Tryz.prog 188 #[.pointer (some ⟨n + 1, offS s, none⟩)] W fun e W' => (∃ v, e = .returned v) /\ OthJ W0 n f q (s + 1) W' := by
 have ho : offS s < 16 := by rcases lt8 hs with rfl | rfl | rfl | rfl | rfl | rfl | rfl | rfl <;> decide
 refine (zeroN_any (n + 1) (offS s) 16 _ W h.1 ho).mono ?_
 rintro e w' ⟨hv, rfl⟩
 exact ⟨hv, (h.1.set (offS s) (.int .i64 0)).congr (fun j hj => othC_num hs hn hw j hj), grown_setCell h.2 _ _⟩
theorem othJ_opd {W0 : World} {n : Nat} {f : FormV} {q : PartV} {s : Nat} {W : World} (h : OthJ W0 n f q s W) (hs : s < 8) (hn : numS s = false) (hw : f.want s = true) :
 Calls Tryz.prog 189 #[.pointer (some ⟨n + 1, offS s, none⟩)] W fun e W' => (∃ v, e = .returned v) /\ OthJ W0 n f q (s + 1) W' := by
 have ho : offS s + 2 < 16 := by
  rcases lt8 hs with rfl | rfl | rfl | rfl | rfl | rfl | rfl | rfl
  all_goals first | (exfalso; revert hn; decide) | decide
 refine (zeroO_any (n + 1) (offS s) 16 _ W h.1 ho).mono ?_
 rintro e w' ⟨hv, rfl⟩
 exact ⟨hv, (((h.1.set (offS s) (.int .i64 0)).set (offS s + 1) (.int .i64 0)).set (offS s + 2) (.int .i32 0)).congr (fun j hj => othC_opd hs hn hw j hj), grown_setCell (grown_setCell (grown_setCell h.2 _ _) _ _) _ _⟩
theorem oth_facts {w1 : World} {n : Nat} {r : PartV} (hr : w1.rowIs (n + 1) 147 16 r.cell) :
 w1.cell? ⟨n + 1, 0, none⟩ = some (.int .i64 r.sub) /\
 w1.cell? ⟨n + 1, 1, none⟩ = some (.int .i64 r.n) /\
 w1.cell? ⟨n + 1, 2, none⟩ = some (.int .i64 r.d.k) /\
 w1.cell? ⟨n + 1, 3, none⟩ = some (.int .i64 r.d.n) /\
 w1.cell? ⟨n + 1, 4, none⟩ = some (.int .i32 r.d.v) /\
 w1.cell? ⟨n + 1, 5, none⟩ = some (.int .i64 r.a.k) /\
 w1.cell? ⟨n + 1, 6, none⟩ = some (.int .i64 r.a.n) /\
 w1.cell? ⟨n + 1, 7, none⟩ = some (.int .i32 r.a.v) /\
 w1.cell? ⟨n + 1, 8, none⟩ = some (.int .i64 r.b.k) /\
 w1.cell? ⟨n + 1, 9, none⟩ = some (.int .i64 r.b.n) /\
 w1.cell? ⟨n + 1, 10, none⟩ = some (.int .i32 r.b.v) /\
 w1.cell? ⟨n + 1, 11, none⟩ = some (.int .i64 r.c.k) /\
 w1.cell? ⟨n + 1, 12, none⟩ = some (.int .i64 r.c.n) /\
 w1.cell? ⟨n + 1, 13, none⟩ = some (.int .i32 r.c.v) /\
 w1.cell? ⟨n + 1, 14, none⟩ = some (.int .i64 r.t0) /\
 w1.cell? ⟨n + 1, 15, none⟩ = some (.int .i64 r.t1) :=
 ⟨hr.cell (i := 0) (by decide), hr.cell (i := 1) (by decide), hr.cell (i := 2) (by decide), hr.cell (i := 3) (by decide), hr.cell (i := 4) (by decide), hr.cell (i := 5) (by decide), hr.cell (i := 6) (by decide), hr.cell (i := 7) (by decide), hr.cell (i := 8) (by decide), hr.cell (i := 9) (by decide), hr.cell (i := 10) (by decide), hr.cell (i := 11) (by decide), hr.cell (i := 12) (by decide), hr.cell (i := 13) (by decide), hr.cell (i := 14) (by decide), hr.cell (i := 15) (by decide)⟩
theorem zero_facts {w1 : World} {n : Nat} (hz : w1.heap[n + 2]? = some (.cells (⟨0, 0, noOpd, noOpd, noOpd, noOpd, 0, 0⟩ : PartV).cells 147)) :
 w1.cell? ⟨n + 2, 0, none⟩ = some (.int .i64 0) /\
 w1.cell? ⟨n + 2, 1, none⟩ = some (.int .i64 0) /\
 w1.cell? ⟨n + 2, 2, none⟩ = some (.int .i64 0) /\
 w1.cell? ⟨n + 2, 3, none⟩ = some (.int .i64 0) /\
 w1.cell? ⟨n + 2, 4, none⟩ = some (.int .i32 0) /\
 w1.cell? ⟨n + 2, 5, none⟩ = some (.int .i64 0) /\
 w1.cell? ⟨n + 2, 6, none⟩ = some (.int .i64 0) /\
 w1.cell? ⟨n + 2, 7, none⟩ = some (.int .i32 0) /\
 w1.cell? ⟨n + 2, 8, none⟩ = some (.int .i64 0) /\
 w1.cell? ⟨n + 2, 9, none⟩ = some (.int .i64 0) /\
 w1.cell? ⟨n + 2, 10, none⟩ = some (.int .i32 0) /\
 w1.cell? ⟨n + 2, 11, none⟩ = some (.int .i64 0) /\
 w1.cell? ⟨n + 2, 12, none⟩ = some (.int .i64 0) /\
 w1.cell? ⟨n + 2, 13, none⟩ = some (.int .i32 0) /\
 w1.cell? ⟨n + 2, 14, none⟩ = some (.int .i64 0) /\
 w1.cell? ⟨n + 2, 15, none⟩ = some (.int .i64 0) := by
 simp only [World.cell?, hz]
 exact ⟨rfl, rfl, rfl, rfl, rfl, rfl, rfl, rfl, rfl, rfl, rfl, rfl, rfl, rfl, rfl, rfl⟩
theorem others_any (f : FormV) (q : PartV) (w : World) (ht : 0 <= f.targets /\ f.targets <= 2) : Calls Tryz.prog 166 #[f.val, q.val] w fun e w' => e = .returned (othV f q).val /\ Below w.heap.size w w' := by
 obtain ⟨W3, hW3⟩ : ∃ W3 : World, ((w.alloc (.cells #[.string ⟨f.word⟩, .int .u32 f.subs, f.table, .bool f.d, .bool f.a, .bool f.b, .bool f.c, f.targets] 117)).alloc (.cells q.cells 147)).alloc (.cells (⟨0, 0, noOpd, noOpd, noOpd, noOpd, 0, 0⟩ : PartV).cells 147) = W3 := ⟨_, rfl⟩
 have hsz : W3.heap.size = w.heap.size + 3 := by rw [<- hW3]; simp
 have hbW : Below w.heap.size w W3 := by rw [<- hW3]; exact (((Below.refl _ _).alloc (Nat.le_refl _) _).alloc (by simp) _).alloc (by simp; omega) _
 have HV : Calls Tryz.prog 123 #[f.val, .pointer (some ⟨w.heap.size + 1, 0, none⟩), .func (.func 188) #[] #[], .func (.func 189) #[] #[]] W3 fun e w' => (∃ v, e = .returned v) /\ w'.rowIs (w.heap.size + 1) 147 16 (othC f q 8) /\ W3.grownBy w' (some (w.heap.size + 1)) := by
  refine (visit_0 f 188 189 (w.heap.size + 1) (OthJ (W3.alloc (.cells #[.string ⟨f.word⟩, .int .u32 f.subs, f.table, .bool f.d, .bool f.a, .bool f.b, .bool f.c, f.targets] 117)) w.heap.size f q) W3 ht (enters_of Tryz.func188 (by kernel_rfl) rfl) (enters_of Tryz.func189 (by kernel_rfl) rfl) ?_ ?_ ?_ ?_ ?_).mono ?_
  . refine ⟨?_, ⟨rfl, rfl, rfl, Nat.le_refl _, fun _ _ _ => rfl⟩⟩
    rw [<- hW3]
    have h1 := World.rowIs_alloc (w.alloc (.cells #[.string ⟨f.word⟩, .int .u32 f.subs, f.table, .bool f.d, .bool f.a, .bool f.b, .bool f.c, f.targets] 117)) q.cells 147 (othC f q 0) (fun i hi => by
     rw [othC_zero]
     have : i < 16 := hi
     rcases lt16 this with rfl | rfl | rfl | rfl | rfl | rfl | rfl | rfl | rfl | rfl | rfl | rfl | rfl | rfl | rfl | rfl <;> rfl)
    rw [World.size_alloc] at h1
    exact (h1.alloc _).alloc _
  . rintro s W ⟨_, hg⟩
    have hb : W.heap[W3.heap.size]? = some (.cells #[.string ⟨f.word⟩, .int .u32 f.subs, f.table, .bool f.d, .bool f.a, .bool f.b, .bool f.c, f.targets] 117) := by
     rw [hg.block W3.heap.size (by simp) (by intro e; injection e with e; omega)]
     exact heap_alloc_new _ _
    simp only [BoxFm, World.cell?, hb]
    exact ⟨rfl, rfl, rfl, rfl, rfl, rfl, rfl⟩
  . rintro s W hs hw ⟨h1, h2⟩
    exact ⟨by rw [<- othC_skip hw]; exact h1, h2⟩
  . rintro s W hs hn hw h
    exact othJ_num h hs hn hw
  . rintro s W hs hn hw h
    exact othJ_opd h hs hn hw
  . rintro e w' ⟨hv, h1, h2⟩
    exact ⟨hv, h1, ⟨h2.os, h2.tape, h2.output, Nat.le_trans (by simp) h2.size, fun k hk hne => (h2.block k (by simp; omega) hne).trans (Below.heap_alloc _ _ _ hk)⟩⟩
 have hz0 : W3.heap[w.heap.size + 2]? = some (.cells (⟨0, 0, noOpd, noOpd, noOpd, noOpd, 0, 0⟩ : PartV).cells 147) := by
  rw [<- hW3]
  have h := heap_alloc_new ((w.alloc (.cells #[.string ⟨f.word⟩, .int .u32 f.subs, f.table, .bool f.d, .bool f.a, .bool f.b, .bool f.c, f.targets] 117)).alloc (.cells q.cells 147)) (.cells (⟨0, 0, noOpd, noOpd, noOpd, noOpd, 0, 0⟩ : PartV).cells 147)
  rw [World.size_alloc, World.size_alloc] at h
  exact h
 have HF := lh (fun (w1 : World) (h1 : w1.rowIs (w.heap.size + 1) 147 16 (othC f q 8)) (h2 : W3.grownBy w1 (some (w.heap.size + 1))) => And.intro (oth_facts (r := othV f q) (h1.congr (fun j hj => othC_end f q j hj))) (And.intro (zero_facts (n := w.heap.size) (w1 := w1) ((h2.block (w.heap.size + 2) (by omega) (by intro e; injection e with e; omega)).trans hz0)) (And.intro (show ∀ o, w1.frozen? ⟨w.heap.size + 2, o, none⟩ = false from fun o => by
  have hb := (h2.block (w.heap.size + 2) (by omega) (by intro e; injection e with e; omega)).trans hz0
  simp [World.frozen?, hb]) (show Below w.heap.size w w1 /\ w.heap.size + 2 < w1.heap.size from ⟨hbW.trans ((Below.refl w.heap.size W3).grown h2 (by omega) (fun k e => by cases e; omega)), by have := h2.size; omega⟩))))
 obtain ⟨r, hr⟩ : ∃ r, othV f q = r := ⟨_, rfl⟩
 rw [hr] at HF ⊢
 subst hW3
 have HVV := lh HV
 clear hr HV hsz hbW hz0
 obtain ⟨word, subs, table, d, a, b, c, targets⟩ := f
 obtain ⟨qs, qn, ⟨qdk, qdn, qdv⟩, ⟨qak, qan, qav⟩, ⟨qbk, qbn, qbv⟩, ⟨qck, qcn, qcv⟩, qt0, qt1⟩ := q
 obtain ⟨rs, rn, ⟨rdk, rdn, rdv⟩, ⟨rak, ran, rav⟩, ⟨rbk, rbn, rbv⟩, ⟨rck, rcn, rcv⟩, rt0, rt1⟩ := r
 simp only [FormV.val, PartV.val, PartV.cells, noOpd] at HVV HF ⊢
 go_enter Tryz.func166, Tryz.ntmps166
 go_wp2_with ((with_reducible refine HVV.out.mono ?_); rintro e w1 ⟨⟨v, rfl⟩, h1, h2⟩; obtain ⟨⟨c0, c1, c2, c3, c4, c5, c6, c7, c8, c9, c10, c11, c12, c13, c14, c15⟩, ⟨z0, z1, z2, z3, z4, z5, z6, z7, z8, z9, z10, z11, z12, z13, z14, z15⟩, hf, hbw, hsz⟩ := HF.out w1 h1 h2; have HX := lh hbw; clear hbw h1 h2)
 exact bodyPost_ret (v := .agg #[rs, rn, rdk, rdn, .int .i32 rdv, rak, ran, .int .i32 rav, rbk, rbn, .int .i32 rbv, rck, rcn, .int .i32 rcv, rt0, rt1]) (by simp [results, Tryz.results166, go_sem, z0, z1, z2, z3, z4, z5, z6, z7, z8, z9, z10, z11, z12, z13, z14, z15]) rfl ⟨rfl, ((((((((((((((((HX.out.setCell (p := ⟨w.heap.size + 2, _, none⟩) (Nat.le_add_right _ _) _).setCell (p := ⟨w.heap.size + 2, _, none⟩) (Nat.le_add_right _ _) _).setCell (p := ⟨w.heap.size + 2, _, none⟩) (Nat.le_add_right _ _) _).setCell (p := ⟨w.heap.size + 2, _, none⟩) (Nat.le_add_right _ _) _).setCell (p := ⟨w.heap.size + 2, _, none⟩) (Nat.le_add_right _ _) _).setCell (p := ⟨w.heap.size + 2, _, none⟩) (Nat.le_add_right _ _) _).setCell (p := ⟨w.heap.size + 2, _, none⟩) (Nat.le_add_right _ _) _).setCell (p := ⟨w.heap.size + 2, _, none⟩) (Nat.le_add_right _ _) _).setCell (p := ⟨w.heap.size + 2, _, none⟩) (Nat.le_add_right _ _) _).setCell (p := ⟨w.heap.size + 2, _, none⟩) (Nat.le_add_right _ _) _).setCell (p := ⟨w.heap.size + 2, _, none⟩) (Nat.le_add_right _ _) _).setCell (p := ⟨w.heap.size + 2, _, none⟩) (Nat.le_add_right _ _) _).setCell (p := ⟨w.heap.size + 2, _, none⟩) (Nat.le_add_right _ _) _).setCell (p := ⟨w.heap.size + 2, _, none⟩) (Nat.le_add_right _ _) _).setCell (p := ⟨w.heap.size + 2, _, none⟩) (Nat.le_add_right _ _) _).setCell (p := ⟨w.heap.size + 2, _, none⟩) (Nat.le_add_right _ _) _)⟩
end Go.Proofs.YtkncilgmlkeifaaGreatDoor
