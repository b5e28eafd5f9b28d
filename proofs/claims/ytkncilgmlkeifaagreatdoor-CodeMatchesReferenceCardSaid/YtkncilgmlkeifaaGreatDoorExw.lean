import Derived.Test.YtkncilgmlkeifaaGreatDoorCpy
import Derived.Test.YtkncilgmlkeifaaGreatDoorGrd
import Derived.Test.YtkncilgmlkeifaaGreatDoorNeq
import Derived.Test.YtkncilgmlkeifaaGreatDoorMkx
import Derived.Test.YtkncilgmlkeifaaGreatDoorExs
import Derived.Test.YtkncilgmlkeifaaGreatDoorRst
import Derived.Deep.RegionLaw
import Derived.Deep.RegionHeld3
import Derived.Deep.LoopGhost
import Derived.Deep.CutRange
import Derived.Deep.MidRow
import Derived.Laws.AppendOwnNone
/-
  A code in its box and its rows: words for the walks of the laws.
-/
set_option linter.unusedVariables false
set_option linter.unusedSimpArgs false
namespace Go.Proofs.YtkncilgmlkeifaaGreatDoor
open Go.ChangeShapes Go.WideShapes Go.ChangeAt Go.RowKit Go.Shelf
structure LX (w : World) (b n0 : Nat) (g s r sl p : Int) (v5 v6 v7 : Value) (qs : List ArV) (ls : List LoV) (es : List BlE) (W : World) : Prop where
 box : W.heap[b]? = some (.cells #[g, s, r, sl, p, v5, v6, v7] 36 (0, 0))
 rows : RC n0 v5 v6 v7 qs ls es W
 below : Below w.heap.size w W
 hn : w.heap.size <= n0 /\ w.heap.size <= b /\ n0 <= W.heap.size
section
variable {w W W' : World} {b n0 : Nat} {g s r sl p : Int} {v5 v6 v7 : Value} {qs : List ArV} {ls : List LoV} {es : List BlE}
theorem LX.k (h : LX w b n0 g s r sl p v5 v6 v7 qs ls es W) (o : Nat) : W.cell? ⟨b, o, none⟩ = (#[g, s, r, sl, p, v5, v6, v7] : Array Value)[o]? := by simp [World.cell?, h.box]
theorem LX.fr (h : LX w b n0 g s r sl p v5 v6 v7 qs ls es W) (o : Nat) : W.frozen? ⟨b, o, none⟩ = false := by simp [World.frozen?, h.box]
theorem LX.c0 (h : LX w b n0 g s r sl p v5 v6 v7 qs ls es W) : W.cell? ⟨b, 0, none⟩ = some (.int .i64 g) := h.k 0
theorem LX.c1 (h : LX w b n0 g s r sl p v5 v6 v7 qs ls es W) : W.cell? ⟨b, 1, none⟩ = some (.int .i64 s) := h.k 1
theorem LX.c2 (h : LX w b n0 g s r sl p v5 v6 v7 qs ls es W) : W.cell? ⟨b, 2, none⟩ = some (.int .i64 r) := h.k 2
theorem LX.c3 (h : LX w b n0 g s r sl p v5 v6 v7 qs ls es W) : W.cell? ⟨b, 3, none⟩ = some (.int .i64 sl) := h.k 3
theorem LX.c4 (h : LX w b n0 g s r sl p v5 v6 v7 qs ls es W) : W.cell? ⟨b, 4, none⟩ = some (.int .i64 p) := h.k 4
theorem LX.c5 (h : LX w b n0 g s r sl p v5 v6 v7 qs ls es W) : W.cell? ⟨b, 5, none⟩ = some v5 := h.k 5
theorem LX.c6 (h : LX w b n0 g s r sl p v5 v6 v7 qs ls es W) : W.cell? ⟨b, 6, none⟩ = some v6 := h.k 6
theorem LX.c7 (h : LX w b n0 g s r sl p v5 v6 v7 qs ls es W) : W.cell? ⟨b, 7, none⟩ = some v7 := h.k 7
theorem LX.on (h : LX w b n0 g s r sl p v5 v6 v7 qs ls es W) (hb : Below W.heap.size W W') : LX w b n0 g s r sl p v5 v6 v7 qs ls es W' :=
 ⟨(hb.block b (Array.getElem?_eq_some_iff.1 h.box).1).trans h.box, h.rows.k36 (K36.below hb), h.below.trans (hb.mono h.below.size), h.hn.1, h.hn.2.1, Nat.le_trans h.hn.2.2 hb.size⟩
theorem LX.alloc (h : LX w b n0 g s r sl p v5 v6 v7 qs ls es W) (o : Obj) : LX w b n0 g s r sl p v5 v6 v7 qs ls es (W.alloc o) := h.on ((Below.refl _ _).alloc (Nat.le_refl _) _)
theorem LX.drew (h : LX w b n0 g s r sl p v5 v6 v7 qs ls es W) : LX w b n0 g s r sl p v5 v6 v7 qs ls es W.drew := h.on ⟨rfl, rfl, rfl, Nat.le_refl _, fun _ _ => rfl⟩
theorem LX.set2 (h : LX w b n0 g s r sl p v5 v6 v7 qs ls es W) (x : Int) : LX w b n0 g s x sl p v5 v6 v7 qs ls es (W.setCell ⟨b, 2, none⟩ (.int .i64 x)) :=
 ⟨by simp [World.setCell, Array.getElem?_modify, h.box], h.rows.k36 (K36.set h.box _ _), h.below.setCell h.hn.2.1 _, h.hn.1, h.hn.2.1, by simpa [World.setCell] using h.hn.2.2⟩
theorem LX.set3 (h : LX w b n0 g s r sl p v5 v6 v7 qs ls es W) (x : Int) : LX w b n0 g s r x p v5 v6 v7 qs ls es (W.setCell ⟨b, 3, none⟩ (.int .i64 x)) :=
 ⟨by simp [World.setCell, Array.getElem?_modify, h.box], h.rows.k36 (K36.set h.box _ _), h.below.setCell h.hn.2.1 _, h.hn.1, h.hn.2.1, by simpa [World.setCell] using h.hn.2.2⟩
theorem LX.fr' (h : W'.heap[b]? = some (.cells #[g, s, r, sl, p, v5, v6, v7] 36 (0, 0))) (o : Nat) : W'.frozen? ⟨b, o, none⟩ = false := by simp [World.frozen?, h]
end
def XB (b : Nat) (A : Option Addr) (nx cx : Nat) (n0 n1 n2 : Int) (W : World) : Prop := W.heap[b]? = some (.cells #[.slice A nx cx] 24 (0, 0)) /\ W.heap[b + 1]? = some (.cells #[.int .u8 n0, .int .u8 n1, .int .u8 n2] 93 (0, 0))
section
variable {b : Nat} {A : Option Addr} {nx cx : Nat} {n0 n1 n2 : Int} {W W' : World}
theorem XB.on (h : XB b A nx cx n0 n1 n2 W) (hb : Below W.heap.size W W') : XB b A nx cx n0 n1 n2 W' :=
 ⟨(hb.block b (Array.getElem?_eq_some_iff.1 h.1).1).trans h.1, (hb.block (b + 1) (Array.getElem?_eq_some_iff.1 h.2).1).trans h.2⟩
theorem XB.cells (h : XB b A nx cx n0 n1 n2 W) : W.cell? ⟨b, 0, none⟩ = some (.slice A nx cx) /\ W.cell? ⟨b + 1, 0, none⟩ = some (.int .u8 n0) /\ W.cell? ⟨b + 1, 1, none⟩ = some (.int .u8 n1) /\ W.cell? ⟨b + 1, 2, none⟩ = some (.int .u8 n2) :=
 ⟨cell_blk h.1 (i := 0) rfl, cell_blk h.2 (i := 0) rfl, cell_blk h.2 (i := 1) rfl, cell_blk h.2 (i := 2) rfl⟩
end
def MadeP (c : CdV) (a : CdA) (w : World) : Prop := MdOk c /\ CdK c a w
theorem arM_names : ∀ a, a ∈ arM -> a.1.size <= 9223372036854775807 := by
 intro a ha
 simp only [arM, List.mem_cons, List.not_mem_nil, or_false] at ha
 rcases ha with rfl | rfl | rfl | rfl | rfl <;> decide
theorem flatB_app (x y : List BlE) : flatB (x ++ y) = flatB x ++ flatB y := by
 unfold flatB
 rw [List.flatMap_append]
def setN (g : Nat) : Nat -> List Value -> World -> World
 | _, [], W => W
 | o, v :: vs, W => setN g (o + 1) vs (W.setCell ⟨g, o, none⟩ v)
def setL : Nat -> List Value -> List Value -> List Value
 | _, [], xs => xs
 | o, v :: vs, xs => setL (o + 1) vs (xs.set o v)
theorem setN_row {base e size n cap g : Nat} : ∀ (vs : List Value) (o : Nat) (W : World) (xs : List Value), W.ownsRow base e size (.slice (some ⟨g, 0, none⟩) n cap) n xs ->
 (setN g o vs W).ownsRow base e size (.slice (some ⟨g, 0, none⟩) n cap) n (setL o vs xs) /\ W.grownBy (setN g o vs W) (some g)
 | [], _, _, _, h => ⟨h, rfl, rfl, rfl, Nat.le_refl _, fun _ _ _ => rfl⟩
 | v :: vs, o, W, xs, h => by
  have s := h.stored o v
  obtain ⟨r1, r2⟩ := setN_row vs (o + 1) _ _ s.1
  exact ⟨r1, r2.os.trans s.2.os, r2.tape.trans s.2.tape, r2.output.trans s.2.output, Nat.le_trans s.2.size r2.size, fun k hk hne => (r2.block k (Nat.lt_of_lt_of_le hk s.2.size) hne).trans (s.2.block k hk hne)⟩
theorem setL_mid : ∀ (vs A B C : List Value), B.length = vs.length -> setL A.length vs (A ++ (B ++ C)) = A ++ (vs ++ C)
 | [], A, B, C, h => by
  obtain rfl : B = [] := List.eq_nil_of_length_eq_zero h
  rfl
 | v :: vs, A, [], C, h => by cases h
 | v :: vs, A, x :: B, C, h => by
  have e : (A ++ (x :: B ++ C)).set A.length v = (A ++ [v]) ++ (B ++ C) := by
   rw [List.set_append_right _ _ (Nat.le_refl _), Nat.sub_self]
   simp
  have e2 : A.length + 1 = (A ++ [v]).length := by simp
  show setL (A.length + 1) vs ((A ++ (x :: B ++ C)).set A.length v) = _
  rw [e, e2, setL_mid vs (A ++ [v]) B C (by simpa using h)]
  simp
theorem flatI_len (l : List InstV) : (flatI l).length = l.length * 15 := by
 induction l with
 | nil => rfl
 | cons x l ih =>
  show (x.cells ++ flatI l).length = _
  rw [List.length_append, ih, List.length_cons, Nat.succ_mul, Nat.add_comm]
  rfl
def frI (i : InstV) (n : Nat) (x : OpdV) : InstV := if n = 0 then { i with d := x } else if n = 1 then { i with a := x } else if n = 2 then { i with b := x } else { i with c := x }
def FB (b : Nat) (A : Option Addr) (nx cx : Nat) (n0 n1 : Int) (W : World) : Prop := W.heap[b]? = some (.cells #[.slice A nx cx] 24 (0, 0)) /\ W.heap[b + 1]? = some (.cells #[.int .u8 n0, .int .u8 n1] 25 (0, 0))
section
variable {b : Nat} {A : Option Addr} {nx cx : Nat} {n0 n1 : Int} {W W' : World}
theorem FB.on (h : FB b A nx cx n0 n1 W) (hb : Below W.heap.size W W') : FB b A nx cx n0 n1 W' :=
 ⟨(hb.block b (Array.getElem?_eq_some_iff.1 h.1).1).trans h.1, (hb.block (b + 1) (Array.getElem?_eq_some_iff.1 h.2).1).trans h.2⟩
theorem FB.cells (h : FB b A nx cx n0 n1 W) : W.cell? ⟨b, 0, none⟩ = some (.slice A nx cx) /\ W.cell? ⟨b + 1, 0, none⟩ = some (.int .u8 n0) /\ W.cell? ⟨b + 1, 1, none⟩ = some (.int .u8 n1) :=
 ⟨cell_blk h.1 (i := 0) rfl, cell_blk h.2 (i := 0) rfl, cell_blk h.2 (i := 1) rfl⟩
end
abbrev ops4 (x y z u : OpdV) : Array Value := #[x.k, x.n, .int .i32 x.v, y.k, y.n, .int .i32 y.v, z.k, z.n, .int .i32 z.v, u.k, u.n, .int .i32 u.v]
theorem LX.inst {w W : World} {b n0 gB cB gI cI nb ni k : Nat} {g s r sl p : Int} {v5 v6 : Value} {qs : List ArV} {ls : List LoV} {es1 es2 : List BlE} {e : BlE} (h : LX w b n0 g s r sl p v5 v6 (.slice (some ⟨gB, 0, none⟩) nb cB) qs ls (es1 ++ e :: es2) W)
 (hl : (es1 ++ e :: es2).length = nb) (he : e.1 = .slice (some ⟨gI, 0, none⟩) ni cI) (hi : e.2.1.length = ni) (hk : k < ni) :
 W.cell? ⟨gB, es1.length * 14, none⟩ = some (.slice (some ⟨gI, 0, none⟩) ni cI) /\ (∀ o, W.frozen? ⟨gI, o, none⟩ = false) /\ (∀ j, j < 15 -> ∃ v, W.cell? ⟨gI, k * 15 + j, none⟩ = some v) /\ b ≠ gI /\ gB ≠ gI := by
 have hb := h.rows.blocks
 rw [hl] at hb
 have hr := h.rows.insts e (List.mem_append.2 (.inr List.mem_cons_self))
 rw [he, hi] at hr
 have hlt : es1.length < (es1 ++ e :: es2).length := by simp
 refine ⟨?_, fun o => hr.frozenAt o, fun j hj => ?_, ?_, ?_⟩
 . rw [hb.cellAt _ (by rw [<- hl, List.length_append, List.length_cons]; omega)]
   have := flat_get blC 14 (fun _ => rfl) (es1 ++ e :: es2) es1.length 0 hlt (by decide)
   rw [Nat.add_zero] at this
   unfold flatB
   rw [this, List.getElem_append_right (Nat.le_refl _)]
   simp [blC, he]
 . have hlt2 : k * 15 + j < (flatI e.2.1).length := by
    rw [flatI_len, hi]
    omega
   exact ⟨_, (hr.cellAt _ (by omega)).trans (List.getElem?_eq_getElem hlt2)⟩
 . rcases hr.2 with ⟨e1, _⟩ | ⟨g', cap', cur, e1, _, hg, _⟩
   . cases e1
   . simp only [Value.slice.injEq, Option.some.injEq, Addr.mk.injEq, and_true] at e1
     intro hh
     have h2 := h.box
     rw [hh, e1.1, hg] at h2
     simp at h2
 . rcases hr.2 with ⟨e1, _⟩ | ⟨g', cap', cur, e1, _, hg, _⟩
   . cases e1
   . simp only [Value.slice.injEq, Option.some.injEq, Addr.mk.injEq, and_true] at e1
     rcases hb.2 with ⟨e2, _⟩ | ⟨g2, cap2, cur2, e2, _, hg2, _⟩
     . cases e2
     . simp only [Value.slice.injEq, Option.some.injEq, Addr.mk.injEq, and_true] at e2
       intro hh
       rw [<- e2.1, hh, e1.1, hg] at hg2
       simp at hg2
theorem set3 {W : World} {bl n : Nat} (hn : n < 4) (i : InstV) (x : OpdV) (h : W.heap[bl]? = some (.cells (ops4 i.d i.a i.b i.c) 27 (0, 0))) :
 ∃ m0 m1 m2 m3, (((W.setCell ⟨bl, n * 3, none⟩ (.int .i64 x.k)).setCell ⟨bl, n * 3 + 1, none⟩ (.int .i64 x.n)).setCell ⟨bl, n * 3 + 2, none⟩ (.int .i32 x.v)).heap[bl]? = some (.cells (ops4 m0 m1 m2 m3) 27 (0, 0)) /\ frI i n x = ⟨i.op, i.sub, i.n, m0, m1, m2, m3⟩ := by
 have : n = 0 \/ n = 1 \/ n = 2 \/ n = 3 := by omega
 rcases this with rfl | rfl | rfl | rfl
 . exact ⟨x, i.a, i.b, i.c, heap_setCell_same _ bl 2 _ 27 _ (heap_setCell_same _ bl 1 _ 27 _ (heap_setCell_same _ bl 0 _ 27 _ h)), rfl⟩
 . exact ⟨i.d, x, i.b, i.c, heap_setCell_same _ bl 5 _ 27 _ (heap_setCell_same _ bl 4 _ 27 _ (heap_setCell_same _ bl 3 _ 27 _ h)), rfl⟩
 . exact ⟨i.d, i.a, x, i.c, heap_setCell_same _ bl 8 _ 27 _ (heap_setCell_same _ bl 7 _ 27 _ (heap_setCell_same _ bl 6 _ 27 _ h)), rfl⟩
 . exact ⟨i.d, i.a, i.b, x, heap_setCell_same _ bl 11 _ 27 _ (heap_setCell_same _ bl 10 _ 27 _ (heap_setCell_same _ bl 9 _ 27 _ h)), rfl⟩
theorem setN_eq (g : Nat) : ∀ (vs : List Value) (o : Nat) (W : World), setN g o vs W = W.setCells g o vs
 | [], _, _ => rfl
 | v :: vs, o, W => setN_eq g vs (o + 1) (W.setCell ⟨g, o, none⟩ v)
theorem step_store_mid {P : Program} {ops : Array Oper} {o : Oper} {a : Act} {w : World} {K : Act -> World -> Prop} {Q : Exit -> Act -> World -> Prop} {E : Prop} (hgd : o.guard = none) (ty : TypeId) (x y : Operand) (ho : o.op = .store ty x y)
 (b off : Nat) (cells : Array Value) (hx : a.eval x = .pointer (some ⟨b, off, none⟩)) (hy : a.eval y = .agg cells) (ht : w.there b off cells.size) (hi : (P.info? ty).map (·.size) = some cells.size) (h1 : cells.all (·.oneCell') = true)
 (h : K (a.put o.dst undef) (w.setCells b off cells.toList)) : if Region.wanted o (yielded ops a.tmps) = true then Oper.wp P o a w K Q else E := by
 have hw : Region.wanted o (yielded ops a.tmps) = true := by simp [Region.wanted, hgd]
 rw [if_pos hw]
 exact wp_store_mid ty x y ho b off cells hx hy ht hi h1 h
def rn (p q n : Int) : Int := if n = p then q else if n = q then p else n
theorem infoInt3 : (Tryz.prog.info? 3).map (fun i => (i.zero, i.size, i.bytes)) = some (some (.int .i64 0), 1, 8) := by kernel_rfl
theorem flatB_storeT (es1 es2 : List BlE) (e : BlE) (t : TermV) : setL (es1.length * 14 + 1) t.cells (flatB (es1 ++ e :: es2)) = flatB (es1 ++ (e.1, e.2.1, t) :: es2) := by
 have e1 : flatB (es1 ++ e :: es2) = (flatB es1 ++ [e.1]) ++ (e.2.2.cells ++ flatB es2) := by
  rw [flatB_app]
  show flatB es1 ++ (blC e ++ flatB es2) = _
  simp [blC]
 have e2 : flatB (es1 ++ (e.1, e.2.1, t) :: es2) = (flatB es1 ++ [e.1]) ++ (t.cells ++ flatB es2) := by
  rw [flatB_app]
  show flatB es1 ++ (blC (e.1, e.2.1, t) ++ flatB es2) = _
  simp [blC]
 have e3 : es1.length * 14 + 1 = (flatB es1 ++ [e.1]).length := by rw [List.length_append, flatB_len]; rfl
 rw [e1, e2, e3]
 exact setL_mid _ _ _ _ rfl
theorem LX.storeT {w W : World} {b n0 gB cB nb : Nat} {g s r sl p : Int} {v5 v6 : Value} {qs : List ArV} {ls : List LoV} {es1 es2 : List BlE} {e : BlE} (t : TermV) (h : LX w b n0 g s r sl p v5 v6 (.slice (some ⟨gB, 0, none⟩) nb cB) qs ls (es1 ++ e :: es2) W) (hl : (es1 ++ e :: es2).length = nb) :
 LX w b n0 g s r sl p v5 v6 (.slice (some ⟨gB, 0, none⟩) nb cB) qs ls (es1 ++ (e.1, e.2.1, t) :: es2) (W.setCells gB (es1.length * 14 + 1) t.cells) := by
 have hr := h.rows.blocks
 rw [hl] at hr
 obtain ⟨h1, hg⟩ := setN_row t.cells (es1.length * 14 + 1) W _ hr
 rw [flatB_storeT, setN_eq] at h1
 rw [setN_eq] at hg
 have ks := grow_kept hr hg
 have hl2 : (es1 ++ (e.1, e.2.1, t) :: es2).length = nb := by
  rw [<- hl]
  simp
 refine ⟨(ks _ _ _ _ h.box (by decide)).trans h.box, ⟨row_kept h.rows.arr ks (by decide), row_kept h.rows.loops ks (by decide), by rw [hl2]; exact h1, fun x hx => ?_⟩, grow_below h.below hr hg h.hn.1 (Nat.le_refl _), h.hn.1, h.hn.2.1, Nat.le_trans h.hn.2.2 hg.size⟩
 rcases List.mem_append.1 hx with hx | hx
 . exact row_kept (h.rows.insts x (List.mem_append.2 (.inl hx))) ks (by decide)
 . rcases List.mem_cons.1 hx with rfl | hx
   . exact row_kept (h.rows.insts e (List.mem_append.2 (.inr List.mem_cons_self))) ks (by decide)
   . exact row_kept (h.rows.insts x (List.mem_append.2 (.inr (List.mem_cons_of_mem _ hx)))) ks (by decide)
theorem LX.head {w W : World} {b n0 gB cB nb : Nat} {g s r sl p : Int} {v5 v6 : Value} {qs : List ArV} {ls : List LoV} {es1 es2 : List BlE} {e : BlE} (h : LX w b n0 g s r sl p v5 v6 (.slice (some ⟨gB, 0, none⟩) nb cB) qs ls (es1 ++ e :: es2) W)
 (hl : (es1 ++ e :: es2).length = nb) : W.cell? ⟨gB, es1.length * 14, none⟩ = some e.1 := by
 have hb := h.rows.blocks
 rw [hl] at hb
 have hlt : es1.length < (es1 ++ e :: es2).length := by simp
 rw [hb.cellAt _ (by rw [<- hl, List.length_append, List.length_cons]; omega)]
 have := flat_get blC 14 (fun _ => rfl) (es1 ++ e :: es2) es1.length 0 hlt (by decide)
 rw [Nat.add_zero] at this
 unfold flatB
 rw [this, List.getElem_append_right (Nat.le_refl _)]
 simp [blC]
theorem flatB_setI (es1 es2 : List BlE) (e : BlE) (v : Value) (is : List InstV) : (flatB (es1 ++ e :: es2)).set (es1.length * 14) v = flatB (es1 ++ (v, is, e.2.2) :: es2) := by
 rw [flatB_app, flatB_app, List.set_append_right _ _ (by rw [flatB_len]; exact Nat.le_refl _), flatB_len, Nat.sub_self]
 rfl
section
variable {w W W' : World} {b n0 : Nat} {g s r sl p : Int} {v5 v6 v7 : Value} {qs : List ArV} {ls : List LoV} {es : List BlE}
theorem LX.boxr (h : LX w b n0 g s r sl p v5 v6 v7 qs ls es W) {e size n : Nat} {v : Value} {xs : List Value} (hr : W.ownsRow n0 e size v n xs) (hg : W.grownBy W' v.ownBlock) (he : 36 ≠ e) :
 W'.heap[b]? = some (.cells #[g, s, r, sl, p, v5, v6, v7] 36 (0, 0)) /\ Below w.heap.size w W' /\ n0 <= W'.heap.size :=
 ⟨(grow_kept hr hg _ _ _ _ h.box he).trans h.box, grow_below h.below hr hg h.hn.1 (Nat.le_refl _), Nat.le_trans h.hn.2.2 hg.size⟩
theorem LX.pushB (h : LX w b n0 g s r sl p v5 v6 v7 qs ls es W) {v : Value} {x : BlE} (hx : x.1 = .slice none 0 0 /\ x.2.1 = []) (hr : W'.ownsRow n0 55 14 v (es.length + 1) (flatB es ++ blC x)) (hg : W.grownBy W' v7.ownBlock) :
 LX w b n0 g s r sl p v5 v6 v qs ls (es ++ [x]) (W'.setCell ⟨b, 7, none⟩ v) := by
 obtain ⟨hb, hbw, hs⟩ := h.boxr h.rows.blocks hg (by decide)
 have kg := grow_kept h.rows.blocks hg
 have ks := K36.set hb 7 v
 refine ⟨by simp [World.setCell, Array.getElem?_modify, hb], ⟨row_kept (row_kept h.rows.arr kg (by decide)) ks.1 (by decide), row_kept (row_kept h.rows.loops kg (by decide)) ks.1 (by decide), ?_, fun e he => ?_⟩, hbw.setCell h.hn.2.1 v, h.hn.1, h.hn.2.1, by simpa [World.setCell] using hs⟩
 . rw [List.length_append, flatB_snoc]
   exact row_kept hr ks.1 (by decide)
 . rcases List.mem_append.1 he with he | he
   . exact row_kept (row_kept (h.rows.insts e he) kg (by decide)) ks.1 (by decide)
   . rw [List.mem_singleton] at he
     subst he
     rw [hx.1, hx.2]
     exact World.ownsRow_nil _ _ _ _
theorem LX.sets (h : LX w b n0 g s r sl p v5 v6 v7 qs ls es W) (o : Nat) (v : Value) {g' s' r' sl' p' : Int} (e : (#[g, s, r, sl, p, v5, v6, v7] : Array Value).setIfInBounds o v = (#[g', s', r', sl', p', v5, v6, v7] : Array Value)) :
 LX w b n0 g' s' r' sl' p' v5 v6 v7 qs ls es (W.setCell ⟨b, o, none⟩ v) := by
 have ks := K36.set h.box o v
 refine ⟨?_, h.rows.k36 ks, h.below.setCell h.hn.2.1 v, h.hn.1, h.hn.2.1, by simpa [World.setCell] using h.hn.2.2⟩
 have := heap_setCell_same W b o _ 36 v h.box
 rwa [e] at this
theorem LX.push5 (h : LX w b n0 g s r sl p v5 v6 v7 qs ls es W) {v : Value} {x : ArV} (hr : W'.ownsRow n0 91 4 v (qs.length + 1) (flatA qs ++ arC x)) (hg : W.grownBy W' v5.ownBlock) :
 LX w b n0 g s r sl p v v6 v7 (qs ++ [x]) ls es (W'.setCell ⟨b, 5, none⟩ v) := by
 obtain ⟨hb, hbw, hs⟩ := h.boxr h.rows.arr hg (by decide)
 have kg := grow_kept h.rows.arr hg
 have ks := K36.set hb 5 v
 refine ⟨by simp [World.setCell, Array.getElem?_modify, hb], ⟨?_, row_kept (row_kept h.rows.loops kg (by decide)) ks.1 (by decide), row_kept (row_kept h.rows.blocks kg (by decide)) ks.1 (by decide), fun e he => row_kept (row_kept (h.rows.insts e he) kg (by decide)) ks.1 (by decide)⟩, hbw.setCell h.hn.2.1 v, h.hn.1, h.hn.2.1, by simpa [World.setCell] using hs⟩
 rw [List.length_append, flatA_snoc]
 exact row_kept hr ks.1 (by decide)
theorem LX.push6 (h : LX w b n0 g s r sl p v5 v6 v7 qs ls es W) {v : Value} {x : LoV} (hr : W'.ownsRow n0 85 3 v (ls.length + 1) (flatL ls ++ loC x)) (hg : W.grownBy W' v6.ownBlock) :
 LX w b n0 g s r sl p v5 v v7 qs (ls ++ [x]) es (W'.setCell ⟨b, 6, none⟩ v) := by
 obtain ⟨hb, hbw, hs⟩ := h.boxr h.rows.loops hg (by decide)
 have kg := grow_kept h.rows.loops hg
 have ks := K36.set hb 6 v
 refine ⟨by simp [World.setCell, Array.getElem?_modify, hb], ⟨row_kept (row_kept h.rows.arr kg (by decide)) ks.1 (by decide), ?_, row_kept (row_kept h.rows.blocks kg (by decide)) ks.1 (by decide), fun e he => row_kept (row_kept (h.rows.insts e he) kg (by decide)) ks.1 (by decide)⟩, hbw.setCell h.hn.2.1 v, h.hn.1, h.hn.2.1, by simpa [World.setCell] using hs⟩
 rw [List.length_append, flatL_snoc]
 exact row_kept hr ks.1 (by decide)
end
end Go.Proofs.YtkncilgmlkeifaaGreatDoor
