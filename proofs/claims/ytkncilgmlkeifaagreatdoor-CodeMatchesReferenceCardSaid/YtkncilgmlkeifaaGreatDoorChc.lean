import Derived.Test.YtkncilgmlkeifaaGreatDoorFrw
import Derived.Test.YtkncilgmlkeifaaGreatDoorChg
import Derived.Test.YtkncilgmlkeifaaGreatDoorTkp
import Derived.Deep.DeepCutAuto
import Derived.Deep.CutBlock
import Derived.Deep.Upon
/-
  CodeMatchesReference: the contract of changed, for all parts.
-/
set_option linter.unusedVariables false
set_option linter.unusedSimpArgs false
set_option maxRecDepth 100000
set_option maxHeartbeats 8000000
namespace Go.Proofs.YtkncilgmlkeifaaGreatDoor
open Go.ChangeShapes Go.WideShapes Go.ChangeAt Go.RowKit Go.Shelf
theorem box8m {W : World} {b : Nat} {u0 u1 u2 u3 u4 u5 u6 u7 : Value} (v0 v1 v2 v3 v4 v5 v6 v7 : Value) (h : W.heap[b]? = some (.cells #[u0, u1, u2, u3, u4, u5, u6, u7] 36 (0, 0))) :
 ((((((((W.setCell ⟨b, 0, none⟩ v0).setCell ⟨b, 1, none⟩ v1).setCell ⟨b, 2, none⟩ v2).setCell ⟨b, 3, none⟩ v3).setCell ⟨b, 4, none⟩ v4).setCell ⟨b, 5, none⟩ v5).setCell ⟨b, 6, none⟩ v6).setCell ⟨b, 7, none⟩ v7).heap[b]? = some (.cells #[v0, v1, v2, v3, v4, v5, v6, v7] 36 (0, 0)) := by
 have e0 := heap_setCell_same _ b 0 _ 36 v0 h
 simp only [List.setIfInBounds_toArray, List.set_cons_zero, List.set_cons_succ] at e0
 have e1 := heap_setCell_same _ b 1 _ 36 v1 e0
 simp only [List.setIfInBounds_toArray, List.set_cons_zero, List.set_cons_succ] at e1
 have e2 := heap_setCell_same _ b 2 _ 36 v2 e1
 simp only [List.setIfInBounds_toArray, List.set_cons_zero, List.set_cons_succ] at e2
 have e3 := heap_setCell_same _ b 3 _ 36 v3 e2
 simp only [List.setIfInBounds_toArray, List.set_cons_zero, List.set_cons_succ] at e3
 have e4 := heap_setCell_same _ b 4 _ 36 v4 e3
 simp only [List.setIfInBounds_toArray, List.set_cons_zero, List.set_cons_succ] at e4
 have e5 := heap_setCell_same _ b 5 _ 36 v5 e4
 simp only [List.setIfInBounds_toArray, List.set_cons_zero, List.set_cons_succ] at e5
 have e6 := heap_setCell_same _ b 6 _ 36 v6 e5
 simp only [List.setIfInBounds_toArray, List.set_cons_zero, List.set_cons_succ] at e6
 have e7 := heap_setCell_same _ b 7 _ 36 v7 e6
 simp only [List.setIfInBounds_toArray, List.set_cons_zero, List.set_cons_succ] at e7
 exact e7
theorem eight_m {W : World} {b k : Nat} (v0 v1 v2 v3 v4 v5 v6 v7 : Value) (h : k ≠ b) : ((((((((W.setCell ⟨b, 0, none⟩ v0).setCell ⟨b, 1, none⟩ v1).setCell ⟨b, 2, none⟩ v2).setCell ⟨b, 3, none⟩ v3).setCell ⟨b, 4, none⟩ v4).setCell ⟨b, 5, none⟩ v5).setCell ⟨b, 6, none⟩ v6).setCell ⟨b, 7, none⟩ v7).heap[k]? = W.heap[k]? := by
 rw [heap_setCell_other _ _ _ _ h, heap_setCell_other _ _ _ _ h, heap_setCell_other _ _ _ _ h, heap_setCell_other _ _ _ _ h, heap_setCell_other _ _ _ _ h, heap_setCell_other _ _ _ _ h, heap_setCell_other _ _ _ _ h, heap_setCell_other _ _ _ _ h]
abbrev trmM (t : TermV) : Array Value := #[t.kind, t.sub, t.d.k, t.d.n, .int .i32 t.d.v, t.a.k, t.a.n, .int .i32 t.a.v, t.b.k, t.b.n, .int .i32 t.b.v, t.t0, t.t1]
theorem trmM_one (t : TermV) : (trmM t).all (·.oneCell') = true := by
 rw [Array.all_eq_true_iff_forall_mem]
 intro v hv
 simp only [List.mem_toArray, List.mem_cons, List.not_mem_nil, or_false] at hv
 rcases hv with rfl | rfl | rfl | rfl | rfl | rfl | rfl | rfl | rfl | rfl | rfl | rfl | rfl <;> rfl
theorem LX.tcellm {w W : World} {b n0 gB cB nb : Nat} {g s r sl p : Int} {v5 v6 : Value} {qs : List ArV} {ls : List LoV} {es1 es2 : List BlE} {e : BlE} (h : LX w b n0 g s r sl p v5 v6 (.slice (some ⟨gB, 0, none⟩) nb cB) qs ls (es1 ++ e :: es2) W)
 (hl : (es1 ++ e :: es2).length = nb) (j : Nat) (hj : j < 13) : W.cell? ⟨gB, es1.length * 14 + (j + 1), none⟩ = e.2.2.cells[j]? := by
 have hb := h.rows.blocks
 rw [hl] at hb
 have hlt : es1.length < (es1 ++ e :: es2).length := by simp
 rw [hb.cellAt _ (by rw [<- hl, List.length_append, List.length_cons]; omega)]
 have := flat_get blC 14 (fun _ => rfl) (es1 ++ e :: es2) es1.length (j + 1) hlt (by omega)
 unfold flatB
 rw [this, List.getElem_append_right (Nat.le_refl _)]
 simp [blC]
def st8 (W : World) (b : Nat) (v0 v1 v2 v3 v4 v5 v6 v7 : Value) : World := ((((((((W.setCell ⟨b, 0, none⟩ v0).setCell ⟨b, 1, none⟩ v1).setCell ⟨b, 2, none⟩ v2).setCell ⟨b, 3, none⟩ v3).setCell ⟨b, 4, none⟩ v4).setCell ⟨b, 5, none⟩ v5).setCell ⟨b, 6, none⟩ v6).setCell ⟨b, 7, none⟩ v7)
theorem st8_def (W : World) (b : Nat) (v0 v1 v2 v3 v4 v5 v6 v7 : Value) : ((((((((W.setCell ⟨b, 0, none⟩ v0).setCell ⟨b, 1, none⟩ v1).setCell ⟨b, 2, none⟩ v2).setCell ⟨b, 3, none⟩ v3).setCell ⟨b, 4, none⟩ v4).setCell ⟨b, 5, none⟩ v5).setCell ⟨b, 6, none⟩ v6).setCell ⟨b, 7, none⟩ v7) = st8 W b v0 v1 v2 v3 v4 v5 v6 v7 := rfl
theorem fin8 {w V : World} {b b2 n0 : Nat} {g s r sl p : Int} {v5 v6 v7 : Value} {qs : List ArV} {ls : List LoV} {es : List BlE} {u0 u1 u2 u3 u4 u5 u6 u7 : Value} (h : LX w b n0 g s r sl p v5 v6 v7 qs ls es V) (h4 : V.heap[b2]? = some (.cells #[u0, u1, u2, u3, u4, u5, u6, u7] 36 (0, 0))) (hb : w.heap.size <= b2) :
 ∃ V2, st8 V b2 (.int .i64 g) (.int .i64 s) (.int .i64 r) (.int .i64 sl) (.int .i64 p) v5 v6 v7 = V2 /\ V2.heap[b2]? = some (.cells #[g, s, r, sl, p, v5, v6, v7] 36 (0, 0)) /\ RC n0 v5 v6 v7 qs ls es V2 /\ Below w.heap.size w V2 :=
 ⟨_, rfl, box8m _ _ _ _ _ _ _ _ h4, h.rows.k36 (k36_store h4 _ _ _ _ _ _ _ _), ((((((((h.below.setCell hb _).setCell hb _).setCell hb _).setCell hb _).setCell hb _).setCell hb _).setCell hb _).setCell hb _)⟩
theorem kcell {W : World} {b : Nat} {C : Array Value} {T : TypeId} {fr : Nat × Nat} (h : W.heap[b]? = some (.cells C T fr)) (o : Nat) : W.cell? ⟨b, o, none⟩ = C[o]? := by simp [World.cell?, h]
structure GC (N : Nat) (c : CdV) : Prop where
 q : c.q.length <= N
 l : c.l.length <= N
 b : c.b.length <= N
 i : ∀ e, e ∈ c.b -> e.1.length <= N
 nm : ∀ a, a ∈ c.q -> a.1.size <= 9223372036854775807
 ok : CdOk c
theorem GC.up {N : Nat} {c : CdV} (h : GC N c) : GC (N + 1) c := ⟨Nat.le_succ_of_le h.q, Nat.le_succ_of_le h.l, Nat.le_succ_of_le h.b, fun e he => Nat.le_succ_of_le (h.i e he), h.nm, h.ok⟩
theorem gc_n {N i : Nat} {c : CdV} {b : List (List InstV × TermV)} {y : Int} (h : GC N c) (hb : b = c.b) (hy : I64 y) : GC (N + 1) ⟨c.q, c.l, b, fun j => if j = i then y else c.n j⟩ := by
 subst hb
 refine ⟨Nat.le_succ_of_le h.q, Nat.le_succ_of_le h.l, Nat.le_succ_of_le h.b, fun e he => Nat.le_succ_of_le (h.i e he), h.nm, ⟨fun j => ?_, h.ok.q, h.ok.l, h.ok.i, h.ok.t⟩⟩
 show I64 (if j = i then y else c.n j)
 split
 . exact hy
 . exact h.ok.n j
theorem split_q {α : Type} (l : List α) {k : Nat} (hk : k < l.length) : ∃ l1 x l2, l = l1 ++ x :: l2 /\ l1.length = k :=
 ⟨l.take k, l[k], l.drop (k + 1), by rw [<- List.drop_eq_getElem_cons hk, List.take_append_drop], by rw [List.length_take]; omega⟩
theorem flatA_len (l : List ArV) : (flatA l).length = l.length * 4 := by
 unfold flatA
 induction l with
 | nil => rfl
 | cons x l ih => rw [List.flatMap_cons, List.length_append, ih, List.length_cons]; show 4 + _ = _; omega
theorem flatA_mid (q1 q2 : List ArV) (x x' : ArV) (f : Nat) (v : Value) (hf : f < 4) (hx : (arC x).set f v = arC x') : (flatA (q1 ++ x :: q2)).set (q1.length * 4 + f) v = flatA (q1 ++ x' :: q2) := by
 have hl := flatA_len q1
 unfold flatA at *
 rw [List.flatMap_append, List.flatMap_append, List.flatMap_cons, List.flatMap_cons, List.set_append_right _ _ (by omega), hl, Nat.add_sub_cancel_left, List.set_append_left _ _ (by show f < 4; exact hf), hx]
section
variable {w W : World} {b n0 g5 c5 g7 c7 n : Nat} {g s r sl p : Int} {v5 v6 v7 : Value} {qs qs' : List ArV} {ls : List LoV} {es : List BlE}
theorem LX.rowQ (h : LX w b n0 g s r sl p (.slice (some ⟨g5, 0, none⟩) n c5) v6 v7 qs ls es W) (hn : qs.length = n) (o : Nat) (v : Value) (hq : (flatA qs).set o v = flatA qs') (hl : qs'.length = qs.length) :
 LX w b n0 g s r sl p (.slice (some ⟨g5, 0, none⟩) n c5) v6 v7 qs' ls es (W.setCell ⟨g5, o, none⟩ v) := by
 have hr := h.rows.arr
 rw [hn] at hr
 obtain ⟨h1, hg⟩ := hr.stored o v
 rw [hq] at h1
 have kg := grow_kept hr hg
 refine ⟨(kg _ _ _ _ h.box (by decide)).trans h.box, ⟨by rw [hl, hn]; exact h1, row_kept h.rows.loops kg (by decide), row_kept h.rows.blocks kg (by decide), fun e he => row_kept (h.rows.insts e he) kg (by decide)⟩, grow_below h.below hr hg h.hn.1 (Nat.le_refl _), h.hn.1, h.hn.2.1, Nat.le_trans h.hn.2.2 hg.size⟩
theorem LX.rowA (h : LX w b n0 g s r sl p v5 v6 v7 qs ls es W) (hn : 0 < qs.length) : ∃ g5 c5, v5 = .slice (some ⟨g5, 0, none⟩) qs.length c5 /\ g5 < W.heap.size /\ n0 <= g5 /\ (∀ o, W.frozen? ⟨g5, o, none⟩ = false) /\ ∀ o, o < qs.length * 4 -> ∃ u, W.cell? ⟨g5, o, none⟩ = some u := by
 obtain ⟨g5, c5, e, h1, h2⟩ := h.rows.arr.form hn
 have hr := h.rows.arr
 rw [e] at hr
 exact ⟨g5, c5, e, h2, h1, fun o => hr.frozenAt o, fun o ho => ⟨_, (hr.cellAt _ ho).trans (List.getElem?_eq_getElem (by rw [flatA_len]; exact ho))⟩⟩
theorem LX.takeB (h : LX w b n0 g s r sl p v5 v6 (.slice (some ⟨g7, 0, none⟩) n c7) qs ls es W) (hn : es.length = n) {k : Nat} (hk : k <= n) :
 LX w b n0 g s r sl p v5 v6 (.slice (some ⟨g7, 0, none⟩) k c7) qs ls (es.take k) (W.setCell ⟨b, 7, none⟩ (.slice (some ⟨g7, 0, none⟩) k c7)) := by
 have ks := K36.set h.box 7 (.slice (some ⟨g7, 0, none⟩) k c7)
 have hb := h.rows.blocks
 rw [hn] at hb
 refine ⟨by simp [World.setCell, Array.getElem?_modify, h.box], ⟨row_kept h.rows.arr ks.1 (by decide), row_kept h.rows.loops ks.1 (by decide), ?_, fun e he => row_kept (h.rows.insts e (List.mem_of_mem_take he)) ks.1 (by decide)⟩, h.below.setCell h.hn.2.1 _, h.hn.1, h.hn.2.1, by simpa [World.setCell] using h.hn.2.2⟩
 have hkt : (es.take k).length = k := by rw [List.length_take]; omega
 rw [hkt]
 refine row_kept ?_ ks.1 (by decide)
 have hfl : (flatB es).take (k * 14) = flatB (es.take k) := by
  conv => lhs; rw [<- List.take_append_drop k es, show flatB (es.take k ++ es.drop k) = flatB (es.take k) ++ flatB (es.drop k) from List.flatMap_append ..]
  rw [List.take_append_of_le_length (by rw [flatB_len, hkt]; exact Nat.le_refl _), List.take_of_length_le (by rw [flatB_len, hkt]; exact Nat.le_refl _)]
 refine ⟨by rw [flatB_len, hkt], ?_⟩
 rcases hb.2 with ⟨e1, _⟩ | ⟨g', cap, cur, e1, h1, h2, h3, h4, h5, h6⟩
 . cases e1
 . simp only [Value.slice.injEq, Option.some.injEq, Addr.mk.injEq, and_true, true_and] at e1
   refine .inr ⟨g', cap, cur, by rw [e1.1, e1.2], h1, h2, Nat.le_trans hk h3, h4, h5, ?_⟩
   rw [<- hfl, <- h6, List.take_take, Nat.min_eq_left (by omega)]
end
theorem gc_q {N : Nat} {c : CdV} {b : List (List InstV × TermV)} {q1 q2 : List ArV} {x x' : ArV} (h : GC N c) (hb : b = c.b) (hq : c.q = q1 ++ x :: q2) (hx : x'.1.size <= 9223372036854775807 /\ I64 x'.2.1 /\ I64 x'.2.2.1 /\ I64 x'.2.2.2) : GC (N + 1) ⟨q1 ++ x' :: q2, c.l, b, c.n⟩ := by
 subst hb
 have hm : ∀ y, y ∈ q1 ++ x' :: q2 -> y = x' \/ y ∈ c.q := fun y hy => by
  rw [hq]
  rcases List.mem_append.1 hy with h | h
  . exact .inr (List.mem_append.2 (.inl h))
  . rcases List.mem_cons.1 h with h | h
    . exact .inl h
    . exact .inr (List.mem_append.2 (.inr (List.mem_cons_of_mem _ h)))
 have hl := h.q
 rw [hq] at hl
 refine ⟨by simp only [List.length_append, List.length_cons] at hl ⊢; omega, Nat.le_succ_of_le h.l, Nat.le_succ_of_le h.b, fun e he => Nat.le_succ_of_le (h.i e he), fun y hy => ?_, ⟨h.ok.n, fun y hy => ?_, h.ok.l, h.ok.i, h.ok.t⟩⟩
 . rcases hm y hy with rfl | h'
   . exact hx.1
   . exact h.nm y h'
 . rcases hm y hy with rfl | h'
   . exact hx.2
   . exact h.ok.q y h'
theorem gc_b {N : Nat} {c : CdV} {b : List (List InstV × TermV)} (h : GC N c) (hl : b.length <= N + 1) (hm : ∀ e, e ∈ b -> e ∈ c.b \/ (e.1.length <= N + 1 /\ (∀ x, x ∈ e.1 -> x.parts.Rng) /\ e.2.parts.Rng)) : GC (N + 1) ⟨c.q, c.l, b, c.n⟩ := by
 refine ⟨Nat.le_succ_of_le h.q, Nat.le_succ_of_le h.l, hl, fun e he => ?_, h.nm, ⟨h.ok.n, h.ok.q, h.ok.l, fun e he => ?_, fun e he => ?_⟩⟩
 . rcases hm e he with h' | h'
   . exact Nat.le_succ_of_le (h.i e h')
   . exact h'.1
 . rcases hm e he with h' | h'
   . exact h.ok.i e h'
   . exact h'.2.1
 . rcases hm e he with h' | h'
   . exact h.ok.t e h'
   . exact h'.2.2
theorem gc_l {N : Nat} {c : CdV} {b : List (List InstV × TermV)} {x : LoV} (h : GC N c) (hb : b = c.b) (hx : I64 x.1 /\ I64 x.2.1 /\ I64 x.2.2) : GC (N + 1) ⟨c.q, c.l ++ [x], b, c.n⟩ := by
 subst hb
 refine ⟨Nat.le_succ_of_le h.q, by simp only [List.length_append, List.length_singleton]; exact Nat.succ_le_succ h.l, Nat.le_succ_of_le h.b, fun e he => Nat.le_succ_of_le (h.i e he), h.nm, ⟨h.ok.n, h.ok.q, fun y hy => ?_, h.ok.i, h.ok.t⟩⟩
 rcases List.mem_append.1 hy with h' | h'
 . exact h.ok.l y h'
 . rw [List.mem_singleton] at h'
   subst h'
   exact hx
theorem small64 {n : Int} (h : -1000000 <= n /\ n <= 1000000) : I64 n := by unfold I64; omega
theorem chgT_rng {t : TermV} {y : Int} {o : OpdV} (r : Int) (hy : I64 y) (ho : o.Rng) (h : t.parts.Rng) : (chgT r y o t).parts.Rng := by
 obtain ⟨h1, h2, h3, h4, h5, h6, h7, h8⟩ := h
 unfold chgT
 repeat' split
 all_goals exact ⟨by assumption, by assumption, by assumption, by assumption, by assumption, by assumption, by assumption, by assumption⟩
theorem chgI_rng {i : InstV} {y : Int} {o : OpdV} (r : Int) (hy : I64 y) (ho : o.Rng) (h : i.parts.Rng) : (chgI r y o i).parts.Rng := by
 obtain ⟨h1, h2, h3, h4, h5, h6, h7, h8⟩ := h
 have h9 : (⟨i.a.k, y, i.a.v⟩ : OpdV).Rng := ⟨hy, h4.v⟩
 unfold chgI
 repeat' split
 all_goals exact ⟨by assumption, by assumption, by assumption, by assumption, by assumption, by assumption, by assumption, by assumption⟩
theorem GC.fits {N : Nat} {c : CdV} (h : GC N c) (hN : N <= 65536) : c.Fits := ⟨Nat.le_trans h.q hN, Nat.le_trans h.l hN, Nat.le_trans h.b hN⟩
theorem chc_lo (c : CdV) (a : CdA) (w : World) (N : Nat) (pt a0 a1 y ok on ov : Int) (nm : ByteArray) (hN : N <= 60000) (hm : CdM c a w) (hg : GC N c) (h0 : 0 <= a0 /\ a0 <= 255) (h1 : 0 <= a1 /\ a1 <= 255) (hp : 0 <= pt /\ pt <= 255) (hy : I64 y) (ho : (⟨ok, on, ov⟩ : OpdV).Rng) (hnm : nm.size <= 9223372036854775807) (hrs : (c.b.length = 0 \/ c.q.length = 0) \/ Int.tmod pt 16 < 14) :
 Calls Tryz.prog 13 #[cdval c a, .agg #[.int .u8 pt, .int .u8 a0, .int .u8 a1, y, .string nm, ok, on, .int .i32 ov]] w fun e w' => ∃ (D : CdV) (a' : CdA), e = .returned (cdval D a') /\ (GC (N + 1) D /\ CdK D a' w') /\ Below w.heap.size w w' := by
 unfold cdval
 have hf := hg.fits (by omega)
 have HG0 := lh hg
 obtain ⟨nb, hnb⟩ : ∃ n, c.b.length = n := ⟨_, rfl⟩
 obtain ⟨nq, hnq⟩ : ∃ n, c.q.length = n := ⟨_, rfl⟩
 obtain ⟨nl, hnl⟩ : ∃ n, c.l.length = n := ⟨_, rfl⟩
 have HCP := lh (show ∀ V, Below w.heap.size w V -> Calls Tryz.prog 38 #[.agg #[(c.n 0), (c.n 1), (c.n 2), (c.n 3), (c.n 4), .slice a.a1 nq a.c1, .slice a.a2 nl a.c2, .slice a.a3 nb a.c3]] V fun e w' => ∃ A5 q5 A6 q6 A7 q7 es, e = .returned (.agg #[(c.n 0), (c.n 1), (c.n 2), (c.n 3), (c.n 4), .slice A5 nq q5, .slice A6 nl q6, .slice A7 nb q7]) /\ (RC V.heap.size (.slice A5 nq q5) (.slice A6 nl q6) (.slice A7 nb q7) c.q c.l es w' /\ es.map (·.2) = c.b /\ es.length = nb /\ DisI es) /\ Below V.heap.size V w' from fun V hV => by
  have H := Copy_cd c a V (hm.on hV) hf
  unfold cdval at H
  rw [hnb, hnq, hnl] at H
  refine H.mono ?_
  rintro e w' ⟨v5, v6, v7, es, rfl, hr, hes, hbw, hd⟩
  have hel : es.length = nb := by rw [<- hnb, <- hes, List.length_map]
  obtain ⟨A5, p5, rfl, _⟩ := own_cells hr.arr
  obtain ⟨A6, p6, rfl, _⟩ := own_cells hr.loops
  obtain ⟨A7, p7, rfl, _⟩ := own_cells hr.blocks
  rw [hel, hnq, hnl] at hr ⊢
  exact ⟨A5, p5, A6, p6, A7, p7, es, rfl, ⟨hr, hes, hel, hd⟩, hbw⟩)
 rw [hnb, hnq, hnl]
 have HB0 := lh (show Below w.heap.size w (((w.alloc (.cells #[(c.n 0), (c.n 1), (c.n 2), (c.n 3), (c.n 4), .slice a.a1 nq a.c1, .slice a.a2 nl a.c2, .slice a.a3 nb a.c3] 36)).alloc (.cells #[.int .u8 pt, .int .u8 a0, .int .u8 a1, y, .string nm, ok, on, .int .i32 ov] 29)).alloc (.cells #[(0:Int), (0:Int), (0:Int), (0:Int), (0:Int), .slice none 0 0, .slice none 0 0, .slice none 0 0] 36)) from ((bo _).alloc (by simp) _).alloc (by simp; omega) _)
 have HN0 := lh (show (((w.alloc (.cells #[(c.n 0), (c.n 1), (c.n 2), (c.n 3), (c.n 4), .slice a.a1 nq a.c1, .slice a.a2 nl a.c2, .slice a.a3 nb a.c3] 36)).alloc (.cells #[.int .u8 pt, .int .u8 a0, .int .u8 a1, y, .string nm, ok, on, .int .i32 ov] 29)).alloc (.cells #[(0:Int), (0:Int), (0:Int), (0:Int), (0:Int), .slice none 0 0, .slice none 0 0, .slice none 0 0] 36)).heap.size = w.heap.size + 3 by simp)
 have K2 := lh (show (((w.alloc (.cells #[(c.n 0), (c.n 1), (c.n 2), (c.n 3), (c.n 4), .slice a.a1 nq a.c1, .slice a.a2 nl a.c2, .slice a.a3 nb a.c3] 36)).alloc (.cells #[.int .u8 pt, .int .u8 a0, .int .u8 a1, y, .string nm, ok, on, .int .i32 ov] 29)).alloc (.cells #[(0:Int), (0:Int), (0:Int), (0:Int), (0:Int), .slice none 0 0, .slice none 0 0, .slice none 0 0] 36)).heap[w.heap.size]? = some (.cells #[(c.n 0), (c.n 1), (c.n 2), (c.n 3), (c.n 4), .slice a.a1 nq a.c1, .slice a.a2 nl a.c2, .slice a.a3 nb a.c3] 36 (0, 0)) from (Below.heap_alloc _ _ _ (by simp; omega)).trans ((Below.heap_alloc _ _ _ (by simp)).trans (heap_alloc_new w _)))
 have K3 := lh (show (((w.alloc (.cells #[(c.n 0), (c.n 1), (c.n 2), (c.n 3), (c.n 4), .slice a.a1 nq a.c1, .slice a.a2 nl a.c2, .slice a.a3 nb a.c3] 36)).alloc (.cells #[.int .u8 pt, .int .u8 a0, .int .u8 a1, y, .string nm, ok, on, .int .i32 ov] 29)).alloc (.cells #[(0:Int), (0:Int), (0:Int), (0:Int), (0:Int), .slice none 0 0, .slice none 0 0, .slice none 0 0] 36)).heap[w.heap.size + 1]? = some (.cells #[.int .u8 pt, .int .u8 a0, .int .u8 a1, y, .string nm, ok, on, .int .i32 ov] 29 (0, 0)) from by
  have := heap_alloc_new (w.alloc (.cells #[(c.n 0), (c.n 1), (c.n 2), (c.n 3), (c.n 4), .slice a.a1 nq a.c1, .slice a.a2 nl a.c2, .slice a.a3 nb a.c3] 36)) (.cells #[.int .u8 pt, .int .u8 a0, .int .u8 a1, y, .string nm, ok, on, .int .i32 ov] 29)
  rw [World.size_alloc] at this
  exact (Below.heap_alloc _ _ _ (by simp)).trans this)
 have K4 := lh (show (((w.alloc (.cells #[(c.n 0), (c.n 1), (c.n 2), (c.n 3), (c.n 4), .slice a.a1 nq a.c1, .slice a.a2 nl a.c2, .slice a.a3 nb a.c3] 36)).alloc (.cells #[.int .u8 pt, .int .u8 a0, .int .u8 a1, y, .string nm, ok, on, .int .i32 ov] 29)).alloc (.cells #[(0:Int), (0:Int), (0:Int), (0:Int), (0:Int), .slice none 0 0, .slice none 0 0, .slice none 0 0] 36)).heap[w.heap.size + 1 + 1]? = some (.cells #[(0:Int), (0:Int), (0:Int), (0:Int), (0:Int), .slice none 0 0, .slice none 0 0, .slice none 0 0] 36 (0, 0)) from by
  have := heap_alloc_new ((w.alloc (.cells #[(c.n 0), (c.n 1), (c.n 2), (c.n 3), (c.n 4), .slice a.a1 nq a.c1, .slice a.a2 nl a.c2, .slice a.a3 nb a.c3] 36)).alloc (.cells #[.int .u8 pt, .int .u8 a0, .int .u8 a1, y, .string nm, ok, on, .int .i32 ov] 29)) (.cells #[(0:Int), (0:Int), (0:Int), (0:Int), (0:Int), .slice none 0 0, .slice none 0 0, .slice none 0 0] 36)
  rwa [World.size_alloc, World.size_alloc] at this)
 have HH := lh (And.intro h0 (And.intro h1 (And.intro hp (And.intro hy (And.intro ho hnm)))))
 have hi0 : IntKind.i64.wrap a0 = a0 := IntWalk.i64_in _ (by omega)
 have hi1 : IntKind.i64.wrap a1 = a1 := IntWalk.i64_in _ (by omega)
 have HNB := lh hnb
 have HNQ := lh hnq
 have HNL := lh hnl
 have HF := lh hf
 have hN2 := lh hN
 clear hnb hnq hnl hf hm hg h0 h1 hp hy ho hnm hN
 go_enter Tryz.func13, Tryz.ntmps13
 go_upto_region 1 with fail
 obtain ⟨W0, hW0⟩ : ∃ W0, ((w.alloc (.cells #[(c.n 0), (c.n 1), (c.n 2), (c.n 3), (c.n 4), .slice a.a1 nq a.c1, .slice a.a2 nl a.c2, .slice a.a3 nb a.c3] 36)).alloc (.cells #[.int .u8 pt, .int .u8 a0, .int .u8 a1, y, .string nm, ok, on, .int .i32 ov] 29)).alloc (.cells #[(0:Int), (0:Int), (0:Int), (0:Int), (0:Int), .slice none 0 0, .slice none 0 0, .slice none 0 0] 36) = W0 := ⟨_, rfl⟩
 rw [hW0] at HB0 HN0 K2 K3 K4 ⊢
 clear hW0
 have hk2 := K2.out
 have kc := fun o => show W0.cell? ⟨w.heap.size, o, none⟩ = (#[(c.n 0), (c.n 1), (c.n 2), (c.n 3), (c.n 4), .slice a.a1 nq a.c1, .slice a.a2 nl a.c2, .slice a.a3 nb a.c3] : Array Value)[o]? from by simp [World.cell?, hk2]
 clear hk2
 go_upto_region 2 with (go_at_call 38; (with_reducible refine (HCP.out _ HB0.out).mono ?_); rintro e w1 ⟨A5, q5, A6, q6, A7, q7, es, rfl, hr, hb1⟩; have HR := lh hr; have HB1 := lh hb1; clear hr hb1; have hk2 := (HB1.out.block _ (Array.getElem?_eq_some_iff.1 K2.out).1).trans K2.out; have rf := fun o => frozen_of_row _ _ o _ _ hk2; have kk := kcell hk2; have HK2 := lh hk2; clear hk2)
 clear kc
 have h2 := box8m (.int .i64 (c.n 0)) (.int .i64 (c.n 1)) (.int .i64 (c.n 2)) (.int .i64 (c.n 3)) (.int .i64 (c.n 4)) (.slice A5 nq q5) (.slice A6 nl q6) (.slice A7 nb q7) HK2.out
 have h3 := (eight_m (.int .i64 (c.n 0)) (.int .i64 (c.n 1)) (.int .i64 (c.n 2)) (.int .i64 (c.n 3)) (.int .i64 (c.n 4)) (.slice A5 nq q5) (.slice A6 nl q6) (.slice A7 nb q7) (show w.heap.size + 1 ≠ w.heap.size by omega)).trans ((HB1.out.block _ (Array.getElem?_eq_some_iff.1 K3.out).1).trans K3.out)
 have h4 := (eight_m (.int .i64 (c.n 0)) (.int .i64 (c.n 1)) (.int .i64 (c.n 2)) (.int .i64 (c.n 3)) (.int .i64 (c.n 4)) (.slice A5 nq q5) (.slice A6 nl q6) (.slice A7 nb q7) (show w.heap.size + 1 + 1 ≠ w.heap.size by omega)).trans ((HB1.out.block _ (Array.getElem?_eq_some_iff.1 K4.out).1).trans K4.out)
 have HL1 := lh (show LX w w.heap.size W0.heap.size (c.n 0) (c.n 1) (c.n 2) (c.n 3) (c.n 4) (.slice A5 nq q5) (.slice A6 nl q6) (.slice A7 nb q7) c.q c.l es ((((((((w1.setCell ⟨w.heap.size, 0, none⟩ (.int .i64 (c.n 0))).setCell ⟨w.heap.size, 1, none⟩ (.int .i64 (c.n 1))).setCell ⟨w.heap.size, 2, none⟩ (.int .i64 (c.n 2))).setCell ⟨w.heap.size, 3, none⟩ (.int .i64 (c.n 3))).setCell ⟨w.heap.size, 4, none⟩ (.int .i64 (c.n 4))).setCell ⟨w.heap.size, 5, none⟩ (.slice A5 nq q5)).setCell ⟨w.heap.size, 6, none⟩ (.slice A6 nl q6)).setCell ⟨w.heap.size, 7, none⟩ (.slice A7 nb q7)) from
  ⟨h2, HR.out.1.k36 (k36_store HK2.out _ _ _ _ _ _ _ _), ((((((((HB0.out.trans (HB1.out.mono HB0.out.size)).setCell (Nat.le_refl _) _).setCell (Nat.le_refl _) _).setCell (Nat.le_refl _) _).setCell (Nat.le_refl _) _).setCell (Nat.le_refl _) _).setCell (Nat.le_refl _) _).setCell (Nat.le_refl _) _).setCell (Nat.le_refl _) _, HB0.out.size, Nat.le_refl _, by have := HB1.out.size; simp only [World.setCell, Array.size_modify]; exact this⟩)
 have H3 := lh h3
 have H4 := lh h4
 have HES := lh HR.out.2
 clear h2 h3 h4 rf kk HR HB1 HK2 K2 K3 K4 HCP
 generalize ((((((((w1.setCell ⟨w.heap.size, 0, none⟩ (.int .i64 (c.n 0))).setCell ⟨w.heap.size, 1, none⟩ (.int .i64 (c.n 1))).setCell ⟨w.heap.size, 2, none⟩ (.int .i64 (c.n 2))).setCell ⟨w.heap.size, 3, none⟩ (.int .i64 (c.n 3))).setCell ⟨w.heap.size, 4, none⟩ (.int .i64 (c.n 4))).setCell ⟨w.heap.size, 5, none⟩ (.slice A5 nq q5)).setCell ⟨w.heap.size, 6, none⟩ (.slice A6 nl q6)).setCell ⟨w.heap.size, 7, none⟩ (.slice A7 nb q7)) = W1 at *
 obtain ⟨n0, hn0⟩ : ∃ n0, W0.heap.size = n0 := ⟨_, rfl⟩
 rw [hn0] at HL1 HN0
 clear HB0 hn0
 have c5 := HL1.out.c5
 have c7 := HL1.out.c7
 by_cases hz : nb = 0 \/ nq = 0
 . have hz1 : nb = 0 \/ (((nb : Int) == 0) = false /\ nq = 0) := by
    rcases Nat.eq_zero_or_pos nb with h | h
    . exact .inl h
    . exact .inr ⟨by simp; omega, by omega⟩
   have hcc : ∃ (n : Nat -> Int) (B5 B6 B7 : Option Addr) (p5 p6 p7 : Nat) (qs : List ArV) (ls : List LoV) (es' : List BlE) (V : World), V = W1 /\ Hid (LX w w.heap.size n0 (n 0) (n 1) (n 2) (n 3) (n 4) (.slice B5 qs.length p5) (.slice B6 ls.length p6) (.slice B7 es'.length p7) qs ls es' V /\ GC (N + 1) ⟨qs, ls, es'.map (·.2), n⟩ /\ V.heap[w.heap.size + 1 + 1]? = some (.cells #[(0:Int), (0:Int), (0:Int), (0:Int), (0:Int), .slice none 0 0, .slice none 0 0, .slice none 0 0] 36 (0, 0))) := ⟨c.n, A5, A6, A7, q5, q6, q7, c.q, c.l, es, W1, rfl, lh ⟨by rw [HNQ.out, HNL.out, HES.out.2.1]; exact HL1.out, by rw [HES.out.1]; exact HG0.out.up, H4.out⟩⟩
   have hN3 := hN2.out
   have HHC := lh hcc
   clear hcc
   rcases hz1 with hz | ⟨hz, hz2⟩
   . have e1 : ((nb : Int) == 0) = true := by simp [hz]
     go_upto_region 3 with fail
     clear c5 c7
     obtain ⟨n, A5, A6, A7, p5, p6, p7, qs, ls, es, V, rfl, hcc⟩ := HHC.out
     have HL := lh hcc.1
     have HG := lh hcc.2.1
     replace H4 := lh hcc.2.2
     have d0 := HL.out.c0
     have d1 := HL.out.c1
     have d2 := HL.out.c2
     have d3 := HL.out.c3
     have d4 := HL.out.c4
     have d5 := HL.out.c5
     have d6 := HL.out.c6
     have d7 := HL.out.c7
     have h4 := H4.out
     have rf4 := fun o => frozen_of_row _ _ o _ _ h4
     have k4 := kcell h4
     clear h4
     go_wp2
     obtain ⟨V2, hV2, hx, hrw, hbl⟩ := fin8 HL.out H4.out (show w.heap.size <= w.heap.size + 1 + 1 by omega)
     rw [st8_def, hV2]
     have r0 := kcell hx
     obtain ⟨ad, e5, e6, e7, hk⟩ := hrw.cdk n (fun x hx => Nat.le_trans (HG.out.nm x hx) (by decide)) (fun e he => Nat.le_trans (HG.out.i e.2 (List.mem_map.2 ⟨e, he, rfl⟩)) (by omega))
     refine bodyPost_ret (v := .agg #[(n 0), (n 1), (n 2), (n 3), (n 4), .slice A5 qs.length p5, .slice A6 ls.length p6, .slice A7 es.length p7]) (by simp [results, Tryz.results13, go_sem, r0]) rfl ?_
     refine ⟨⟨qs, ls, es.map (·.2), n⟩, ad, ?_, ⟨HG.out, hk⟩, hbl⟩
     rw [List.length_map]
     rw [<- e5, <- e6, <- e7]
   . have e2 : ((nq : Int) == 0) = true := by simp [hz2]
     go_upto_region 3 with fail
     clear c5 c7
     obtain ⟨n, A5, A6, A7, p5, p6, p7, qs, ls, es, V, rfl, hcc⟩ := HHC.out
     have HL := lh hcc.1
     have HG := lh hcc.2.1
     replace H4 := lh hcc.2.2
     have d0 := HL.out.c0
     have d1 := HL.out.c1
     have d2 := HL.out.c2
     have d3 := HL.out.c3
     have d4 := HL.out.c4
     have d5 := HL.out.c5
     have d6 := HL.out.c6
     have d7 := HL.out.c7
     have h4 := H4.out
     have rf4 := fun o => frozen_of_row _ _ o _ _ h4
     have k4 := kcell h4
     clear h4
     go_wp2
     obtain ⟨V2, hV2, hx, hrw, hbl⟩ := fin8 HL.out H4.out (show w.heap.size <= w.heap.size + 1 + 1 by omega)
     rw [st8_def, hV2]
     have r0 := kcell hx
     obtain ⟨ad, e5, e6, e7, hk⟩ := hrw.cdk n (fun x hx => Nat.le_trans (HG.out.nm x hx) (by decide)) (fun e he => Nat.le_trans (HG.out.i e.2 (List.mem_map.2 ⟨e, he, rfl⟩)) (by omega))
     refine bodyPost_ret (v := .agg #[(n 0), (n 1), (n 2), (n 3), (n 4), .slice A5 qs.length p5, .slice A6 ls.length p6, .slice A7 es.length p7]) (by simp [results, Tryz.results13, go_sem, r0]) rfl ?_
     refine ⟨⟨qs, ls, es.map (·.2), n⟩, ad, ?_, ⟨HG.out, hk⟩, hbl⟩
     rw [List.length_map]
     rw [<- e5, <- e6, <- e7]
 rw [HNB.out, HNQ.out] at hrs
 replace hrs := hrs.resolve_left hz
 obtain ⟨hz1, hz2⟩ := not_or.1 hz
 have hnb0 : ((nb : Int) == 0) = false := by simp; omega
 have hnq0 : ((nq : Int) == 0) = false := by simp; omega
 have hnb1 : ¬ (nb : Int) = 0 := by omega
 have hnq1 : ¬ (nq : Int) = 0 := by omega
 obtain ⟨b, hbm, hbn⟩ : ∃ b : Nat, Int.tmod a0 nb = (b : Int) /\ b < nb := ⟨(Int.tmod a0 nb).toNat, by
  have := Int.tmod_nonneg (nb : Int) HH.out.1.1
  omega, by
  have := Int.tmod_lt_of_pos a0 (show (0 : Int) < nb by omega)
  have := Int.tmod_nonneg (nb : Int) HH.out.1.1
  omega⟩
 obtain ⟨k, hkm, hkn⟩ : ∃ b : Nat, Int.tmod a1 nq = (b : Int) /\ b < nq := ⟨(Int.tmod a1 nq).toNat, by
  have := Int.tmod_nonneg (nq : Int) HH.out.2.1.1
  omega, by
  have := Int.tmod_lt_of_pos a1 (show (0 : Int) < nq by omega)
  have := Int.tmod_nonneg (nq : Int) HH.out.2.1.1
  omega⟩
 have hwb : IntKind.i64.wrap (b : Int) = (b : Int) := IntWalk.i64_in _ (by have := HF.out.2.2; have := HNB.out; omega)
 have hwk : IntKind.i64.wrap (k : Int) = (k : Int) := IntWalk.i64_in _ (by have := HF.out.1; have := HNQ.out; omega)
 have HZ := lh (fun V (hV : Below W1.heap.size W1 V) => show ∀ o, V.cell? ⟨w.heap.size + 1, o, none⟩ = (#[.int .u8 pt, .int .u8 a0, .int .u8 a1, y, .string nm, ok, on, .int .i32 ov] : Array Value)[o]? from fun o => by
  have f := (hV.block _ (Array.getElem?_eq_some_iff.1 H3.out).1).trans H3.out
  simp [World.cell?, f])
 have yz := HZ.out W1 (Below.refl _ _)
 go_upto_block 0 with fail
 obtain ⟨r, hr⟩ : ∃ r, Int.tmod pt 16 = r := ⟨_, rfl⟩
 have HR0 := lh (show 0 <= r /\ r < 16 by rw [<- hr]; exact ⟨Int.tmod_nonneg _ HH.out.2.2.1.1, Int.tmod_lt_of_pos _ (by decide)⟩)
 rw [hr] at hrs ⊢
 have HRS := lh hrs
 have HRR := lh hr
 clear hr hrs
 go_cut [] (fun wx => ∃ (n : Nat -> Int) (A5 A6 A7 : Option Addr) (p5 p6 p7 : Nat) (qs : List ArV) (ls : List LoV) (es : List BlE) (V : World), V = wx /\ Hid (LX w w.heap.size n0 (n 0) (n 1) (n 2) (n 3) (n 4) (.slice A5 qs.length p5) (.slice A6 ls.length p6) (.slice A7 es.length p7) qs ls es V /\ GC (N + 1) ⟨qs, ls, es.map (·.2), n⟩ /\ V.heap[w.heap.size + 1 + 1]? = some (.cells #[(0:Int), (0:Int), (0:Int), (0:Int), (0:Int), .slice none 0 0, .slice none 0 0, .slice none 0 0] 36 (0, 0))))
 case first =>
  have hr0 := HR0.out
  have hcases : r = 0 \/ r = 1 \/ r = 2 \/ r = 3 \/ r = 4 \/ r = 5 \/ r = 6 \/ r = 7 \/ r = 8 \/ r = 9 \/ r = 10 \/ r = 11 \/ r = 12 \/ r = 13 := by have := HRS.out; omega
  have rf := fun o => frozen_of_row _ _ o _ _ HL1.out.box
  clear hr0 HR0
  rcases hcases with rfl | rfl | rfl | rfl | rfl | rfl | rfl | rfl | rfl | rfl | rfl | rfl | rfl | rfl
  . have hs := HL1.out.sets 0 (.int .i64 y) (g' := y) (s' := c.n 1) (r' := c.n 2) (sl' := c.n 3) (p' := c.n 4) rfl
    have HS := lh hs
    have kk := HL1.out.k
    clear hs
    go_wp2
    go_meet
    exact ⟨fun j => if j = 0 then y else c.n j, A5, A6, A7, q5, q6, q7, c.q, c.l, es, _, rfl, lh ⟨by rw [HNQ.out, HNL.out, HES.out.2.1]; exact HS.out, gc_n HG0.out (by rw [HES.out.1]) HH.out.2.2.2.1, (Below.heap_setCell _ _ _ _ (by show w.heap.size + 1 + 1 ≠ w.heap.size; omega)).trans H4.out⟩⟩
  . have hs := HL1.out.sets 1 (.int .i64 y) (g' := c.n 0) (s' := y) (r' := c.n 2) (sl' := c.n 3) (p' := c.n 4) rfl
    have HS := lh hs
    have kk := HL1.out.k
    clear hs
    go_wp2
    go_meet
    exact ⟨fun j => if j = 1 then y else c.n j, A5, A6, A7, q5, q6, q7, c.q, c.l, es, _, rfl, lh ⟨by rw [HNQ.out, HNL.out, HES.out.2.1]; exact HS.out, gc_n HG0.out (by rw [HES.out.1]) HH.out.2.2.2.1, (Below.heap_setCell _ _ _ _ (by show w.heap.size + 1 + 1 ≠ w.heap.size; omega)).trans H4.out⟩⟩
  . have hs := HL1.out.sets 2 (.int .i64 y) (g' := c.n 0) (s' := c.n 1) (r' := y) (sl' := c.n 3) (p' := c.n 4) rfl
    have HS := lh hs
    have kk := HL1.out.k
    clear hs
    go_wp2
    go_meet
    exact ⟨fun j => if j = 2 then y else c.n j, A5, A6, A7, q5, q6, q7, c.q, c.l, es, _, rfl, lh ⟨by rw [HNQ.out, HNL.out, HES.out.2.1]; exact HS.out, gc_n HG0.out (by rw [HES.out.1]) HH.out.2.2.2.1, (Below.heap_setCell _ _ _ _ (by show w.heap.size + 1 + 1 ≠ w.heap.size; omega)).trans H4.out⟩⟩
  . have hs := HL1.out.sets 3 (.int .i64 y) (g' := c.n 0) (s' := c.n 1) (r' := c.n 2) (sl' := y) (p' := c.n 4) rfl
    have HS := lh hs
    have kk := HL1.out.k
    clear hs
    go_wp2
    go_meet
    exact ⟨fun j => if j = 3 then y else c.n j, A5, A6, A7, q5, q6, q7, c.q, c.l, es, _, rfl, lh ⟨by rw [HNQ.out, HNL.out, HES.out.2.1]; exact HS.out, gc_n HG0.out (by rw [HES.out.1]) HH.out.2.2.2.1, (Below.heap_setCell _ _ _ _ (by show w.heap.size + 1 + 1 ≠ w.heap.size; omega)).trans H4.out⟩⟩
  . have hs := HL1.out.sets 4 (.int .i64 y) (g' := c.n 0) (s' := c.n 1) (r' := c.n 2) (sl' := c.n 3) (p' := y) rfl
    have HS := lh hs
    have kk := HL1.out.k
    clear hs
    go_wp2
    go_meet
    exact ⟨fun j => if j = 4 then y else c.n j, A5, A6, A7, q5, q6, q7, c.q, c.l, es, _, rfl, lh ⟨by rw [HNQ.out, HNL.out, HES.out.2.1]; exact HS.out, gc_n HG0.out (by rw [HES.out.1]) HH.out.2.2.2.1, (Below.heap_setCell _ _ _ _ (by show w.heap.size + 1 + 1 ≠ w.heap.size; omega)).trans H4.out⟩⟩
  . obtain ⟨q1, x, q2, hq, hql⟩ := split_q c.q (k := k) (by rw [HNQ.out]; exact hkn)
    obtain ⟨g5, p5, e5, hlt, hge, hfr, hcl⟩ := HL1.out.rowA (by rw [HNQ.out]; omega)
    have hxm : x ∈ c.q := by rw [hq]; simp
    have hxn := HG0.out.nm x hxm
    have hxo := HG0.out.ok.q x hxm
    rw [HNQ.out] at e5 hcl
    injection e5 with e5 _ e6
    subst e5 e6
    obtain ⟨u, hu⟩ := hcl (k * 4) (by omega)
    have hfr0 := hfr (k * 4)
    have hqn : (q1 ++ (nm, x.2.1, x.2.2.1, x.2.2.2) :: q2).length = nq := by rw [<- HNQ.out, hq]; simp
    have HS := lh (HL1.out.rowQ HNQ.out (qs' := q1 ++ (nm, x.2.1, x.2.2.1, x.2.2.2) :: q2) (k * 4) (.string nm) (by rw [hq, <- hql]; exact flatA_mid q1 q2 x _ 0 _ (by decide) rfl) (by rw [hqn, HNQ.out]))
    have HGQ := lh (gc_q HG0.out HES.out.1 hq (x' := (nm, x.2.1, x.2.2.1, x.2.2.2)) ⟨HH.out.2.2.2.2.2, hxo⟩)
    have HNE := lh (show w.heap.size + 1 + 1 ≠ g5 by have := HN0.out; omega)
    have HQN := lh hqn
    have hki : (k : Int) < (nq : Int) := by omega
    clear hq hql hqn hxm hxn hxo hcl hfr hlt hge
    go_wp2
    go_meet
    exact ⟨c.n, some ⟨g5, 0, none⟩, A6, A7, q5, q6, q7, q1 ++ (nm, x.2.1, x.2.2.1, x.2.2.2) :: q2, c.l, es, _, rfl, lh ⟨by rw [HQN.out, HNL.out, HES.out.2.1]; exact HS.out, HGQ.out, (Below.heap_setCell _ _ _ _ HNE.out).trans H4.out⟩⟩
  . obtain ⟨q1, x, q2, hq, hql⟩ := split_q c.q (k := k) (by rw [HNQ.out]; exact hkn)
    obtain ⟨g5, p5, e5, hlt, hge, hfr, hcl⟩ := HL1.out.rowA (by rw [HNQ.out]; omega)
    have hxm : x ∈ c.q := by rw [hq]; simp
    have hxn := HG0.out.nm x hxm
    have hxo := HG0.out.ok.q x hxm
    rw [HNQ.out] at e5 hcl
    injection e5 with e5 _ e6
    subst e5 e6
    obtain ⟨u, hu⟩ := hcl (k * 4 + 1) (by omega)
    have hfr0 := hfr (k * 4 + 1)
    have hqn : (q1 ++ (x.1, y, x.2.2.1, x.2.2.2) :: q2).length = nq := by rw [<- HNQ.out, hq]; simp
    have HS := lh (HL1.out.rowQ HNQ.out (qs' := q1 ++ (x.1, y, x.2.2.1, x.2.2.2) :: q2) (k * 4 + 1) (.int .i64 y) (by rw [hq, <- hql]; exact flatA_mid q1 q2 x _ 1 _ (by decide) rfl) (by rw [hqn, HNQ.out]))
    have HGQ := lh (gc_q HG0.out HES.out.1 hq (x' := (x.1, y, x.2.2.1, x.2.2.2)) ⟨hxn, HH.out.2.2.2.1, hxo.2⟩)
    have HNE := lh (show w.heap.size + 1 + 1 ≠ g5 by have := HN0.out; omega)
    have HQN := lh hqn
    have hki : (k : Int) < (nq : Int) := by omega
    clear hq hql hqn hxm hxn hxo hcl hfr hlt hge
    go_wp2
    go_meet
    exact ⟨c.n, some ⟨g5, 0, none⟩, A6, A7, q5, q6, q7, q1 ++ (x.1, y, x.2.2.1, x.2.2.2) :: q2, c.l, es, _, rfl, lh ⟨by rw [HQN.out, HNL.out, HES.out.2.1]; exact HS.out, HGQ.out, (Below.heap_setCell _ _ _ _ HNE.out).trans H4.out⟩⟩
  . obtain ⟨q1, x, q2, hq, hql⟩ := split_q c.q (k := k) (by rw [HNQ.out]; exact hkn)
    obtain ⟨g5, p5, e5, hlt, hge, hfr, hcl⟩ := HL1.out.rowA (by rw [HNQ.out]; omega)
    have hxm : x ∈ c.q := by rw [hq]; simp
    have hxn := HG0.out.nm x hxm
    have hxo := HG0.out.ok.q x hxm
    rw [HNQ.out] at e5 hcl
    injection e5 with e5 _ e6
    subst e5 e6
    obtain ⟨u, hu⟩ := hcl (k * 4 + 2) (by omega)
    have hfr0 := hfr (k * 4 + 2)
    have hqn : (q1 ++ (x.1, x.2.1, y, x.2.2.2) :: q2).length = nq := by rw [<- HNQ.out, hq]; simp
    have HS := lh (HL1.out.rowQ HNQ.out (qs' := q1 ++ (x.1, x.2.1, y, x.2.2.2) :: q2) (k * 4 + 2) (.int .i64 y) (by rw [hq, <- hql]; exact flatA_mid q1 q2 x _ 2 _ (by decide) rfl) (by rw [hqn, HNQ.out]))
    have HGQ := lh (gc_q HG0.out HES.out.1 hq (x' := (x.1, x.2.1, y, x.2.2.2)) ⟨hxn, hxo.1, HH.out.2.2.2.1, hxo.2.2⟩)
    have HNE := lh (show w.heap.size + 1 + 1 ≠ g5 by have := HN0.out; omega)
    have HQN := lh hqn
    have hki : (k : Int) < (nq : Int) := by omega
    clear hq hql hqn hxm hxn hxo hcl hfr hlt hge
    go_wp2
    go_meet
    exact ⟨c.n, some ⟨g5, 0, none⟩, A6, A7, q5, q6, q7, q1 ++ (x.1, x.2.1, y, x.2.2.2) :: q2, c.l, es, _, rfl, lh ⟨by rw [HQN.out, HNL.out, HES.out.2.1]; exact HS.out, HGQ.out, (Below.heap_setCell _ _ _ _ HNE.out).trans H4.out⟩⟩
  . obtain ⟨q1, x, q2, hq, hql⟩ := split_q c.q (k := k) (by rw [HNQ.out]; exact hkn)
    obtain ⟨g5, p5, e5, hlt, hge, hfr, hcl⟩ := HL1.out.rowA (by rw [HNQ.out]; omega)
    have hxm : x ∈ c.q := by rw [hq]; simp
    have hxn := HG0.out.nm x hxm
    have hxo := HG0.out.ok.q x hxm
    rw [HNQ.out] at e5 hcl
    injection e5 with e5 _ e6
    subst e5 e6
    obtain ⟨u, hu⟩ := hcl (k * 4 + 3) (by omega)
    have hfr0 := hfr (k * 4 + 3)
    have hqn : (q1 ++ (x.1, x.2.1, x.2.2.1, y) :: q2).length = nq := by rw [<- HNQ.out, hq]; simp
    have HS := lh (HL1.out.rowQ HNQ.out (qs' := q1 ++ (x.1, x.2.1, x.2.2.1, y) :: q2) (k * 4 + 3) (.int .i64 y) (by rw [hq, <- hql]; exact flatA_mid q1 q2 x _ 3 _ (by decide) rfl) (by rw [hqn, HNQ.out]))
    have HGQ := lh (gc_q HG0.out HES.out.1 hq (x' := (x.1, x.2.1, x.2.2.1, y)) ⟨hxn, hxo.1, hxo.2.1, HH.out.2.2.2.1⟩)
    have HNE := lh (show w.heap.size + 1 + 1 ≠ g5 by have := HN0.out; omega)
    have HQN := lh hqn
    have hki : (k : Int) < (nq : Int) := by omega
    clear hq hql hqn hxm hxn hxo hcl hfr hlt hge
    go_wp2
    go_meet
    exact ⟨c.n, some ⟨g5, 0, none⟩, A6, A7, q5, q6, q7, q1 ++ (x.1, x.2.1, x.2.2.1, y) :: q2, c.l, es, _, rfl, lh ⟨by rw [HQN.out, HNL.out, HES.out.2.1]; exact HS.out, HGQ.out, (Below.heap_setCell _ _ _ _ HNE.out).trans H4.out⟩⟩
  . have h9 := HNL.out
    subst h9
    obtain ⟨i0, hi0, hz0, hz1, hz2⟩ := info_parts infoLoop
    have HROW := lh (fun o => (HL1.out.alloc o).rows.loops)
    have HGR := lh (fun (o : Obj) (v' : Value) (w8 : World) (h1 : w8.ownsRow n0 85 3 v' (c.l.length + 1) (flatL c.l ++ loC (a0, a1, y))) (h2 : (W1.alloc o).grownBy w8 (Value.slice A6 c.l.length q6).ownBlock) =>
     And.intro ((HL1.out.alloc o).boxr (HL1.out.alloc o).rows.loops h2 (by decide)).1 (And.intro ((HL1.out.alloc o).push6 (x := (a0, a1, y)) h1 h2) ((grow_kept (HL1.out.alloc o).rows.loops h2 _ _ _ _ ((Below.heap_alloc _ _ _ (Array.getElem?_eq_some_iff.1 H4.out).1).trans H4.out) (by decide)).trans ((Below.heap_alloc _ _ _ (Array.getElem?_eq_some_iff.1 H4.out).1).trans H4.out))))
    have hlN : c.l.length <= 60001 := Nat.le_trans HG0.out.l (Nat.le_trans hN2.out (by decide))
    have c6 := HL1.out.c6
    have hbs := (HL1.out.alloc (.cells #[a0, a1, y] 85)).hn.2.2
    go_wp2_with (at_builtin; (refine wpList_append_own _ rfl _ _ 33 rfl n0 85 i0 (.agg #[(0:Int), (0:Int), (0:Int)]) 3 24 Tryz.underlying33 hi0 hz0 hz1 hz2 rfl (by decide) (.slice A6 c.l.length q6) c.l.length (flatL c.l) rfl (HROW.out _) ⟨W1.heap.size, 0, none⟩ 1 1 (loC (a0, a1, y)) rfl rfl (row_new W1 #[a0, a1, y] 85) (by simp [loC, Value.oneCell']) (by unfold maxLen; omega) (by omega) hbs ?_); intro v' w8 hown' hgrow _; have H8 := lh (HGR.out _ v' w8 hown' hgrow); obtain ⟨gg, cap, rfl, _, _⟩ := hown'.form (Nat.succ_pos _); have kk8 := kcell H8.out.1; have kf8 := fun o => frozen_of_row _ _ o _ _ H8.out.1; clear hown' hgrow)
    go_meet
    exact ⟨c.n, A5, some ⟨gg, 0, none⟩, A7, q5, cap, q7, c.q, c.l ++ [(a0, a1, y)], es, _, rfl, lh ⟨by rw [HNQ.out, List.length_append, List.length_singleton, HES.out.2.1]; exact H8.out.2.1, gc_l HG0.out HES.out.1 ⟨small64 (n := a0) (by have := HH.out.1; omega), small64 (n := a1) (by have := HH.out.2.1; omega), HH.out.2.2.2.1⟩, (Below.heap_setCell _ _ _ _ (by show w.heap.size + 1 + 1 ≠ w.heap.size; omega)).trans H8.out.2.2⟩⟩
  . have h9 := HES.out.2.1
    subst h9
    obtain ⟨i0, hi0, hz0, hz1, hz2⟩ := info_parts infoBlk
    have HROW := lh (fun o => (HL1.out.alloc o).rows.blocks)
    have HGR := lh (fun (o : Obj) (v' : Value) (w8 : World) (h1 : w8.ownsRow n0 55 14 v' (es.length + 1) (flatB es ++ blC (.slice none 0 0, [], { zeroT with kind := y }))) (h2 : (W1.alloc o).grownBy w8 (Value.slice A7 es.length q7).ownBlock) =>
     And.intro ((HL1.out.alloc o).boxr (HL1.out.alloc o).rows.blocks h2 (by decide)).1 (And.intro ((HL1.out.alloc o).pushB (x := (.slice none 0 0, [], { zeroT with kind := y })) ⟨rfl, rfl⟩ h1 h2) ((grow_kept (HL1.out.alloc o).rows.blocks h2 _ _ _ _ ((Below.heap_alloc _ _ _ (Array.getElem?_eq_some_iff.1 H4.out).1).trans H4.out) (by decide)).trans ((Below.heap_alloc _ _ _ (Array.getElem?_eq_some_iff.1 H4.out).1).trans H4.out))))
    have hlN : es.length <= 60001 := by have := HG0.out.b; have := hN2.out; have := HNB.out; omega
    have hbs := (HL1.out.alloc (.cells #[.slice none 0 0, y, (0:Int), (0:Int), (0:Int), .int .i32 0, (0:Int), (0:Int), .int .i32 0, (0:Int), (0:Int), .int .i32 0, (0:Int), (0:Int)] 55)).hn.2.2
    go_wp2_with (at_builtin; (refine wpList_append_own _ rfl _ _ 34 rfl n0 55 i0 (.agg #[.slice none 0 0, (0:Int), (0:Int), (0:Int), (0:Int), .int .i32 0, (0:Int), (0:Int), .int .i32 0, (0:Int), (0:Int), .int .i32 0, (0:Int), (0:Int)]) 14 128 Tryz.underlying34 hi0 hz0 hz1 hz2 rfl (by decide) (.slice A7 es.length q7) es.length (flatB es) rfl (HROW.out _) ⟨W1.heap.size, 0, none⟩ 1 1 (blC (.slice none 0 0, [], { zeroT with kind := y })) rfl rfl (row_new W1 #[.slice none 0 0, y, (0:Int), (0:Int), (0:Int), .int .i32 0, (0:Int), (0:Int), .int .i32 0, (0:Int), (0:Int), .int .i32 0, (0:Int), (0:Int)] 55) (by simp [blC, TermV.cells, zeroT, noOpd, Value.oneCell']) (by unfold maxLen; omega) (by omega) hbs ?_); intro v' w8 hown' hgrow _; have H8 := lh (HGR.out _ v' w8 hown' hgrow); obtain ⟨gg, cap, rfl, _, _⟩ := hown'.form (Nat.succ_pos _); have kk8 := kcell H8.out.1; have kf8 := fun o => frozen_of_row _ _ o _ _ H8.out.1; clear hown' hgrow)
    go_meet
    exact ⟨c.n, A5, A6, some ⟨gg, 0, none⟩, q5, q6, cap, c.q, c.l, es ++ [(.slice none 0 0, [], { zeroT with kind := y })], _, rfl, lh ⟨by rw [HNQ.out, HNL.out, List.length_append, List.length_singleton]; exact H8.out.2.1, gc_b HG0.out (by rw [List.length_map, List.length_append, List.length_singleton, HNB.out.symm]; exact Nat.succ_le_succ HG0.out.b) (fun e he => by
     rw [List.map_append, HES.out.1] at he
     rcases List.mem_append.1 he with he | he
     . exact .inl he
     . rw [List.map_singleton, List.mem_singleton] at he
       subst he
       exact .inr ⟨Nat.zero_le _, fun x hx => (List.not_mem_nil hx).elim, ⟨zeroT_rng.sub, zeroT_rng.n, zeroT_rng.d, zeroT_rng.a, zeroT_rng.b, zeroT_rng.c, zeroT_rng.t0, zeroT_rng.t1⟩⟩), (Below.heap_setCell _ _ _ _ (by show w.heap.size + 1 + 1 ≠ w.heap.size; omega)).trans H8.out.2.2⟩⟩
  . obtain ⟨g7, p7, e7, hge, _⟩ := HL1.out.rows.blocks.form (by rw [HES.out.2.1]; omega)
    rw [HES.out.2.1] at e7
    injection e7 with e7 _ e8
    subst e7 e8
    have hcap : (b : Int) <= (q7 : Int) := by
     rcases HL1.out.rows.blocks.2 with ⟨e1, _⟩ | ⟨g', cap, cur, e1, _, _, h3, _⟩
     . cases e1
     . injection e1 with _ _ e1
       subst e1
       rw [HES.out.2.1] at h3
       omega
    have hbi : (b : Int) <= (nb : Int) := by omega
    have hb00 : 0 <= (b : Int) := by omega
    have HS := lh (HL1.out.takeB HES.out.2.1 (k := b) (by omega))
    have hbl : (es.take b).length = b := by rw [List.length_take, HES.out.2.1]; omega
    have HBL := lh hbl
    have kk := HL1.out.k
    clear hbl
    go_wp2
    go_meet
    exact ⟨c.n, A5, A6, some ⟨g7, 0, none⟩, q5, q6, q7, c.q, c.l, es.take b, _, rfl, lh ⟨by rw [HNQ.out, HNL.out, HBL.out]; exact HS.out, gc_b HG0.out (by rw [List.length_map, HBL.out]; have := HG0.out.b; have := HNB.out; omega) (fun e he => .inl (by
     obtain ⟨e', h1, rfl⟩ := List.mem_map.1 he
     rw [<- HES.out.1]
     exact List.mem_map.2 ⟨e', List.mem_of_mem_take h1, rfl⟩)), (Below.heap_setCell _ _ _ _ (by show w.heap.size + 1 + 1 ≠ w.heap.size; omega)).trans H4.out⟩⟩
  . obtain ⟨es1, e0, es2, hse, hsl⟩ := split_q es (k := b) (by rw [HES.out.2.1]; exact hbn)
    subst hse
    obtain ⟨g7, p7, e7, hge, _⟩ := HL1.out.rows.blocks.form (by rw [HES.out.2.1]; omega)
    rw [HES.out.2.1] at e7
    injection e7 with e7 _ e8
    subst e7 e8
    have HGE := lh hge
    have HSL := lh hsl
    have hbi : (b : Int) < (nb : Int) := by omega
    have hb00 : 0 <= (b : Int) := by omega
    have hem : e0.2 ∈ c.b := by rw [<- HES.out.1]; exact List.mem_map.2 ⟨e0, by simp, rfl⟩
    have HEM := lh hem
    clear hge hsl hem
    go_upto_region 36 with fail
    have HCELL := fun j hj => HL1.out.tcellm HES.out.2.1 j hj
    obtain ⟨t, ht⟩ : ∃ t, e0.2.2 = t := ⟨_, rfl⟩
    rw [HSL.out, ht] at HCELL
    have HT := lh ht
    have x0 := HCELL 0 (by decide)
    have x1 := HCELL 1 (by decide)
    have x2 := HCELL 2 (by decide)
    have x3 := HCELL 3 (by decide)
    have x4 := HCELL 4 (by decide)
    have x5 := HCELL 5 (by decide)
    have x6 := HCELL 6 (by decide)
    have x7 := HCELL 7 (by decide)
    have x8 := HCELL 8 (by decide)
    have x9 := HCELL 9 (by decide)
    have x10 := HCELL 10 (by decide)
    have x11 := HCELL 11 (by decide)
    have x12 := HCELL 12 (by decide)
    simp only [TermV.cells, List.getElem?_cons_succ, List.getElem?_cons_zero, Nat.zero_add] at x0 x1 x2 x3 x4 x5 x6 x7 x8 x9 x10 x11 x12
    have HTS := lh (show ∀ V, Below W1.heap.size W1 V -> (fun w' => w'.cell? ⟨w.heap.size, 7, none⟩ = some (.slice (some ⟨g7, 0, none⟩) nb q7) /\ ∀ o, w'.cell? ⟨w.heap.size + 1, o, none⟩ = (#[.int .u8 pt, .int .u8 a0, .int .u8 a1, y, .string nm, ok, on, .int .i32 ov] : Array Value)[o]?) V from fun V hV => ⟨(HL1.out.on hV).c7, HZ.out V hV⟩)
    have HHT := lh (fun V => chgT_any t pt a0 a1 y ok on ov nm V HH.out.2.2.1)
    obtain ⟨t', ht'⟩ : ∃ t', chgT (Int.tmod (Int.tdiv pt 16) 7) y ⟨ok, on, ov⟩ t = t' := ⟨_, rfl⟩
    have HT' := lh ht'
    rw [ht'] at HHT
    have HTHR := lh (show ∀ V, Below W1.heap.size W1 V -> V.there g7 (b * 14 + 1) 13 from fun V hV j hj => by
     have hr := (HL1.out.on hV).rows.blocks
     rw [HES.out.2.1] at hr
     have hlt2 : b * 14 + 1 + j < (flatB (es1 ++ e0 :: es2)).length := by rw [flatB_len, HES.out.2.1]; omega
     exact ⟨by rw [hr.cellAt _ (by omega), List.getElem?_eq_getElem hlt2]; rfl, hr.frozenAt _⟩)
    have HKPR := lh (show ∀ V, Below W1.heap.size W1 V -> (fun w' => w'.cell? ⟨w.heap.size, 7, none⟩ = some (.slice (some ⟨g7, 0, none⟩) nb q7) /\ ∀ o, w'.cell? ⟨w.heap.size + 1, o, none⟩ = (#[.int .u8 pt, .int .u8 a0, .int .u8 a1, y, .string nm, ok, on, .int .i32 ov] : Array Value)[o]?) (V.setCells g7 (b * 14 + 1) (trmM t').toList) from fun V hV => by
     have key : ∀ x : Addr, x.block ≠ g7 -> (V.setCells g7 (b * 14 + 1) (trmM t').toList).cell? x = V.cell? x := fun x hx => World.cell?_setCells_out g7 _ _ _ x (fun e => absurd e hx)
     have h1 : w.heap.size ≠ g7 := by have := HN0.out; have := HGE.out; omega
     have h2 : w.heap.size + 1 ≠ g7 := by have := HN0.out; have := HGE.out; omega
     exact ⟨(key _ h1).trans (HTS.out V hV).1, fun o => (key _ h2).trans ((HTS.out V hV).2 o)⟩)
    clear ht ht' HCELL
    have HBc := lh (show Below W1.heap.size W1 W1.drew from below_drewS (Below.refl _ W1))
    refine wp_region_held_drew (S := (fun w' => w'.cell? ⟨w.heap.size, 7, none⟩ = some (.slice (some ⟨g7, 0, none⟩) nb q7) /\ ∀ o, w'.cell? ⟨w.heap.size + 1, o, none⟩ = (#[.int .u8 pt, .int .u8 a0, .int .u8 a1, y, .string nm, ok, on, .int .i32 ov] : Array Value)[o]?)) (by kernel_rfl) ?_ (fun hHeld => ?_)
    . (try dsimp only); exact HTS.out _ HBc.out
    refine tk 0 ?_
    refine tk 1 ?_
    refine tk 2 ?_
    refine tk 3 ?_
    refine tk 4 ?_
    refine tk 5 ?_
    refine tk 6 ?_
    refine tk 7 ?_
    refine tk 9 ?_
    refine an 8 (fun K hK => ?_)
    go_simp
    refine hK.out _ _ ?_ (fun hHeld => ?_)
    . (try dsimp only); exact HTS.out _ HBc.out
    clear hK K
    try simp only [pe]
    refine an 10 (fun K hK => ?_)
    go_simp
    (go_at_call 44; refine (HHT.out _).mono ?_; rintro e wv ⟨rfl, hbx⟩; have HBc2 := lh (HBc.out.trans (hbx.mono HBc.out.size)); clear hbx)
    try go_wp2_with fail
    refine hK.out _ _ ?_ (fun hHeld => ?_)
    . (try dsimp only); exact HTS.out _ HBc2.out
    clear hK K
    try simp only [pe]
    refine tk 11 ?_
    refine tk 12 ?_
    refine an 13 (fun K hK => ?_)
    have HTH := HTHR.out _ HBc2.out
    refine step_store_mid rfl 53 (.tmp 191) (.tmp 189) rfl g7 (b * 14 + 1) (trmM t') (by kernel_rfl) (by kernel_rfl) (fun j hj => HTH j hj) (by kernel_rfl) (trmM_one _) ?_
    refine hK.out _ _ ?_ (fun hHeld => ?_)
    . (try dsimp only); exact HKPR.out _ HBc2.out
    clear hK K
    try simp only [pe]
    refine wpAnyH_done (by kernel_rfl) ?_ _
    clear hHeld HTH
    have hS := (HL1.out.on HBc2.out).storeT t' HES.out.2.1
    rw [HSL.out] at hS
    have HS := lh hS
    have h4 := (HBc2.out.block _ (Array.getElem?_eq_some_iff.1 H4.out).1).trans H4.out
    have H4b := lh (show (wv.setCells g7 (b * 14 + 1) (trmM t').toList).heap[w.heap.size + 1 + 1]? = some (.cells #[(0:Int), (0:Int), (0:Int), (0:Int), (0:Int), .slice none 0 0, .slice none 0 0, .slice none 0 0] 36 (0, 0)) from (World.heap_setCells_other wv g7 _ _ (Array.getElem?_eq_some_iff.1 h4).1 (by have := HN0.out; have := HGE.out; omega)).trans h4)
    clear hS h4
    go_wp2
    go_meet
    exact ⟨c.n, A5, A6, some ⟨g7, 0, none⟩, q5, q6, q7, c.q, c.l, es1 ++ (e0.1, e0.2.1, t') :: es2, _, rfl, lh ⟨by
     have hlen : (es1 ++ (e0.1, e0.2.1, t') :: es2).length = nb := by
      have h := HES.out.2.1
      rw [List.length_append, List.length_cons] at h ⊢
      exact h
     rw [HNQ.out, HNL.out, hlen]
     exact HS.out, gc_b HG0.out (by
      have h := HG0.out.b
      rw [<- HES.out.1] at h
      simp only [List.length_map, List.length_append, List.length_cons] at h ⊢
      omega) (fun e he => by
      have hm : e = (e0.2.1, t') \/ e ∈ c.b := by
       rw [<- HES.out.1]
       simp only [List.map_append, List.map_cons, List.mem_append, List.mem_cons] at he ⊢
       rcases he with h | h | h
       . exact .inr (.inl h)
       . exact .inl h
       . exact .inr (.inr (.inr h))
      rcases hm with rfl | h
      . exact .inr ⟨Nat.le_succ_of_le (HG0.out.i e0.2 HEM.out), HG0.out.ok.i e0.2 HEM.out, by rw [<- HT'.out, <- HT.out]; exact chgT_rng _ HH.out.2.2.2.1 HH.out.2.2.2.2.1 (HG0.out.ok.t e0.2 HEM.out)⟩
      . exact .inl h), H4b.out⟩⟩
  . obtain ⟨es1, e0, es2, hse, hsl⟩ := split_q es (k := b) (by rw [HES.out.2.1]; exact hbn)
    subst hse
    obtain ⟨g7, p7, e7, hge, _⟩ := HL1.out.rows.blocks.form (by rw [HES.out.2.1]; omega)
    rw [HES.out.2.1] at e7
    injection e7 with e7 _ e8
    subst e7 e8
    have HGE := lh hge
    have HSL := lh hsl
    have hbi : (b : Int) < (nb : Int) := by omega
    have hb00 : 0 <= (b : Int) := by omega
    have hem : e0.2 ∈ c.b := by rw [<- HES.out.1]; exact List.mem_map.2 ⟨e0, by simp, rfl⟩
    have HEM := lh hem
    clear hge hsl hem
    go_upto_region 36 with fail
    have HCELL := fun j hj => HL1.out.tcellm HES.out.2.1 j hj
    obtain ⟨t, ht⟩ : ∃ t, e0.2.2 = t := ⟨_, rfl⟩
    rw [HSL.out, ht] at HCELL
    have HT := lh ht
    have x0 := HCELL 0 (by decide)
    have x1 := HCELL 1 (by decide)
    have x2 := HCELL 2 (by decide)
    have x3 := HCELL 3 (by decide)
    have x4 := HCELL 4 (by decide)
    have x5 := HCELL 5 (by decide)
    have x6 := HCELL 6 (by decide)
    have x7 := HCELL 7 (by decide)
    have x8 := HCELL 8 (by decide)
    have x9 := HCELL 9 (by decide)
    have x10 := HCELL 10 (by decide)
    have x11 := HCELL 11 (by decide)
    have x12 := HCELL 12 (by decide)
    simp only [TermV.cells, List.getElem?_cons_succ, List.getElem?_cons_zero, Nat.zero_add] at x0 x1 x2 x3 x4 x5 x6 x7 x8 x9 x10 x11 x12
    have HTS := lh (show ∀ V, Below W1.heap.size W1 V -> (fun w' => w'.cell? ⟨w.heap.size, 7, none⟩ = some (.slice (some ⟨g7, 0, none⟩) nb q7) /\ ∀ o, w'.cell? ⟨w.heap.size + 1, o, none⟩ = (#[.int .u8 pt, .int .u8 a0, .int .u8 a1, y, .string nm, ok, on, .int .i32 ov] : Array Value)[o]?) V from fun V hV => ⟨(HL1.out.on hV).c7, HZ.out V hV⟩)
    have HHT := lh (fun V => chgT_any t pt a0 a1 y ok on ov nm V HH.out.2.2.1)
    obtain ⟨t', ht'⟩ : ∃ t', chgT (Int.tmod (Int.tdiv pt 16) 7) y ⟨ok, on, ov⟩ t = t' := ⟨_, rfl⟩
    have HT' := lh ht'
    rw [ht'] at HHT
    have HTHR := lh (show ∀ V, Below W1.heap.size W1 V -> V.there g7 (b * 14 + 1) 13 from fun V hV j hj => by
     have hr := (HL1.out.on hV).rows.blocks
     rw [HES.out.2.1] at hr
     have hlt2 : b * 14 + 1 + j < (flatB (es1 ++ e0 :: es2)).length := by rw [flatB_len, HES.out.2.1]; omega
     exact ⟨by rw [hr.cellAt _ (by omega), List.getElem?_eq_getElem hlt2]; rfl, hr.frozenAt _⟩)
    have HKPR := lh (show ∀ V, Below W1.heap.size W1 V -> (fun w' => w'.cell? ⟨w.heap.size, 7, none⟩ = some (.slice (some ⟨g7, 0, none⟩) nb q7) /\ ∀ o, w'.cell? ⟨w.heap.size + 1, o, none⟩ = (#[.int .u8 pt, .int .u8 a0, .int .u8 a1, y, .string nm, ok, on, .int .i32 ov] : Array Value)[o]?) (V.setCells g7 (b * 14 + 1) (trmM t').toList) from fun V hV => by
     have key : ∀ x : Addr, x.block ≠ g7 -> (V.setCells g7 (b * 14 + 1) (trmM t').toList).cell? x = V.cell? x := fun x hx => World.cell?_setCells_out g7 _ _ _ x (fun e => absurd e hx)
     have h1 : w.heap.size ≠ g7 := by have := HN0.out; have := HGE.out; omega
     have h2 : w.heap.size + 1 ≠ g7 := by have := HN0.out; have := HGE.out; omega
     exact ⟨(key _ h1).trans (HTS.out V hV).1, fun o => (key _ h2).trans ((HTS.out V hV).2 o)⟩)
    clear ht ht' HCELL
    have HBc := lh (show Below W1.heap.size W1 W1.drew from below_drewS (Below.refl _ W1))
    refine wp_region_held_drew (S := (fun w' => w'.cell? ⟨w.heap.size, 7, none⟩ = some (.slice (some ⟨g7, 0, none⟩) nb q7) /\ ∀ o, w'.cell? ⟨w.heap.size + 1, o, none⟩ = (#[.int .u8 pt, .int .u8 a0, .int .u8 a1, y, .string nm, ok, on, .int .i32 ov] : Array Value)[o]?)) (by kernel_rfl) ?_ (fun hHeld => ?_)
    . (try dsimp only); exact HTS.out _ HBc.out
    refine tk 0 ?_
    refine tk 1 ?_
    refine tk 2 ?_
    refine tk 3 ?_
    refine tk 4 ?_
    refine tk 5 ?_
    refine tk 6 ?_
    refine tk 7 ?_
    refine tk 9 ?_
    refine an 8 (fun K hK => ?_)
    go_simp
    refine hK.out _ _ ?_ (fun hHeld => ?_)
    . (try dsimp only); exact HTS.out _ HBc.out
    clear hK K
    try simp only [pe]
    refine an 10 (fun K hK => ?_)
    go_simp
    (go_at_call 44; refine (HHT.out _).mono ?_; rintro e wv ⟨rfl, hbx⟩; have HBc2 := lh (HBc.out.trans (hbx.mono HBc.out.size)); clear hbx)
    try go_wp2_with fail
    refine hK.out _ _ ?_ (fun hHeld => ?_)
    . (try dsimp only); exact HTS.out _ HBc2.out
    clear hK K
    try simp only [pe]
    refine tk 11 ?_
    refine tk 12 ?_
    refine an 13 (fun K hK => ?_)
    have HTH := HTHR.out _ HBc2.out
    refine step_store_mid rfl 53 (.tmp 191) (.tmp 189) rfl g7 (b * 14 + 1) (trmM t') (by kernel_rfl) (by kernel_rfl) (fun j hj => HTH j hj) (by kernel_rfl) (trmM_one _) ?_
    refine hK.out _ _ ?_ (fun hHeld => ?_)
    . (try dsimp only); exact HKPR.out _ HBc2.out
    clear hK K
    try simp only [pe]
    refine wpAnyH_done (by kernel_rfl) ?_ _
    clear hHeld HTH
    have hS := (HL1.out.on HBc2.out).storeT t' HES.out.2.1
    rw [HSL.out] at hS
    have HS := lh hS
    have h4 := (HBc2.out.block _ (Array.getElem?_eq_some_iff.1 H4.out).1).trans H4.out
    have H4b := lh (show (wv.setCells g7 (b * 14 + 1) (trmM t').toList).heap[w.heap.size + 1 + 1]? = some (.cells #[(0:Int), (0:Int), (0:Int), (0:Int), (0:Int), .slice none 0 0, .slice none 0 0, .slice none 0 0] 36 (0, 0)) from (World.heap_setCells_other wv g7 _ _ (Array.getElem?_eq_some_iff.1 h4).1 (by have := HN0.out; have := HGE.out; omega)).trans h4)
    clear hS h4
    go_wp2
    go_meet
    exact ⟨c.n, A5, A6, some ⟨g7, 0, none⟩, q5, q6, q7, c.q, c.l, es1 ++ (e0.1, e0.2.1, t') :: es2, _, rfl, lh ⟨by
     have hlen : (es1 ++ (e0.1, e0.2.1, t') :: es2).length = nb := by
      have h := HES.out.2.1
      rw [List.length_append, List.length_cons] at h ⊢
      exact h
     rw [HNQ.out, HNL.out, hlen]
     exact HS.out, gc_b HG0.out (by
      have h := HG0.out.b
      rw [<- HES.out.1] at h
      simp only [List.length_map, List.length_append, List.length_cons] at h ⊢
      omega) (fun e he => by
      have hm : e = (e0.2.1, t') \/ e ∈ c.b := by
       rw [<- HES.out.1]
       simp only [List.map_append, List.map_cons, List.mem_append, List.mem_cons] at he ⊢
       rcases he with h | h | h
       . exact .inr (.inl h)
       . exact .inl h
       . exact .inr (.inr (.inr h))
      rcases hm with rfl | h
      . exact .inr ⟨Nat.le_succ_of_le (HG0.out.i e0.2 HEM.out), HG0.out.ok.i e0.2 HEM.out, by rw [<- HT'.out, <- HT.out]; exact chgT_rng _ HH.out.2.2.2.1 HH.out.2.2.2.2.1 (HG0.out.ok.t e0.2 HEM.out)⟩
      . exact .inl h), H4b.out⟩⟩
 case rest =>
 clear c5 c7
 obtain ⟨n, A5, A6, A7, p5, p6, p7, qs, ls, es, V, rfl, hcc⟩ := hcut
 have HL := lh hcc.out.1
 have HG := lh hcc.out.2.1
 have H4 := lh hcc.out.2.2
 have hN3 := hN2.out
 have d0 := HL.out.c0
 have d1 := HL.out.c1
 have d2 := HL.out.c2
 have d3 := HL.out.c3
 have d4 := HL.out.c4
 have d5 := HL.out.c5
 have d6 := HL.out.c6
 have d7 := HL.out.c7
 have h4 := H4.out
 have rf4 := fun o => frozen_of_row _ _ o _ _ h4
 have k4 := kcell h4
 clear h4
 go_wp2
 obtain ⟨V2, hV2, hx, hrw, hbl⟩ := fin8 HL.out H4.out (show w.heap.size <= w.heap.size + 1 + 1 by omega)
 rw [st8_def, hV2]
 have r0 := kcell hx
 obtain ⟨ad, e5, e6, e7, hk⟩ := hrw.cdk n (fun x hx => Nat.le_trans (HG.out.nm x hx) (by decide)) (fun e he => Nat.le_trans (HG.out.i e.2 (List.mem_map.2 ⟨e, he, rfl⟩)) (by omega))
 refine bodyPost_ret (v := .agg #[(n 0), (n 1), (n 2), (n 3), (n 4), .slice A5 qs.length p5, .slice A6 ls.length p6, .slice A7 es.length p7]) (by simp [results, Tryz.results13, go_sem, r0]) rfl ?_
 refine ⟨⟨qs, ls, es.map (·.2), n⟩, ad, ?_, ⟨HG.out, hk⟩, hbl⟩
 rw [List.length_map]
 rw [<- e5, <- e6, <- e7]
theorem chc_hi (c : CdV) (a : CdA) (w : World) (N : Nat) (pt a0 a1 y ok on ov : Int) (nm : ByteArray) (hN : N <= 60000) (hm : CdM c a w) (hg : GC N c) (h0 : 0 <= a0 /\ a0 <= 255) (h1 : 0 <= a1 /\ a1 <= 255) (hp : 0 <= pt /\ pt <= 255) (hy : I64 y) (ho : (⟨ok, on, ov⟩ : OpdV).Rng) (hnm : nm.size <= 9223372036854775807) (hrs : 14 <= Int.tmod pt 16) (hz : ¬(c.b.length = 0 \/ c.q.length = 0)) :
 Calls Tryz.prog 13 #[cdval c a, .agg #[.int .u8 pt, .int .u8 a0, .int .u8 a1, y, .string nm, ok, on, .int .i32 ov]] w fun e w' => ∃ (D : CdV) (a' : CdA), e = .returned (cdval D a') /\ (GC (N + 1) D /\ CdK D a' w') /\ Below w.heap.size w w' := by
 unfold cdval
 have hf := hg.fits (by omega)
 have HG0 := lh hg
 obtain ⟨nb, hnb⟩ : ∃ n, c.b.length = n := ⟨_, rfl⟩
 obtain ⟨nq, hnq⟩ : ∃ n, c.q.length = n := ⟨_, rfl⟩
 obtain ⟨nl, hnl⟩ : ∃ n, c.l.length = n := ⟨_, rfl⟩
 have HCP := lh (show ∀ V, Below w.heap.size w V -> Calls Tryz.prog 38 #[.agg #[(c.n 0), (c.n 1), (c.n 2), (c.n 3), (c.n 4), .slice a.a1 nq a.c1, .slice a.a2 nl a.c2, .slice a.a3 nb a.c3]] V fun e w' => ∃ A5 q5 A6 q6 A7 q7 es, e = .returned (.agg #[(c.n 0), (c.n 1), (c.n 2), (c.n 3), (c.n 4), .slice A5 nq q5, .slice A6 nl q6, .slice A7 nb q7]) /\ (RC V.heap.size (.slice A5 nq q5) (.slice A6 nl q6) (.slice A7 nb q7) c.q c.l es w' /\ es.map (·.2) = c.b /\ es.length = nb /\ DisI es) /\ Below V.heap.size V w' from fun V hV => by
  have H := Copy_cd c a V (hm.on hV) hf
  unfold cdval at H
  rw [hnb, hnq, hnl] at H
  refine H.mono ?_
  rintro e w' ⟨v5, v6, v7, es, rfl, hr, hes, hbw, hd⟩
  have hel : es.length = nb := by rw [<- hnb, <- hes, List.length_map]
  obtain ⟨A5, p5, rfl, _⟩ := own_cells hr.arr
  obtain ⟨A6, p6, rfl, _⟩ := own_cells hr.loops
  obtain ⟨A7, p7, rfl, _⟩ := own_cells hr.blocks
  rw [hel, hnq, hnl] at hr ⊢
  exact ⟨A5, p5, A6, p6, A7, p7, es, rfl, ⟨hr, hes, hel, hd⟩, hbw⟩)
 rw [hnb, hnq, hnl]
 have HB0 := lh (show Below w.heap.size w (((w.alloc (.cells #[(c.n 0), (c.n 1), (c.n 2), (c.n 3), (c.n 4), .slice a.a1 nq a.c1, .slice a.a2 nl a.c2, .slice a.a3 nb a.c3] 36)).alloc (.cells #[.int .u8 pt, .int .u8 a0, .int .u8 a1, y, .string nm, ok, on, .int .i32 ov] 29)).alloc (.cells #[(0:Int), (0:Int), (0:Int), (0:Int), (0:Int), .slice none 0 0, .slice none 0 0, .slice none 0 0] 36)) from ((bo _).alloc (by simp) _).alloc (by simp; omega) _)
 have HN0 := lh (show (((w.alloc (.cells #[(c.n 0), (c.n 1), (c.n 2), (c.n 3), (c.n 4), .slice a.a1 nq a.c1, .slice a.a2 nl a.c2, .slice a.a3 nb a.c3] 36)).alloc (.cells #[.int .u8 pt, .int .u8 a0, .int .u8 a1, y, .string nm, ok, on, .int .i32 ov] 29)).alloc (.cells #[(0:Int), (0:Int), (0:Int), (0:Int), (0:Int), .slice none 0 0, .slice none 0 0, .slice none 0 0] 36)).heap.size = w.heap.size + 3 by simp)
 have K2 := lh (show (((w.alloc (.cells #[(c.n 0), (c.n 1), (c.n 2), (c.n 3), (c.n 4), .slice a.a1 nq a.c1, .slice a.a2 nl a.c2, .slice a.a3 nb a.c3] 36)).alloc (.cells #[.int .u8 pt, .int .u8 a0, .int .u8 a1, y, .string nm, ok, on, .int .i32 ov] 29)).alloc (.cells #[(0:Int), (0:Int), (0:Int), (0:Int), (0:Int), .slice none 0 0, .slice none 0 0, .slice none 0 0] 36)).heap[w.heap.size]? = some (.cells #[(c.n 0), (c.n 1), (c.n 2), (c.n 3), (c.n 4), .slice a.a1 nq a.c1, .slice a.a2 nl a.c2, .slice a.a3 nb a.c3] 36 (0, 0)) from (Below.heap_alloc _ _ _ (by simp; omega)).trans ((Below.heap_alloc _ _ _ (by simp)).trans (heap_alloc_new w _)))
 have K3 := lh (show (((w.alloc (.cells #[(c.n 0), (c.n 1), (c.n 2), (c.n 3), (c.n 4), .slice a.a1 nq a.c1, .slice a.a2 nl a.c2, .slice a.a3 nb a.c3] 36)).alloc (.cells #[.int .u8 pt, .int .u8 a0, .int .u8 a1, y, .string nm, ok, on, .int .i32 ov] 29)).alloc (.cells #[(0:Int), (0:Int), (0:Int), (0:Int), (0:Int), .slice none 0 0, .slice none 0 0, .slice none 0 0] 36)).heap[w.heap.size + 1]? = some (.cells #[.int .u8 pt, .int .u8 a0, .int .u8 a1, y, .string nm, ok, on, .int .i32 ov] 29 (0, 0)) from by
  have := heap_alloc_new (w.alloc (.cells #[(c.n 0), (c.n 1), (c.n 2), (c.n 3), (c.n 4), .slice a.a1 nq a.c1, .slice a.a2 nl a.c2, .slice a.a3 nb a.c3] 36)) (.cells #[.int .u8 pt, .int .u8 a0, .int .u8 a1, y, .string nm, ok, on, .int .i32 ov] 29)
  rw [World.size_alloc] at this
  exact (Below.heap_alloc _ _ _ (by simp)).trans this)
 have K4 := lh (show (((w.alloc (.cells #[(c.n 0), (c.n 1), (c.n 2), (c.n 3), (c.n 4), .slice a.a1 nq a.c1, .slice a.a2 nl a.c2, .slice a.a3 nb a.c3] 36)).alloc (.cells #[.int .u8 pt, .int .u8 a0, .int .u8 a1, y, .string nm, ok, on, .int .i32 ov] 29)).alloc (.cells #[(0:Int), (0:Int), (0:Int), (0:Int), (0:Int), .slice none 0 0, .slice none 0 0, .slice none 0 0] 36)).heap[w.heap.size + 1 + 1]? = some (.cells #[(0:Int), (0:Int), (0:Int), (0:Int), (0:Int), .slice none 0 0, .slice none 0 0, .slice none 0 0] 36 (0, 0)) from by
  have := heap_alloc_new ((w.alloc (.cells #[(c.n 0), (c.n 1), (c.n 2), (c.n 3), (c.n 4), .slice a.a1 nq a.c1, .slice a.a2 nl a.c2, .slice a.a3 nb a.c3] 36)).alloc (.cells #[.int .u8 pt, .int .u8 a0, .int .u8 a1, y, .string nm, ok, on, .int .i32 ov] 29)) (.cells #[(0:Int), (0:Int), (0:Int), (0:Int), (0:Int), .slice none 0 0, .slice none 0 0, .slice none 0 0] 36)
  rwa [World.size_alloc, World.size_alloc] at this)
 have HH := lh (And.intro h0 (And.intro h1 (And.intro hp (And.intro hy (And.intro ho hnm)))))
 have hi0 : IntKind.i64.wrap a0 = a0 := IntWalk.i64_in _ (by omega)
 have hi1 : IntKind.i64.wrap a1 = a1 := IntWalk.i64_in _ (by omega)
 have HNB := lh hnb
 have HNQ := lh hnq
 have HNL := lh hnl
 have HF := lh hf
 have hN2 := lh hN
 clear hnb hnq hnl hf hm hg h0 h1 hp hy ho hnm hN
 go_enter Tryz.func13, Tryz.ntmps13
 go_upto_region 1 with fail
 obtain ⟨W0, hW0⟩ : ∃ W0, ((w.alloc (.cells #[(c.n 0), (c.n 1), (c.n 2), (c.n 3), (c.n 4), .slice a.a1 nq a.c1, .slice a.a2 nl a.c2, .slice a.a3 nb a.c3] 36)).alloc (.cells #[.int .u8 pt, .int .u8 a0, .int .u8 a1, y, .string nm, ok, on, .int .i32 ov] 29)).alloc (.cells #[(0:Int), (0:Int), (0:Int), (0:Int), (0:Int), .slice none 0 0, .slice none 0 0, .slice none 0 0] 36) = W0 := ⟨_, rfl⟩
 rw [hW0] at HB0 HN0 K2 K3 K4 ⊢
 clear hW0
 have hk2 := K2.out
 have kc := fun o => show W0.cell? ⟨w.heap.size, o, none⟩ = (#[(c.n 0), (c.n 1), (c.n 2), (c.n 3), (c.n 4), .slice a.a1 nq a.c1, .slice a.a2 nl a.c2, .slice a.a3 nb a.c3] : Array Value)[o]? from by simp [World.cell?, hk2]
 clear hk2
 go_upto_region 2 with (go_at_call 38; (with_reducible refine (HCP.out _ HB0.out).mono ?_); rintro e w1 ⟨A5, q5, A6, q6, A7, q7, es, rfl, hr, hb1⟩; have HR := lh hr; have HB1 := lh hb1; clear hr hb1; have hk2 := (HB1.out.block _ (Array.getElem?_eq_some_iff.1 K2.out).1).trans K2.out; have rf := fun o => frozen_of_row _ _ o _ _ hk2; have kk := kcell hk2; have HK2 := lh hk2; clear hk2)
 clear kc
 have h2 := box8m (.int .i64 (c.n 0)) (.int .i64 (c.n 1)) (.int .i64 (c.n 2)) (.int .i64 (c.n 3)) (.int .i64 (c.n 4)) (.slice A5 nq q5) (.slice A6 nl q6) (.slice A7 nb q7) HK2.out
 have h3 := (eight_m (.int .i64 (c.n 0)) (.int .i64 (c.n 1)) (.int .i64 (c.n 2)) (.int .i64 (c.n 3)) (.int .i64 (c.n 4)) (.slice A5 nq q5) (.slice A6 nl q6) (.slice A7 nb q7) (show w.heap.size + 1 ≠ w.heap.size by omega)).trans ((HB1.out.block _ (Array.getElem?_eq_some_iff.1 K3.out).1).trans K3.out)
 have h4 := (eight_m (.int .i64 (c.n 0)) (.int .i64 (c.n 1)) (.int .i64 (c.n 2)) (.int .i64 (c.n 3)) (.int .i64 (c.n 4)) (.slice A5 nq q5) (.slice A6 nl q6) (.slice A7 nb q7) (show w.heap.size + 1 + 1 ≠ w.heap.size by omega)).trans ((HB1.out.block _ (Array.getElem?_eq_some_iff.1 K4.out).1).trans K4.out)
 have HL1 := lh (show LX w w.heap.size W0.heap.size (c.n 0) (c.n 1) (c.n 2) (c.n 3) (c.n 4) (.slice A5 nq q5) (.slice A6 nl q6) (.slice A7 nb q7) c.q c.l es ((((((((w1.setCell ⟨w.heap.size, 0, none⟩ (.int .i64 (c.n 0))).setCell ⟨w.heap.size, 1, none⟩ (.int .i64 (c.n 1))).setCell ⟨w.heap.size, 2, none⟩ (.int .i64 (c.n 2))).setCell ⟨w.heap.size, 3, none⟩ (.int .i64 (c.n 3))).setCell ⟨w.heap.size, 4, none⟩ (.int .i64 (c.n 4))).setCell ⟨w.heap.size, 5, none⟩ (.slice A5 nq q5)).setCell ⟨w.heap.size, 6, none⟩ (.slice A6 nl q6)).setCell ⟨w.heap.size, 7, none⟩ (.slice A7 nb q7)) from
  ⟨h2, HR.out.1.k36 (k36_store HK2.out _ _ _ _ _ _ _ _), ((((((((HB0.out.trans (HB1.out.mono HB0.out.size)).setCell (Nat.le_refl _) _).setCell (Nat.le_refl _) _).setCell (Nat.le_refl _) _).setCell (Nat.le_refl _) _).setCell (Nat.le_refl _) _).setCell (Nat.le_refl _) _).setCell (Nat.le_refl _) _).setCell (Nat.le_refl _) _, HB0.out.size, Nat.le_refl _, by have := HB1.out.size; simp only [World.setCell, Array.size_modify]; exact this⟩)
 have H3 := lh h3
 have H4 := lh h4
 have HES := lh HR.out.2
 clear h2 h3 h4 rf kk HR HB1 HK2 K2 K3 K4 HCP
 generalize ((((((((w1.setCell ⟨w.heap.size, 0, none⟩ (.int .i64 (c.n 0))).setCell ⟨w.heap.size, 1, none⟩ (.int .i64 (c.n 1))).setCell ⟨w.heap.size, 2, none⟩ (.int .i64 (c.n 2))).setCell ⟨w.heap.size, 3, none⟩ (.int .i64 (c.n 3))).setCell ⟨w.heap.size, 4, none⟩ (.int .i64 (c.n 4))).setCell ⟨w.heap.size, 5, none⟩ (.slice A5 nq q5)).setCell ⟨w.heap.size, 6, none⟩ (.slice A6 nl q6)).setCell ⟨w.heap.size, 7, none⟩ (.slice A7 nb q7)) = W1 at *
 obtain ⟨n0, hn0⟩ : ∃ n0, W0.heap.size = n0 := ⟨_, rfl⟩
 rw [hn0] at HL1 HN0
 clear HB0 hn0
 have c5 := HL1.out.c5
 have c7 := HL1.out.c7
 rw [HNB.out, HNQ.out] at hz
 obtain ⟨hz1, hz2⟩ := not_or.1 hz
 have hnb0 : ((nb : Int) == 0) = false := by simp; omega
 have hnq0 : ((nq : Int) == 0) = false := by simp; omega
 have hnb1 : ¬ (nb : Int) = 0 := by omega
 have hnq1 : ¬ (nq : Int) = 0 := by omega
 obtain ⟨b, hbm, hbn⟩ : ∃ b : Nat, Int.tmod a0 nb = (b : Int) /\ b < nb := ⟨(Int.tmod a0 nb).toNat, by
  have := Int.tmod_nonneg (nb : Int) HH.out.1.1
  omega, by
  have := Int.tmod_lt_of_pos a0 (show (0 : Int) < nb by omega)
  have := Int.tmod_nonneg (nb : Int) HH.out.1.1
  omega⟩
 obtain ⟨k, hkm, hkn⟩ : ∃ b : Nat, Int.tmod a1 nq = (b : Int) /\ b < nq := ⟨(Int.tmod a1 nq).toNat, by
  have := Int.tmod_nonneg (nq : Int) HH.out.2.1.1
  omega, by
  have := Int.tmod_lt_of_pos a1 (show (0 : Int) < nq by omega)
  have := Int.tmod_nonneg (nq : Int) HH.out.2.1.1
  omega⟩
 have hwb : IntKind.i64.wrap (b : Int) = (b : Int) := IntWalk.i64_in _ (by have := HF.out.2.2; have := HNB.out; omega)
 have hwk : IntKind.i64.wrap (k : Int) = (k : Int) := IntWalk.i64_in _ (by have := HF.out.1; have := HNQ.out; omega)
 have HZ := lh (fun V (hV : Below W1.heap.size W1 V) => show ∀ o, V.cell? ⟨w.heap.size + 1, o, none⟩ = (#[.int .u8 pt, .int .u8 a0, .int .u8 a1, y, .string nm, ok, on, .int .i32 ov] : Array Value)[o]? from fun o => by
  have f := (hV.block _ (Array.getElem?_eq_some_iff.1 H3.out).1).trans H3.out
  simp [World.cell?, f])
 have yz := HZ.out W1 (Below.refl _ _)
 go_upto_block 0 with fail
 obtain ⟨r, hr⟩ : ∃ r, Int.tmod pt 16 = r := ⟨_, rfl⟩
 have HR0 := lh (show 0 <= r /\ r < 16 by rw [<- hr]; exact ⟨Int.tmod_nonneg _ HH.out.2.2.1.1, Int.tmod_lt_of_pos _ (by decide)⟩)
 rw [hr] at hrs ⊢
 have HRS := lh hrs
 have HRR := lh hr
 clear hr hrs
 go_cut [] (fun wx => ∃ (n : Nat -> Int) (A5 A6 A7 : Option Addr) (p5 p6 p7 : Nat) (qs : List ArV) (ls : List LoV) (es : List BlE) (V : World), V = wx /\ Hid (LX w w.heap.size n0 (n 0) (n 1) (n 2) (n 3) (n 4) (.slice A5 qs.length p5) (.slice A6 ls.length p6) (.slice A7 es.length p7) qs ls es V /\ GC (N + 1) ⟨qs, ls, es.map (·.2), n⟩ /\ V.heap[w.heap.size + 1 + 1]? = some (.cells #[(0:Int), (0:Int), (0:Int), (0:Int), (0:Int), .slice none 0 0, .slice none 0 0, .slice none 0 0] 36 (0, 0))))
 case first =>
  have hr0 := HR0.out
  have hcases : r = 14 \/ r = 15 := by have := HRS.out; omega
  have rf := fun o => frozen_of_row _ _ o _ _ HL1.out.box
  clear hr0 HR0
  rcases hcases with rfl | rfl
  . obtain ⟨es1, e0, es2, hse, hsl⟩ := split_q es (k := b) (by rw [HES.out.2.1]; exact hbn)
    subst hse
    obtain ⟨g7, p7, e7, hge, _⟩ := HL1.out.rows.blocks.form (by rw [HES.out.2.1]; omega)
    rw [HES.out.2.1] at e7
    injection e7 with e7 _ e8
    subst e7 e8
    have HGE := lh hge
    have HSL := lh hsl
    have hbi : (b : Int) < (nb : Int) := by omega
    have hb00 : 0 <= (b : Int) := by omega
    have hem : e0.2 ∈ c.b := by rw [<- HES.out.1]; exact List.mem_map.2 ⟨e0, by simp, rfl⟩
    have HEM := lh hem
    clear hge hsl hem
    have hmem : e0 ∈ es1 ++ e0 :: es2 := List.mem_append.2 (.inr List.mem_cons_self)
    obtain ⟨AI, cI, hI, _⟩ := own_cells (HL1.out.rows.insts e0 hmem)
    obtain ⟨ni, hni⟩ : ∃ m, e0.2.1.length = m := ⟨_, rfl⟩
    rw [hni] at hI
    have hd0 := HL1.out.head HES.out.2.1
    rw [HSL.out, hI] at hd0
    by_cases hz3 : ni = 0
    . have e1 : ¬ (0 : Int) < (ni : Int) := by omega
      clear hI hni hmem
      go_wp2
      go_meet
      exact ⟨c.n, A5, A6, some ⟨g7, 0, none⟩, q5, q6, q7, c.q, c.l, es1 ++ e0 :: es2, _, rfl, lh ⟨by rw [HNQ.out, HNL.out, HES.out.2.1]; exact HL1.out, by rw [HES.out.1]; exact HG0.out.up, H4.out⟩⟩
    have e1 : (0 : Int) < (ni : Int) := by omega
    obtain ⟨m, hkm2, hkn2⟩ : ∃ m : Nat, Int.tmod a1 ni = (m : Int) /\ m < ni := ⟨(Int.tmod a1 ni).toNat, by
     have := Int.tmod_nonneg (ni : Int) HH.out.2.1.1
     omega, by
     have := Int.tmod_lt_of_pos a1 (show (0 : Int) < ni by omega)
     have := Int.tmod_nonneg (ni : Int) HH.out.2.1.1
     omega⟩
    have hiN : ni <= 60001 := by rw [<- hni]; exact Nat.le_trans (HG0.out.i e0.2 HEM.out) (Nat.le_trans hN2.out (by decide))
    have hwm : IntKind.i64.wrap (m : Int) = (m : Int) := IntWalk.i64_in _ (by omega)
    have hni1 : ¬ (ni : Int) = 0 := by omega
    have hmi : (m : Int) < (ni : Int) := by omega
    have hm0 : 0 <= (m : Int) := by omega
    obtain ⟨gI, pI, eI, hgI, _⟩ := (HL1.out.rows.insts e0 hmem).form (by omega)
    rw [hI, hni] at eI
    injection eI with eI _ eI2
    subst eI eI2
    obtain ⟨_, hi2, hi3, hne1, hne2⟩ := HL1.out.inst HES.out.2.1 hI hni hkn2
    obtain ⟨iv, hiv⟩ : ∃ i, e0.2.1[m] = i := ⟨_, rfl⟩
    have hcx : ∀ j, j < 15 -> W1.cell? ⟨gI, m * 15 + j, none⟩ = iv.cells[j]? := fun j hj => by
     have hr := HL1.out.rows.insts e0 hmem
     rw [hI, hni] at hr
     have hg := flat_get InstV.cells 15 (fun _ => rfl) e0.2.1 m j (by omega) hj
     rw [hiv] at hg
     rw [hr.cellAt _ (by omega)]
     exact hg
    have x0 := hcx 0 (by decide)
    have x1 := hcx 1 (by decide)
    have x2 := hcx 2 (by decide)
    have x3 := hcx 3 (by decide)
    have x4 := hcx 4 (by decide)
    have x5 := hcx 5 (by decide)
    have x6 := hcx 6 (by decide)
    have x7 := hcx 7 (by decide)
    have x8 := hcx 8 (by decide)
    have x9 := hcx 9 (by decide)
    have x10 := hcx 10 (by decide)
    have x11 := hcx 11 (by decide)
    have x12 := hcx 12 (by decide)
    have x13 := hcx 13 (by decide)
    have x14 := hcx 14 (by decide)
    simp only [InstV.cells, List.getElem?_cons_succ, List.getElem?_cons_zero, Nat.add_zero] at x0 x1 x2 x3 x4 x5 x6 x7 x8 x9 x10 x11 x12 x13 x14
    have HTS := lh (show ∀ V, Below W1.heap.size W1 V -> (fun w' => w'.cell? ⟨w.heap.size, 7, none⟩ = some (.slice (some ⟨g7, 0, none⟩) nb q7) /\ (∀ o, w'.cell? ⟨w.heap.size + 1, o, none⟩ = (#[.int .u8 pt, .int .u8 a0, .int .u8 a1, y, .string nm, ok, on, .int .i32 ov] : Array Value)[o]?) /\ w'.cell? ⟨g7, b * 14, none⟩ = some (.slice (some ⟨gI, 0, none⟩) ni cI)) V from fun V hV => ⟨(HL1.out.on hV).c7, HZ.out V hV, by
     have h := (HL1.out.on hV).head HES.out.2.1
     rw [HSL.out, hI] at h
     exact h⟩)
    have HHT := lh (fun V => chgI_any iv pt a0 a1 y ok on ov nm V HH.out.2.2.1)
    obtain ⟨i', hi'⟩ : ∃ i', chgI (Int.tmod (Int.tdiv pt 16) 8) y ⟨ok, on, ov⟩ iv = i' := ⟨_, rfl⟩
    have HI' := lh hi'
    rw [hi'] at HHT
    have HTHR := lh (show ∀ V, Below W1.heap.size W1 V -> V.there gI (m * 15) 15 from fun V hV j hj => by
     obtain ⟨_, k2, k3, _⟩ := (HL1.out.on hV).inst HES.out.2.1 hI hni hkn2
     obtain ⟨u, hu⟩ := k3 j hj
     exact ⟨by rw [hu]; rfl, k2 _⟩)
    have HKPR := lh (show ∀ V, Below W1.heap.size W1 V -> (fun w' => w'.cell? ⟨w.heap.size, 7, none⟩ = some (.slice (some ⟨g7, 0, none⟩) nb q7) /\ (∀ o, w'.cell? ⟨w.heap.size + 1, o, none⟩ = (#[.int .u8 pt, .int .u8 a0, .int .u8 a1, y, .string nm, ok, on, .int .i32 ov] : Array Value)[o]?) /\ w'.cell? ⟨g7, b * 14, none⟩ = some (.slice (some ⟨gI, 0, none⟩) ni cI)) (V.setCells gI (m * 15) (instA i').toList) from fun V hV => by
     have key : ∀ x : Addr, x.block ≠ gI -> (V.setCells gI (m * 15) (instA i').toList).cell? x = V.cell? x := fun x hx => World.cell?_setCells_out gI _ _ _ x (fun e => absurd e hx)
     have h2 : w.heap.size + 1 ≠ gI := by have := HN0.out; omega
     exact ⟨(key _ hne1).trans (HTS.out V hV).1, fun o => (key _ h2).trans ((HTS.out V hV).2.1 o), (key _ hne2).trans (HTS.out V hV).2.2⟩)
    have HSK := lh (fun V (hV : Below W1.heap.size W1 V) => (HL1.out.on hV).setKc i' HES.out.2.2 hI hni hkn2)
    have H4K := lh (fun V (hV : Below W1.heap.size W1 V) => show (V.setCells gI (m * 15) (instA i').toList).heap[w.heap.size + 1 + 1]? = some (.cells #[(0:Int), (0:Int), (0:Int), (0:Int), (0:Int), .slice none 0 0, .slice none 0 0, .slice none 0 0] 36 (0, 0)) from by
     have h4 := (hV.block _ (Array.getElem?_eq_some_iff.1 H4.out).1).trans H4.out
     exact (World.heap_setCells_other V gI _ _ (Array.getElem?_eq_some_iff.1 h4).1 (by have := HN0.out; omega)).trans h4)
    have HIV := lh (show iv ∈ e0.2.1 by rw [<- hiv]; exact List.getElem_mem _)
    have HNI := lh hni
    have HIN := lh hiN
    have HB1 := lh (show Below W1.heap.size W1 W1.drew from below_drewS (Below.refl _ W1))
    have HBc := lh (show Below W1.heap.size W1 W1.drew.drew from below_drewS HB1.out)
    clear hI hni hmem hcx hi2 hi3 hne1 hne2 hi' hiv hiN hgI
    go_upto_region 8 with fail
    refine wp_region_held_drew (S := (fun w' => w'.cell? ⟨w.heap.size, 7, none⟩ = some (.slice (some ⟨g7, 0, none⟩) nb q7) /\ (∀ o, w'.cell? ⟨w.heap.size + 1, o, none⟩ = (#[.int .u8 pt, .int .u8 a0, .int .u8 a1, y, .string nm, ok, on, .int .i32 ov] : Array Value)[o]?) /\ w'.cell? ⟨g7, b * 14, none⟩ = some (.slice (some ⟨gI, 0, none⟩) ni cI))) (by kernel_rfl) ?_ (fun hHeld => ?_)
    . (try dsimp only); exact HTS.out _ HB1.out
    refine tk 0 ?_
    refine tk 1 ?_
    refine tk 2 ?_
    refine tk 3 ?_
    refine tk 4 ?_
    refine tk 5 ?_
    refine tk 6 ?_
    refine tk 7 ?_
    refine tk 8 ?_
    refine tk 9 ?_
    refine tk 10 ?_
    refine tk 11 ?_
    refine tk 12 ?_
    refine wpAnyH_done (by kernel_rfl) ?_ _
    clear hHeld
    go_upto_region 9 with fail
    refine wp_region_held_drew (S := (fun w' => w'.cell? ⟨w.heap.size, 7, none⟩ = some (.slice (some ⟨g7, 0, none⟩) nb q7) /\ (∀ o, w'.cell? ⟨w.heap.size + 1, o, none⟩ = (#[.int .u8 pt, .int .u8 a0, .int .u8 a1, y, .string nm, ok, on, .int .i32 ov] : Array Value)[o]?) /\ w'.cell? ⟨g7, b * 14, none⟩ = some (.slice (some ⟨gI, 0, none⟩) ni cI))) (by kernel_rfl) ?_ (fun hHeld => ?_)
    . (try dsimp only); exact HTS.out _ HBc.out
    refine tk 0 ?_
    refine tk 1 ?_
    refine tk 2 ?_
    refine tk 3 ?_
    refine tk 4 ?_
    refine tk 5 ?_
    refine tk 6 ?_
    refine tk 7 ?_
    refine tk 8 ?_
    refine tk 9 ?_
    refine tk 10 ?_
    refine tk 11 ?_
    refine tk 12 ?_
    refine tk 13 ?_
    refine tk 14 ?_
    refine tk 16 ?_
    refine an 15 (fun K hK => ?_)
    go_simp
    refine hK.out _ _ ?_ (fun hHeld => ?_)
    . (try dsimp only); exact HTS.out _ HBc.out
    clear hK K
    try simp only [pe]
    refine an 17 (fun K hK => ?_)
    go_simp
    (go_at_call 45; refine (HHT.out _).mono ?_; rintro e wv ⟨rfl, hbx⟩; have HBc2 := lh (HBc.out.trans (hbx.mono HBc.out.size)); clear hbx)
    try go_wp2_with fail
    refine hK.out _ _ ?_ (fun hHeld => ?_)
    . (try dsimp only); exact HTS.out _ HBc2.out
    clear hK K
    try simp only [pe]
    refine tk 18 ?_
    refine an 19 (fun K hK => ?_)
    have HTH := HTHR.out _ HBc2.out
    refine step_store_mid rfl 61 (.tmp 78) (.tmp 77) rfl gI (m * 15) (instA i') (by kernel_rfl) (by kernel_rfl) (fun j hj => HTH j hj) (by kernel_rfl) (instA_one _) ?_
    refine hK.out _ _ ?_ (fun hHeld => ?_)
    . (try dsimp only); exact HKPR.out _ HBc2.out
    clear hK K
    try simp only [pe]
    refine wpAnyH_done (by kernel_rfl) ?_ _
    clear hHeld HTH
    have HS := lh (HSK.out _ HBc2.out)
    have H4b := lh (H4K.out _ HBc2.out)
    go_wp2
    go_meet
    exact ⟨c.n, A5, A6, some ⟨g7, 0, none⟩, q5, q6, q7, c.q, c.l, es1 ++ (e0.1, e0.2.1.set m i', e0.2.2) :: es2, _, rfl, lh ⟨by
     have hlen : (es1 ++ (e0.1, e0.2.1.set m i', e0.2.2) :: es2).length = nb := by
      have h := HES.out.2.1
      rw [List.length_append, List.length_cons] at h ⊢
      exact h
     rw [HNQ.out, HNL.out, hlen]
     exact HS.out, gc_b HG0.out (by
      have h := HG0.out.b
      rw [<- HES.out.1] at h
      simp only [List.length_map, List.length_append, List.length_cons] at h ⊢
      omega) (fun e he => by
      have hm : e = (e0.2.1.set m i', e0.2.2) \/ e ∈ c.b := by
       rw [<- HES.out.1]
       simp only [List.map_append, List.map_cons, List.mem_append, List.mem_cons] at he ⊢
       rcases he with h | h | h
       . exact .inr (.inl h)
       . exact .inl h
       . exact .inr (.inr (.inr h))
      rcases hm with rfl | h
      . refine .inr ⟨by show (e0.2.1.set m i').length <= _; rw [List.length_set]; exact Nat.le_succ_of_le (HG0.out.i e0.2 HEM.out), fun x hx => ?_, HG0.out.ok.t e0.2 HEM.out⟩
        rcases List.mem_or_eq_of_mem_set hx with h | h
        . exact HG0.out.ok.i e0.2 HEM.out x h
        . rw [h, <- HI'.out]
          exact chgI_rng _ HH.out.2.2.2.1 HH.out.2.2.2.2.1 (HG0.out.ok.i e0.2 HEM.out _ HIV.out)
      . exact .inl h), H4b.out⟩⟩
  . obtain ⟨es1, e0, es2, hse, hsl⟩ := split_q es (k := b) (by rw [HES.out.2.1]; exact hbn)
    subst hse
    obtain ⟨g7, p7, e7, hge, _⟩ := HL1.out.rows.blocks.form (by rw [HES.out.2.1]; omega)
    rw [HES.out.2.1] at e7
    injection e7 with e7 _ e8
    subst e7 e8
    have HGE := lh hge
    have HSL := lh hsl
    have hbi : (b : Int) < (nb : Int) := by omega
    have hb00 : 0 <= (b : Int) := by omega
    have hem : e0.2 ∈ c.b := by rw [<- HES.out.1]; exact List.mem_map.2 ⟨e0, by simp, rfl⟩
    have HEM := lh hem
    clear hge hsl hem
    have hmem : e0 ∈ es1 ++ e0 :: es2 := List.mem_append.2 (.inr List.mem_cons_self)
    obtain ⟨AI, cI, hI, _⟩ := own_cells (HL1.out.rows.insts e0 hmem)
    obtain ⟨ni, hni⟩ : ∃ m, e0.2.1.length = m := ⟨_, rfl⟩
    rw [hni] at hI
    have hd0 := HL1.out.head HES.out.2.1
    rw [HSL.out, hI] at hd0
    by_cases hz3 : ni = 0
    . have e1 : ¬ (0 : Int) < (ni : Int) := by omega
      clear hI hni hmem
      go_wp2
      go_meet
      exact ⟨c.n, A5, A6, some ⟨g7, 0, none⟩, q5, q6, q7, c.q, c.l, es1 ++ e0 :: es2, _, rfl, lh ⟨by rw [HNQ.out, HNL.out, HES.out.2.1]; exact HL1.out, by rw [HES.out.1]; exact HG0.out.up, H4.out⟩⟩
    have e1 : (0 : Int) < (ni : Int) := by omega
    obtain ⟨m, hkm2, hkn2⟩ : ∃ m : Nat, Int.tmod a1 ni = (m : Int) /\ m < ni := ⟨(Int.tmod a1 ni).toNat, by
     have := Int.tmod_nonneg (ni : Int) HH.out.2.1.1
     omega, by
     have := Int.tmod_lt_of_pos a1 (show (0 : Int) < ni by omega)
     have := Int.tmod_nonneg (ni : Int) HH.out.2.1.1
     omega⟩
    have hiN : ni <= 60001 := by rw [<- hni]; exact Nat.le_trans (HG0.out.i e0.2 HEM.out) (Nat.le_trans hN2.out (by decide))
    have hwm : IntKind.i64.wrap (m : Int) = (m : Int) := IntWalk.i64_in _ (by omega)
    have hni1 : ¬ (ni : Int) = 0 := by omega
    have hmi : (m : Int) < (ni : Int) := by omega
    have hm0 : 0 <= (m : Int) := by omega
    obtain ⟨gI, pI, eI, hgI, _⟩ := (HL1.out.rows.insts e0 hmem).form (by omega)
    rw [hI, hni] at eI
    injection eI with eI _ eI2
    subst eI eI2
    obtain ⟨_, hi2, hi3, hne1, hne2⟩ := HL1.out.inst HES.out.2.1 hI hni hkn2
    obtain ⟨iv, hiv⟩ : ∃ i, e0.2.1[m] = i := ⟨_, rfl⟩
    have hcx : ∀ j, j < 15 -> W1.cell? ⟨gI, m * 15 + j, none⟩ = iv.cells[j]? := fun j hj => by
     have hr := HL1.out.rows.insts e0 hmem
     rw [hI, hni] at hr
     have hg := flat_get InstV.cells 15 (fun _ => rfl) e0.2.1 m j (by omega) hj
     rw [hiv] at hg
     rw [hr.cellAt _ (by omega)]
     exact hg
    have x0 := hcx 0 (by decide)
    have x1 := hcx 1 (by decide)
    have x2 := hcx 2 (by decide)
    have x3 := hcx 3 (by decide)
    have x4 := hcx 4 (by decide)
    have x5 := hcx 5 (by decide)
    have x6 := hcx 6 (by decide)
    have x7 := hcx 7 (by decide)
    have x8 := hcx 8 (by decide)
    have x9 := hcx 9 (by decide)
    have x10 := hcx 10 (by decide)
    have x11 := hcx 11 (by decide)
    have x12 := hcx 12 (by decide)
    have x13 := hcx 13 (by decide)
    have x14 := hcx 14 (by decide)
    simp only [InstV.cells, List.getElem?_cons_succ, List.getElem?_cons_zero, Nat.add_zero] at x0 x1 x2 x3 x4 x5 x6 x7 x8 x9 x10 x11 x12 x13 x14
    have HTS := lh (show ∀ V, Below W1.heap.size W1 V -> (fun w' => w'.cell? ⟨w.heap.size, 7, none⟩ = some (.slice (some ⟨g7, 0, none⟩) nb q7) /\ (∀ o, w'.cell? ⟨w.heap.size + 1, o, none⟩ = (#[.int .u8 pt, .int .u8 a0, .int .u8 a1, y, .string nm, ok, on, .int .i32 ov] : Array Value)[o]?) /\ w'.cell? ⟨g7, b * 14, none⟩ = some (.slice (some ⟨gI, 0, none⟩) ni cI)) V from fun V hV => ⟨(HL1.out.on hV).c7, HZ.out V hV, by
     have h := (HL1.out.on hV).head HES.out.2.1
     rw [HSL.out, hI] at h
     exact h⟩)
    have HHT := lh (fun V => chgI_any iv pt a0 a1 y ok on ov nm V HH.out.2.2.1)
    obtain ⟨i', hi'⟩ : ∃ i', chgI (Int.tmod (Int.tdiv pt 16) 8) y ⟨ok, on, ov⟩ iv = i' := ⟨_, rfl⟩
    have HI' := lh hi'
    rw [hi'] at HHT
    have HTHR := lh (show ∀ V, Below W1.heap.size W1 V -> V.there gI (m * 15) 15 from fun V hV j hj => by
     obtain ⟨_, k2, k3, _⟩ := (HL1.out.on hV).inst HES.out.2.1 hI hni hkn2
     obtain ⟨u, hu⟩ := k3 j hj
     exact ⟨by rw [hu]; rfl, k2 _⟩)
    have HKPR := lh (show ∀ V, Below W1.heap.size W1 V -> (fun w' => w'.cell? ⟨w.heap.size, 7, none⟩ = some (.slice (some ⟨g7, 0, none⟩) nb q7) /\ (∀ o, w'.cell? ⟨w.heap.size + 1, o, none⟩ = (#[.int .u8 pt, .int .u8 a0, .int .u8 a1, y, .string nm, ok, on, .int .i32 ov] : Array Value)[o]?) /\ w'.cell? ⟨g7, b * 14, none⟩ = some (.slice (some ⟨gI, 0, none⟩) ni cI)) (V.setCells gI (m * 15) (instA i').toList) from fun V hV => by
     have key : ∀ x : Addr, x.block ≠ gI -> (V.setCells gI (m * 15) (instA i').toList).cell? x = V.cell? x := fun x hx => World.cell?_setCells_out gI _ _ _ x (fun e => absurd e hx)
     have h2 : w.heap.size + 1 ≠ gI := by have := HN0.out; omega
     exact ⟨(key _ hne1).trans (HTS.out V hV).1, fun o => (key _ h2).trans ((HTS.out V hV).2.1 o), (key _ hne2).trans (HTS.out V hV).2.2⟩)
    have HSK := lh (fun V (hV : Below W1.heap.size W1 V) => (HL1.out.on hV).setKc i' HES.out.2.2 hI hni hkn2)
    have H4K := lh (fun V (hV : Below W1.heap.size W1 V) => show (V.setCells gI (m * 15) (instA i').toList).heap[w.heap.size + 1 + 1]? = some (.cells #[(0:Int), (0:Int), (0:Int), (0:Int), (0:Int), .slice none 0 0, .slice none 0 0, .slice none 0 0] 36 (0, 0)) from by
     have h4 := (hV.block _ (Array.getElem?_eq_some_iff.1 H4.out).1).trans H4.out
     exact (World.heap_setCells_other V gI _ _ (Array.getElem?_eq_some_iff.1 h4).1 (by have := HN0.out; omega)).trans h4)
    have HIV := lh (show iv ∈ e0.2.1 by rw [<- hiv]; exact List.getElem_mem _)
    have HNI := lh hni
    have HIN := lh hiN
    have HB1 := lh (show Below W1.heap.size W1 W1.drew from below_drewS (Below.refl _ W1))
    have HBc := lh (show Below W1.heap.size W1 W1.drew.drew from below_drewS HB1.out)
    clear hI hni hmem hcx hi2 hi3 hne1 hne2 hi' hiv hiN hgI
    go_upto_region 8 with fail
    refine wp_region_held_drew (S := (fun w' => w'.cell? ⟨w.heap.size, 7, none⟩ = some (.slice (some ⟨g7, 0, none⟩) nb q7) /\ (∀ o, w'.cell? ⟨w.heap.size + 1, o, none⟩ = (#[.int .u8 pt, .int .u8 a0, .int .u8 a1, y, .string nm, ok, on, .int .i32 ov] : Array Value)[o]?) /\ w'.cell? ⟨g7, b * 14, none⟩ = some (.slice (some ⟨gI, 0, none⟩) ni cI))) (by kernel_rfl) ?_ (fun hHeld => ?_)
    . (try dsimp only); exact HTS.out _ HB1.out
    refine tk 0 ?_
    refine tk 1 ?_
    refine tk 2 ?_
    refine tk 3 ?_
    refine tk 4 ?_
    refine tk 5 ?_
    refine tk 6 ?_
    refine tk 7 ?_
    refine tk 8 ?_
    refine tk 9 ?_
    refine tk 10 ?_
    refine tk 11 ?_
    refine tk 12 ?_
    refine wpAnyH_done (by kernel_rfl) ?_ _
    clear hHeld
    go_upto_region 9 with fail
    refine wp_region_held_drew (S := (fun w' => w'.cell? ⟨w.heap.size, 7, none⟩ = some (.slice (some ⟨g7, 0, none⟩) nb q7) /\ (∀ o, w'.cell? ⟨w.heap.size + 1, o, none⟩ = (#[.int .u8 pt, .int .u8 a0, .int .u8 a1, y, .string nm, ok, on, .int .i32 ov] : Array Value)[o]?) /\ w'.cell? ⟨g7, b * 14, none⟩ = some (.slice (some ⟨gI, 0, none⟩) ni cI))) (by kernel_rfl) ?_ (fun hHeld => ?_)
    . (try dsimp only); exact HTS.out _ HBc.out
    refine tk 0 ?_
    refine tk 1 ?_
    refine tk 2 ?_
    refine tk 3 ?_
    refine tk 4 ?_
    refine tk 5 ?_
    refine tk 6 ?_
    refine tk 7 ?_
    refine tk 8 ?_
    refine tk 9 ?_
    refine tk 10 ?_
    refine tk 11 ?_
    refine tk 12 ?_
    refine tk 13 ?_
    refine tk 14 ?_
    refine tk 16 ?_
    refine an 15 (fun K hK => ?_)
    go_simp
    refine hK.out _ _ ?_ (fun hHeld => ?_)
    . (try dsimp only); exact HTS.out _ HBc.out
    clear hK K
    try simp only [pe]
    refine an 17 (fun K hK => ?_)
    go_simp
    (go_at_call 45; refine (HHT.out _).mono ?_; rintro e wv ⟨rfl, hbx⟩; have HBc2 := lh (HBc.out.trans (hbx.mono HBc.out.size)); clear hbx)
    try go_wp2_with fail
    refine hK.out _ _ ?_ (fun hHeld => ?_)
    . (try dsimp only); exact HTS.out _ HBc2.out
    clear hK K
    try simp only [pe]
    refine tk 18 ?_
    refine an 19 (fun K hK => ?_)
    have HTH := HTHR.out _ HBc2.out
    refine step_store_mid rfl 61 (.tmp 78) (.tmp 77) rfl gI (m * 15) (instA i') (by kernel_rfl) (by kernel_rfl) (fun j hj => HTH j hj) (by kernel_rfl) (instA_one _) ?_
    refine hK.out _ _ ?_ (fun hHeld => ?_)
    . (try dsimp only); exact HKPR.out _ HBc2.out
    clear hK K
    try simp only [pe]
    refine wpAnyH_done (by kernel_rfl) ?_ _
    clear hHeld HTH
    have HS := lh (HSK.out _ HBc2.out)
    have H4b := lh (H4K.out _ HBc2.out)
    go_wp2
    go_meet
    exact ⟨c.n, A5, A6, some ⟨g7, 0, none⟩, q5, q6, q7, c.q, c.l, es1 ++ (e0.1, e0.2.1.set m i', e0.2.2) :: es2, _, rfl, lh ⟨by
     have hlen : (es1 ++ (e0.1, e0.2.1.set m i', e0.2.2) :: es2).length = nb := by
      have h := HES.out.2.1
      rw [List.length_append, List.length_cons] at h ⊢
      exact h
     rw [HNQ.out, HNL.out, hlen]
     exact HS.out, gc_b HG0.out (by
      have h := HG0.out.b
      rw [<- HES.out.1] at h
      simp only [List.length_map, List.length_append, List.length_cons] at h ⊢
      omega) (fun e he => by
      have hm : e = (e0.2.1.set m i', e0.2.2) \/ e ∈ c.b := by
       rw [<- HES.out.1]
       simp only [List.map_append, List.map_cons, List.mem_append, List.mem_cons] at he ⊢
       rcases he with h | h | h
       . exact .inr (.inl h)
       . exact .inl h
       . exact .inr (.inr (.inr h))
      rcases hm with rfl | h
      . refine .inr ⟨by show (e0.2.1.set m i').length <= _; rw [List.length_set]; exact Nat.le_succ_of_le (HG0.out.i e0.2 HEM.out), fun x hx => ?_, HG0.out.ok.t e0.2 HEM.out⟩
        rcases List.mem_or_eq_of_mem_set hx with h | h
        . exact HG0.out.ok.i e0.2 HEM.out x h
        . rw [h, <- HI'.out]
          exact chgI_rng _ HH.out.2.2.2.1 HH.out.2.2.2.2.1 (HG0.out.ok.i e0.2 HEM.out _ HIV.out)
      . exact .inl h), H4b.out⟩⟩
 case rest =>
 clear c5 c7
 obtain ⟨n, A5, A6, A7, p5, p6, p7, qs, ls, es, V, rfl, hcc⟩ := hcut
 have HL := lh hcc.out.1
 have HG := lh hcc.out.2.1
 have H4 := lh hcc.out.2.2
 have hN3 := hN2.out
 have d0 := HL.out.c0
 have d1 := HL.out.c1
 have d2 := HL.out.c2
 have d3 := HL.out.c3
 have d4 := HL.out.c4
 have d5 := HL.out.c5
 have d6 := HL.out.c6
 have d7 := HL.out.c7
 have h4 := H4.out
 have rf4 := fun o => frozen_of_row _ _ o _ _ h4
 have k4 := kcell h4
 clear h4
 go_wp2
 obtain ⟨V2, hV2, hx, hrw, hbl⟩ := fin8 HL.out H4.out (show w.heap.size <= w.heap.size + 1 + 1 by omega)
 rw [st8_def, hV2]
 have r0 := kcell hx
 obtain ⟨ad, e5, e6, e7, hk⟩ := hrw.cdk n (fun x hx => Nat.le_trans (HG.out.nm x hx) (by decide)) (fun e he => Nat.le_trans (HG.out.i e.2 (List.mem_map.2 ⟨e, he, rfl⟩)) (by omega))
 refine bodyPost_ret (v := .agg #[(n 0), (n 1), (n 2), (n 3), (n 4), .slice A5 qs.length p5, .slice A6 ls.length p6, .slice A7 es.length p7]) (by simp [results, Tryz.results13, go_sem, r0]) rfl ?_
 refine ⟨⟨qs, ls, es.map (·.2), n⟩, ad, ?_, ⟨HG.out, hk⟩, hbl⟩
 rw [List.length_map]
 rw [<- e5, <- e6, <- e7]
theorem chc_any (c : CdV) (a : CdA) (w : World) (N : Nat) (pt a0 a1 y ok on ov : Int) (nm : ByteArray) (hN : N <= 60000) (hm : CdM c a w) (hg : GC N c) (h0 : 0 <= a0 /\ a0 <= 255) (h1 : 0 <= a1 /\ a1 <= 255) (hp : 0 <= pt /\ pt <= 255) (hy : I64 y) (ho : (⟨ok, on, ov⟩ : OpdV).Rng) (hnm : nm.size <= 9223372036854775807) :
 Calls Tryz.prog 13 #[cdval c a, .agg #[.int .u8 pt, .int .u8 a0, .int .u8 a1, y, .string nm, ok, on, .int .i32 ov]] w fun e w' => ∃ (D : CdV) (a' : CdA), e = .returned (cdval D a') /\ (GC (N + 1) D /\ CdK D a' w') /\ Below w.heap.size w w' := by
 by_cases h : (c.b.length = 0 \/ c.q.length = 0) \/ Int.tmod pt 16 < 14
 . exact chc_lo c a w N pt a0 a1 y ok on ov nm hN hm hg h0 h1 hp hy ho hnm h
 . exact chc_hi c a w N pt a0 a1 y ok on ov nm hN hm hg h0 h1 hp hy ho hnm (by omega) (not_or.1 h).1
end Go.Proofs.YtkncilgmlkeifaaGreatDoor
