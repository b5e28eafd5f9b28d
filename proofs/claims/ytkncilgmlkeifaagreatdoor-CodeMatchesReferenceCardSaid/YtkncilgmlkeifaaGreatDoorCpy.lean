import Derived.Test.YtkncilgmlkeifaaGreatDoorCdm
import Derived.Laws.AppendOwnNone
import Derived.Deep.RegionLaw
import Derived.Test.YtkncilgmlkeifaaGreatDoorPar
import Derived.Deep.RegionHeld3
/-
  Append of a whole slice, nil or not; the rows of a code that the call made.
-/
set_option linter.unusedVariables false
set_option linter.unusedSimpArgs false
namespace Go.Proofs.YtkncilgmlkeifaaGreatDoor
open Go.ChangeShapes Go.WideShapes Go.ChangeAt Go.RowKit Go.Shelf
structure Src (W : World) (A : Option Addr) (m size : Nat) (news : List Value) : Prop where
 len : news.length = m * size
 one : ∀ u ∈ news, u.oneCell' = true
 cells : 0 < m -> ∃ ad, A = some ad /\ ∀ j u, news[j]? = some u -> W.cell? (ad.add j) = some u
theorem run_append_src {P : Program} {w : World} (base : Nat) (t ty e : TypeId) (i : TypeInfo) (z : Value) (size bytes : Nat) (ht : P.underlying t = some (.slice e)) (hi : P.info? e = some i) (hz : i.zero = some z)
 (hsize : i.size = size) (hby : i.bytes = bytes) (hzs : z.cells.size = size) (hsz : 0 < size)
 (v : Value) (n : Nat) (xs : List Value) (hown : w.ownsRow base e size v n xs) (A : Option Addr) (m c : Nat) (news : List Value) (hx : Src w A m size news)
 (h63 : n + m <= maxLen) (hbytes : (n + m) * bytes <= 140737488355328) (hbase : base <= w.heap.size) :
 ∃ v' w', (Builtin.append_ #[t, t] ty #[v, .slice A m c]).run P w = .ok v' w' /\ w'.ownsRow base e size v' (n + m) (xs ++ news) /\ w.grownBy w' v.ownBlock := by
 cases A with
 | some ad =>
  obtain ⟨v', w', h1, h2, h3, _⟩ := run_append_own (P := P) (w := w) base t ty e i z size bytes ht hi hz hsize hby hzs hsz v n xs hown ad m c news hx.len (fun j u hj => by
   by_cases hm : 0 < m
   . obtain ⟨ad', e, hc⟩ := hx.cells hm
     cases e
     exact hc j u hj
   . have h0 : news.length = 0 := by rw [hx.len]; have : m = 0 := by omega
                                     rw [this, Nat.zero_mul]
     rw [List.eq_nil_of_length_eq_zero h0] at hj
     cases hj) hx.one h63 hbytes hbase
  exact ⟨v', w', h1, h2, h3⟩
 | none =>
  have hm : m = 0 := by
   rcases Nat.eq_zero_or_pos m with h | h
   . exact h
   . obtain ⟨ad, e, _⟩ := hx.cells h
     cases e
  subst hm
  have hn : news = [] := List.eq_nil_of_length_eq_zero (by rw [hx.len, Nat.zero_mul])
  subst hn
  refine ⟨v, w, ?_, by simpa using hown, ⟨rfl, rfl, rfl, Nat.le_refl _, fun _ _ _ => rfl⟩⟩
  rcases hown.2 with ⟨rfl, rfl⟩ | ⟨g, cap, cur, rfl, _, _, hnc, _⟩
  . simp [Builtin.append_, run_underlying ht, sizeOf, typeInfo, hi, Builtin.lenOf, Builtin.firstCells]
  . simp [Builtin.append_, run_underlying ht, sizeOf, typeInfo, hi, Builtin.lenOf, Builtin.firstCells, hnc, storeCells]
theorem wp_append_src {P : Program} {w : World} {o : Oper} {a : Act} {K : Act -> World -> Prop} {Q : Exit -> Act -> World -> Prop} (s x : Operand) (t : TypeId)
 (ho : o.op = .call { callee := .builtin .append, args := #[s, x], argTypes := #[t, t] })
 (base : Nat) (e : TypeId) (i : TypeInfo) (z : Value) (size bytes : Nat) (ht : P.underlying t = some (.slice e)) (hi : P.info? e = some i) (hz : i.zero = some z)
 (hsize : i.size = size) (hby : i.bytes = bytes) (hzs : z.cells.size = size) (hsz : 0 < size)
 (v : Value) (n : Nat) (xs : List Value) (hs : a.eval s = v) (hown : w.ownsRow base e size v n xs)
 (A : Option Addr) (m c : Nat) (news : List Value) (hx : a.eval x = .slice A m c) (hsrc : Src w A m size news)
 (h63 : n + m <= maxLen) (hbytes : (n + m) * bytes <= 140737488355328) (hbase : base <= w.heap.size)
 (h : ∀ v' w', w'.ownsRow base e size v' (n + m) (xs ++ news) -> w.grownBy w' v.ownBlock -> K (a.put o.dst v') w') : o.wp P a w K Q := by
 obtain ⟨v', w', hr, h2, h3⟩ := run_append_src (P := P) (w := w) base t o.type e i z size bytes ht hi hz hsize hby hzs hsz v n xs hown A m c news hsrc h63 hbytes hbase
 unfold Oper.wp execOp
 simp only [ho, resolve, invoke, builtin, Sem.run_bind, Sem.run_pure, Result.andThen_ok, List.map_toArray, List.map_cons, List.map_nil, hs, hx, hr]
 exact h v' w' h2 h3
theorem wpList_append_src {P : Program} {w : World} {ops : Array Oper} {rest : List Oper} {o : Oper} {a : Act} {Q : Exit -> Act -> World -> Prop} (hgd : o.guard = none) (s x : Operand) (t : TypeId)
 (ho : o.op = .call { callee := .builtin .append, args := #[s, x], argTypes := #[t, t] })
 (base : Nat) (e : TypeId) (i : TypeInfo) (z : Value) (size bytes : Nat) (ht : P.underlying t = some (.slice e)) (hi : P.info? e = some i) (hz : i.zero = some z)
 (hsize : i.size = size) (hby : i.bytes = bytes) (hzs : z.cells.size = size) (hsz : 0 < size)
 (v : Value) (n : Nat) (xs : List Value) (hs : a.eval s = v) (hown : w.ownsRow base e size v n xs)
 (A : Option Addr) (m c : Nat) (news : List Value) (hx : a.eval x = .slice A m c) (hsrc : Src w A m size news)
 (h63 : n + m <= maxLen) (hbytes : (n + m) * bytes <= 140737488355328) (hbase : base <= w.heap.size)
 (h : ∀ v' w', w'.ownsRow base e size v' (n + m) (xs ++ news) -> w.grownBy w' v.ownBlock -> wpList P ops Q rest (a.put o.dst v') w') : wpList P ops Q (o :: rest) a w :=
 wpList_plain hgd fun _ hK => wp_append_src s x t ho base e i z size bytes ht hi hz hsize hby hzs hsz v n xs hs hown A m c news hx hsrc h63 hbytes hbase fun v' w' h2 h3 => hK _ _ (h v' w' h2 h3)
theorem step_append_src {P : Program} {ops : Array Oper} {o : Oper} {a : Act} {w : World} {K : Act -> World -> Prop} {Q : Exit -> Act -> World -> Prop} {E : Prop} (hgd : o.guard = none) (s x : Operand) (t : TypeId)
 (ho : o.op = .call { callee := .builtin .append, args := #[s, x], argTypes := #[t, t] })
 (base : Nat) (e : TypeId) (i : TypeInfo) (z : Value) (size bytes : Nat) (ht : P.underlying t = some (.slice e)) (hi : P.info? e = some i) (hz : i.zero = some z)
 (hsize : i.size = size) (hby : i.bytes = bytes) (hzs : z.cells.size = size) (hsz : 0 < size)
 (v : Value) (n : Nat) (xs : List Value) (hs : a.eval s = v) (hown : w.ownsRow base e size v n xs)
 (A : Option Addr) (m c : Nat) (news : List Value) (hx : a.eval x = .slice A m c) (hsrc : Src w A m size news)
 (h63 : n + m <= maxLen) (hbytes : (n + m) * bytes <= 140737488355328) (hbase : base <= w.heap.size)
 (h : ∀ v' w', w'.ownsRow base e size v' (n + m) (xs ++ news) -> w.grownBy w' v.ownBlock -> K (a.put o.dst v') w') :
 if Region.wanted o (yielded ops a.tmps) = true then Oper.wp P o a w K Q else E := by
 have hw : Region.wanted o (yielded ops a.tmps) = true := by simp [Region.wanted, hgd]
 rw [if_pos hw]
 exact wp_append_src s x t ho base e i z size bytes ht hi hz hsize hby hzs hsz v n xs hs hown A m c news hx hsrc h63 hbytes hbase h
structure RC (n0 : Nat) (v5 v6 v7 : Value) (qs : List ArV) (ls : List LoV) (es : List BlE) (W : World) : Prop where
 arr : W.ownsRow n0 91 4 v5 qs.length (flatA qs)
 loops : W.ownsRow n0 85 3 v6 ls.length (flatL ls)
 blocks : W.ownsRow n0 55 14 v7 es.length (flatB es)
 insts : ∀ e, e ∈ es -> W.ownsRow n0 61 15 e.1 e.2.1.length (flatI e.2.1)
section
variable {n0 : Nat} {v5 v6 v7 : Value} {qs : List ArV} {ls : List LoV} {es : List BlE} {W W' : World}
theorem RC.k36 (h : RC n0 v5 v6 v7 qs ls es W) (hk : K36 W W') : RC n0 v5 v6 v7 qs ls es W' :=
 ⟨row_kept h.arr hk.1 (by decide), row_kept h.loops hk.1 (by decide), row_kept h.blocks hk.1 (by decide), fun e he => row_kept (h.insts e he) hk.1 (by decide)⟩
theorem RC.cdk (h : RC n0 v5 v6 v7 qs ls es W) (n : Nat -> Int) (hq : ∀ a, a ∈ qs -> a.1.size <= 9223372036854775807) (hi : ∀ e, e ∈ es -> e.2.1.length <= 65536) :
 ∃ a : CdA, v5 = .slice a.a1 qs.length a.c1 /\ v6 = .slice a.a2 ls.length a.c2 /\ v7 = .slice a.a3 es.length a.c3 /\ CdK ⟨qs, ls, es.map (·.2), n⟩ a W := by
 obtain ⟨A1, c1, e1, _⟩ := rar_of h.arr
 obtain ⟨A2, c2, e2, _⟩ := rlo_of h.loops
 have hs : ∀ {V : World}, RC n0 v5 v6 v7 qs ls es V -> ∀ e, e ∈ es -> ∃ A c, e.1 = .slice A e.2.1.length c := fun {V} hV e he => by
  obtain ⟨A, c, hv, _⟩ := rin_of (hV.insts e he)
  exact ⟨A, c, hv⟩
 obtain ⟨A3, c3, e3, _⟩ := rbl_of h.blocks (hs h)
 refine ⟨⟨A1, c1, A2, c2, A3, c3, fun j => adr (es.getD j noE).1, fun j => cpc (es.getD j noE).1⟩, e1, e2, e3, fun V hV => ?_⟩
 have k := h.k36 hV
 obtain ⟨B1, d1, f1, r1⟩ := rar_of k.arr
 obtain ⟨B2, d2, f2, r2⟩ := rlo_of k.loops
 obtain ⟨B3, d3, f3, r3⟩ := rbl_of k.blocks (hs k)
 rw [e1] at f1
 rw [e2] at f2
 rw [e3] at f3
 injection f1 with x1 _ y1
 injection f2 with x2 _ y2
 injection f3 with x3 _ y3
 subst x1 y1 x2 y2 x3 y3
 have hx : ∀ j, (es.getD j noE).2 = (es.map (·.2)).getD j noB := fun j => (getD_map_snd es j).symm
 have hl : (es.map (·.2)).length = es.length := List.length_map ..
 refine ⟨r1, r2, ?_, fun j hj => ?_, fun j hj => ?_, fun j => ?_⟩
 . show RBl V V.heap.size A3 (es.map (·.2)).length _ (fun j => ((es.map (·.2)).getD j noB).1.length) _ (fun j => ((es.map (·.2)).getD j noB).2)
   rw [hl]
   simp only [<- hx]
   exact r3
 . have hj' : j < es.length := by rw [<- hl]; exact hj
   obtain ⟨A, c, hv, hr⟩ := rin_of (k.insts _ (List.getElem_mem hj'))
   show RIn V V.heap.size (adr (es.getD j noE).1) ((es.map (·.2)).getD j noB).1.length (fun i => ((es.map (·.2)).getD j noB).1.getD i noI)
   rw [<- hx, getD_of _ _ _ hj', hv]
   exact hr
 . have hj' : j < es.length := by rw [<- hl]; exact hj
   show ((es.map (·.2)).getD j noB).1.length <= 65536
   rw [<- hx, getD_of _ _ _ hj']
   exact hi _ (List.getElem_mem hj')
 . show (qs.getD j noA).1.size <= _
   by_cases hj : j < qs.length
   . rw [getD_of _ _ _ hj]
     exact hq _ (List.getElem_mem hj)
   . rw [List.getD_eq_getElem?_getD, List.getElem?_eq_none (by omega)]
     decide
end
structure CpS (w : World) (K : Array Value) (W : World) : Prop where
 box : W.heap[w.heap.size]? = some (.cells K 36 (0, 0))
 res : W.heap[w.heap.size + 1]? = some (.cells zer8 36 (0, 0))
 below : Below w.heap.size w W
 size : w.heap.size + 2 <= W.heap.size
section
variable {w W W' : World} {K : Array Value}
theorem CpS.start (w : World) (K : Array Value) : CpS w K ((w.alloc (.cells K 36)).alloc (.cells zer8 36)) := by
 refine ⟨(Below.heap_alloc _ _ _ (by simp)).trans (heap_alloc_new w _), ?_, ((Below.refl _ _).alloc (Nat.le_refl _) _).alloc (by simp) _, by simp⟩
 have := heap_alloc_new (w.alloc (.cells K 36)) (.cells zer8 36)
 rwa [World.size_alloc] at this
theorem CpS.on (h : CpS w K W) (hb : Below W.heap.size W W') : CpS w K W' :=
 ⟨(hb.block _ (by have := h.size; omega)).trans h.box, (hb.block _ (by have := h.size; omega)).trans h.res, h.below.trans (hb.mono (by have := h.size; omega)), Nat.le_trans h.size hb.size⟩
theorem CpS.alloc (h : CpS w K W) (o : Obj) : CpS w K (W.alloc o) := h.on ((Below.refl _ _).alloc (Nat.le_refl _) _)
theorem CpS.grown (h : CpS w K W) {base e size n : Nat} {v : Value} {xs : List Value} (hr : W.ownsRow base e size v n xs) (hg : W.grownBy W' v.ownBlock) (he : 36 ≠ e) (hb : w.heap.size <= base) : CpS w K W' :=
 ⟨(grow_kept hr hg _ _ _ _ h.box he).trans h.box, (grow_kept hr hg _ _ _ _ h.res he).trans h.res, grow_below h.below hr hg hb (Nat.le_refl _), Nat.le_trans h.size hg.size⟩
theorem CpS.set (h : CpS w K W) (o : Nat) (v : Value) : CpS w (K.setIfInBounds o v) (W.setCell ⟨w.heap.size, o, none⟩ v) :=
 ⟨by simp [World.setCell, Array.getElem?_modify, h.box], (Below.heap_setCell _ _ _ _ (by simp)).trans h.res, h.below.setCell (Nat.le_refl _) v, by simpa [World.setCell] using h.size⟩
theorem CpS.setR (h : CpS w K W) (o : Nat) (v : Value) : Below w.heap.size w (W.setCell ⟨w.heap.size + 1, o, none⟩ v) := h.below.setCell (by simp) v
theorem CpS.ck (h : CpS w K W) (o : Nat) : W.cell? ⟨w.heap.size, o, none⟩ = K[o]? := by simp [World.cell?, h.box]
theorem CpS.fr (h : CpS w K W) (o : Nat) : W.frozen? ⟨w.heap.size, o, none⟩ = false := by simp [World.frozen?, h.box]
theorem CpS.rk (h : CpS w K W) (o : Nat) : W.cell? ⟨w.heap.size + 1, o, none⟩ = zer8[o]? := by simp [World.cell?, h.res]
theorem CpS.rf (h : CpS w K W) (o : Nat) : W.frozen? ⟨w.heap.size + 1, o, none⟩ = false := by simp [World.frozen?, h.res]
end
theorem src_flat {α : Type} (f : α -> List Value) (sz : Nat) (hz : 0 < sz) (hf : ∀ x, (f x).length = sz) (h1 : ∀ x u, u ∈ f x -> u.oneCell' = true) {l : List α} {W : World} {A : Option Addr}
 (hc : 0 < l.length -> ∃ b off, A = some ⟨b, off, none⟩ /\ ∀ j (hj : j < l.length) i, i < sz -> W.cell? ⟨b, off + j * sz + i, none⟩ = (f l[j])[i]?) : Src W A l.length sz (l.flatMap f) := by
 have hlen : ∀ l : List α, (l.flatMap f).length = l.length * sz := fun l => by
  induction l with
  | nil => simp
  | cons x l ih => rw [List.flatMap_cons, List.length_append, ih, hf, List.length_cons, Nat.succ_mul]; omega
 refine ⟨hlen l, fun u hu => ?_, fun hn => ?_⟩
 . obtain ⟨x, _, hx⟩ := List.mem_flatMap.1 hu
   exact h1 x u hx
 . obtain ⟨b, off, rfl, hcell⟩ := hc hn
   refine ⟨_, rfl, fun j u hj => ?_⟩
   have hlt : j < l.length * sz := by
    rw [<- hlen l]
    exact (List.getElem?_eq_some_iff.1 hj).1
   have e : j = (j / sz) * sz + j % sz := by rw [Nat.mul_comm]; exact (Nat.div_add_mod j sz).symm
   have hd : j / sz < l.length := (Nat.div_lt_iff_lt_mul hz).2 hlt
   have hm : j % sz < sz := Nat.mod_lt _ hz
   have h2 := flat_get f sz hf l (j / sz) (j % sz) hd hm
   rw [<- e, hj] at h2
   have h3 : W.cell? ⟨b, off + j, none⟩ = some u := by rw [h2, <- hcell _ hd _ hm, Nat.add_assoc, <- e]
   by_cases hj0 : j = 0
   . subst hj0
     simpa [Addr.add] using h3
   . simpa [Addr.add, hj0] using h3
theorem src_arr {c : CdV} {a : CdA} {w W : World} (h : CdM c a w) (hb : Below w.heap.size w W) : Src W a.a1 c.q.length 4 (flatA c.q) := by
 refine src_flat arC 4 (by decide) (fun _ => rfl) (fun x u hu => ?_) (fun hn => ?_)
 . simp only [arC, List.mem_cons, List.not_mem_nil, or_false] at hu
   rcases hu with rfl | rfl | rfl | rfl <;> rfl
 . obtain ⟨b, off, e, _, hc⟩ := (h.arr.below hb) hn
   refine ⟨b, off, e, fun j hj i hi => ?_⟩
   obtain ⟨h0, h1, h2, h3⟩ := hc j hj
   simp only [CdV.nm, CdV.sp, CdV.ty, CdV.ln, getD_of _ _ _ hj] at h0 h1 h2 h3
   match i, hi with
   | 0, _ => exact h0
   | 1, _ => exact h1
   | 2, _ => exact h2
   | 3, _ => exact h3
theorem src_lo {c : CdV} {a : CdA} {w W : World} (h : CdM c a w) (hb : Below w.heap.size w W) : Src W a.a2 c.l.length 3 (flatL c.l) := by
 refine src_flat loC 3 (by decide) (fun _ => rfl) (fun x u hu => ?_) (fun hn => ?_)
 . simp only [loC, List.mem_cons, List.not_mem_nil, or_false] at hu
   rcases hu with rfl | rfl | rfl <;> rfl
 . obtain ⟨b, off, e, _, hc⟩ := (h.loops.below hb) hn
   refine ⟨b, off, e, fun j hj i hi => ?_⟩
   obtain ⟨h0, h1, h2⟩ := hc j hj
   simp only [CdV.hd, CdV.rg, CdV.bd, getD_of _ _ _ hj] at h0 h1 h2
   match i, hi with
   | 0, _ => exact h0
   | 1, _ => exact h1
   | 2, _ => exact h2
theorem src_in {c : CdV} {a : CdA} {w W : World} (h : CdM c a w) (hb : Below w.heap.size w W) (k : Nat) (hk : k < c.b.length) : Src W (a.ia k) (c.il k) 15 (flatI (c.b[k]).1) := by
 have e0 : c.il k = (c.b[k]).1.length := by unfold CdV.il; rw [getD_of _ _ _ hk]
 rw [e0]
 refine src_flat InstV.cells 15 (by decide) (fun _ => rfl) (fun x u hu => ?_) (fun hn => ?_)
 . simp only [InstV.cells, List.mem_cons, List.not_mem_nil, or_false] at hu
   rcases hu with rfl | rfl | rfl | rfl | rfl | rfl | rfl | rfl | rfl | rfl | rfl | rfl | rfl | rfl | rfl <;> rfl
 . obtain ⟨b, off, e, _, hc⟩ := ((h.insts k hk).below hb) (by rw [e0]; exact hn)
   refine ⟨b, off, e, fun j hj i hi => ?_⟩
   obtain ⟨h0, h1, h2, h3, h4, h5, h6, h7, h8, h9, h10, h11, h12, h13, h14⟩ := hc j (by rw [e0]; exact hj)
   have ei : c.is k j = (c.b[k]).1[j] := by unfold CdV.is; rw [getD_of _ _ _ hk, getD_of _ _ _ hj]
   rw [ei] at h0 h1 h2 h3 h4 h5 h6 h7 h8 h9 h10 h11 h12 h13 h14
   match i, hi with
   | 0, _ => exact h0
   | 1, _ => exact h1
   | 2, _ => exact h2
   | 3, _ => exact h3
   | 4, _ => exact h4
   | 5, _ => exact h5
   | 6, _ => exact h6
   | 7, _ => exact h7
   | 8, _ => exact h8
   | 9, _ => exact h9
   | 10, _ => exact h10
   | 11, _ => exact h11
   | 12, _ => exact h12
   | 13, _ => exact h13
   | 14, _ => exact h14
structure CpT (w : World) (K : Array Value) (v5 v6 : Value) (qs : List ArV) (ls : List LoV) (W : World) : Prop where
 s : CpS w K W
 arr : W.ownsRow w.heap.size 91 4 v5 qs.length (flatA qs)
 lo : W.ownsRow w.heap.size 85 3 v6 ls.length (flatL ls)
section
variable {w W W' : World} {K : Array Value} {v5 v6 : Value} {qs : List ArV} {ls : List LoV}
theorem kept_below (hb : Below W.heap.size W W') (S : TypeId -> Prop) : Kept S W W' := fun k C T fr hk _ => hb.block k (Array.getElem?_eq_some_iff.1 hk).1
theorem CpT.on (h : CpT w K v5 v6 qs ls W) (hb : Below W.heap.size W W') : CpT w K v5 v6 qs ls W' :=
 ⟨h.s.on hb, row_kept h.arr (kept_below hb (fun _ => True)) trivial, row_kept h.lo (kept_below hb (fun _ => True)) trivial⟩
theorem CpT.alloc (h : CpT w K v5 v6 qs ls W) (o : Obj) : CpT w K v5 v6 qs ls (W.alloc o) := h.on ((Below.refl _ _).alloc (Nat.le_refl _) _)
theorem CpT.set (h : CpT w K v5 v6 qs ls W) (o : Nat) (v : Value) : CpT w (K.setIfInBounds o v) v5 v6 qs ls (W.setCell ⟨w.heap.size, o, none⟩ v) :=
 ⟨h.s.set o v, row_kept h.arr (K36.set h.s.box o v).1 (by decide), row_kept h.lo (K36.set h.s.box o v).1 (by decide)⟩
theorem CpT.grown (h : CpT w K v5 v6 qs ls W) {base e size n : Nat} {v : Value} {xs : List Value} (hr : W.ownsRow base e size v n xs) (hg : W.grownBy W' v.ownBlock) (he : 36 ≠ e /\ 91 ≠ e /\ 85 ≠ e) (hb : w.heap.size <= base) : CpT w K v5 v6 qs ls W' :=
 ⟨h.s.grown hr hg he.1 hb, row_kept h.arr (grow_kept hr hg) he.2.1, row_kept h.lo (grow_kept hr hg) he.2.2⟩
section
variable {y0 y1 y2 y3 y4 y5 y6 y7 : Value}
theorem CpT.c0 (h : CpT w #[y0, y1, y2, y3, y4, y5, y6, y7] v5 v6 qs ls W) : W.cell? ⟨w.heap.size, 0, none⟩ = some y0 := h.s.ck 0
theorem CpT.c1 (h : CpT w #[y0, y1, y2, y3, y4, y5, y6, y7] v5 v6 qs ls W) : W.cell? ⟨w.heap.size, 1, none⟩ = some y1 := h.s.ck 1
theorem CpT.c2 (h : CpT w #[y0, y1, y2, y3, y4, y5, y6, y7] v5 v6 qs ls W) : W.cell? ⟨w.heap.size, 2, none⟩ = some y2 := h.s.ck 2
theorem CpT.c3 (h : CpT w #[y0, y1, y2, y3, y4, y5, y6, y7] v5 v6 qs ls W) : W.cell? ⟨w.heap.size, 3, none⟩ = some y3 := h.s.ck 3
theorem CpT.c4 (h : CpT w #[y0, y1, y2, y3, y4, y5, y6, y7] v5 v6 qs ls W) : W.cell? ⟨w.heap.size, 4, none⟩ = some y4 := h.s.ck 4
theorem CpT.c5 (h : CpT w #[y0, y1, y2, y3, y4, y5, y6, y7] v5 v6 qs ls W) : W.cell? ⟨w.heap.size, 5, none⟩ = some y5 := h.s.ck 5
theorem CpT.c6 (h : CpT w #[y0, y1, y2, y3, y4, y5, y6, y7] v5 v6 qs ls W) : W.cell? ⟨w.heap.size, 6, none⟩ = some y6 := h.s.ck 6
theorem CpT.c7 (h : CpT w #[y0, y1, y2, y3, y4, y5, y6, y7] v5 v6 qs ls W) : W.cell? ⟨w.heap.size, 7, none⟩ = some y7 := h.s.ck 7
end
theorem CpT.drew (h : CpT w K v5 v6 qs ls W) : CpT w K v5 v6 qs ls W.drew := h.on ⟨rfl, rfl, rfl, Nat.le_refl _, fun _ _ => rfl⟩
theorem CpT.fr (h : CpT w K v5 v6 qs ls W) (o : Nat) : W.frozen? ⟨w.heap.size, o, none⟩ = false := h.s.fr o
theorem CpT.size (h : CpT w K v5 v6 qs ls W) : w.heap.size <= W.heap.size := by have := h.s.size; omega
end
theorem cpt_start (w : World) (K : Array Value) : CpT w K (.slice none 0 0) (.slice none 0 0) [] [] ((w.alloc (.cells K 36)).alloc (.cells zer8 36)) := ⟨CpS.start w K, World.ownsRow_nil _ _ _ _, World.ownsRow_nil _ _ _ _⟩
theorem lit_own {w W : World} (e sz B : Nat) (hB : W.heap.size = B) (h : w.heap.size <= W.heap.size) : (W.alloc (.cells #[] e)).ownsRow w.heap.size e sz (.slice (some ⟨B, 0, none⟩) 0 0) 0 [] := by
 subst hB
 exact World.ownsRow_made W #[] 0 h (by decide) (by simp)
theorem CpT.arrs {w W W' : World} {K : Array Value} {qs : List ArV} {v : Value} (h : CpT w K (.slice none 0 0) (.slice none 0 0) [] [] W) (hr : W'.ownsRow w.heap.size 91 4 v (0 + qs.length) ([] ++ flatA qs)) {u : Value} (hu : (W.alloc (.cells #[] 91)).ownsRow w.heap.size 91 4 u 0 []) (hg : (W.alloc (.cells #[] 91)).grownBy W' u.ownBlock) : CpT w K v (.slice none 0 0) qs [] W' :=
 ⟨(h.alloc _).s.grown hu hg (by decide) (Nat.le_refl _), by simpa using hr, World.ownsRow_nil _ _ _ _⟩
theorem CpT.los {w W W' : World} {K : Array Value} {qs : List ArV} {ls : List LoV} {v v5 : Value} (h : CpT w K v5 (.slice none 0 0) qs [] W) (hr : W'.ownsRow w.heap.size 85 3 v (0 + ls.length) ([] ++ flatL ls)) {u : Value} (hu : (W.alloc (.cells #[] 85)).ownsRow w.heap.size 85 3 u 0 []) (hg : (W.alloc (.cells #[] 85)).grownBy W' u.ownBlock) : CpT w K v5 v qs ls W' :=
 ⟨(h.alloc _).s.grown hu hg (by decide) (Nat.le_refl _), row_kept (h.alloc _).arr (grow_kept hu hg) (by decide), by simpa using hr⟩
theorem lit_ownW {wr W : World} (e sz : Nat) (h : Below wr.heap.size wr W) : (W.alloc (.cells #[] e)).ownsRow wr.heap.size e sz (.slice (some ⟨W.heap.size, 0, none⟩) 0 0) 0 [] := World.ownsRow_made W #[] 0 h.size (by decide) (by simp)
theorem grow_setK {W : World} {b : Nat} {C : Array Value} {fr : Nat × Nat} (hb : W.heap[b]? = some (.cells C 36 fr)) (o : Nat) (u : Value) : K36 W (W.setCell ⟨b, o, none⟩ u) := K36.set hb o u
theorem lit_ownD {wr W : World} (e sz : Nat) (h : Below wr.heap.size wr W) : (W.alloc (.cells #[] e)).drew.ownsRow wr.heap.size e sz (.slice (some ⟨W.heap.size, 0, none⟩) 0 0) 0 [] := lit_ownW e sz h
theorem below_drewS {wr W : World} (h : Below wr.heap.size wr W) : Below wr.heap.size wr W.drew := ⟨h.os, h.tape, h.output, h.size, h.block⟩
theorem below_allocS {wr W : World} {o : Obj} (h : Below wr.heap.size wr W) : Below wr.heap.size wr (W.alloc o) := h.alloc h.size o
theorem s7_of {p0 p1 p2 p3 p4 p5 p6 p7 p8 p9 p10 p11 p12 p13 p14 q : Prop} (h : p0 /\ p1 /\ p2 /\ p3 /\ p4 /\ p5 /\ p6 /\ p7 /\ p8 /\ p9 /\ p10 /\ p11 /\ p12 /\ p13 /\ p14 /\ q) : q := h.2.2.2.2.2.2.2.2.2.2.2.2.2.2.2
def DisI (es : List BlE) : Prop := es.Pairwise fun x y => ∀ g, x.1.ownBlock = some g -> y.1.ownBlock ≠ some g
def CopyPost (c : CdV) (w : World) (e : Ending) (w' : World) : Prop := ∃ v5 v6 v7 es, e = .returned (.agg #[(c.n 0), (c.n 1), (c.n 2), (c.n 3), (c.n 4), v5, v6, v7]) /\ RC w.heap.size v5 v6 v7 c.q c.l es w' /\ es.map (·.2) = c.b /\ Below w.heap.size w w'
def CopyPostD (c : CdV) (w : World) (e : Ending) (w' : World) : Prop := ∃ v5 v6 v7 es, e = .returned (.agg #[(c.n 0), (c.n 1), (c.n 2), (c.n 3), (c.n 4), v5, v6, v7]) /\ RC w.heap.size v5 v6 v7 c.q c.l es w' /\ es.map (·.2) = c.b /\ Below w.heap.size w w' /\ DisI es
set_option maxRecDepth 100000 in
set_option maxHeartbeats 8000000 in
theorem Copy_cd (c : CdV) (a : CdA) (w : World) (h : CdM c a w) (hf : c.Fits) : Calls Tryz.prog 38 #[cdval c a] w (CopyPostD c w) := by
 obtain ⟨iA, hA, hA0, hA1, hA2⟩ := info_parts infoArr
 obtain ⟨iL, hL, hL0, hL1, hL2⟩ := info_parts infoLoop
 obtain ⟨iB, hB, hB0, hB1, hB2⟩ := info_parts infoBlk
 obtain ⟨iI, hI, hI0, hI1, hI2⟩ := info_parts infoInst
 have HH := lh h
 obtain ⟨f1, f2, f3⟩ := hf
 clear h
 unfold cdval
 go_enter Tryz.func38, Tryz.ntmps38
 have HC0 := lh (cpt_start w #[(c.n 0), (c.n 1), (c.n 2), (c.n 3), (c.n 4), .slice a.a1 c.q.length a.c1, .slice a.a2 c.l.length a.c2, .slice a.a3 c.b.length a.c3])
 go_wp2_with (first
  | (at_builtin; refine wpList_append_src rfl _ _ 32 rfl w.heap.size 91 iA _ 4 40 Tryz.underlying32 hA hA0 hA1 hA2 rfl (by decide) _ 0 [] rfl (lit_own 91 4 (w.heap.size + 1 + 1) (by simp) HC0.out.size) a.a1 c.q.length a.c1 (flatA c.q) rfl (src_arr HH.out (HC0.out.alloc _).s.below) (by unfold maxLen; omega) (by omega) (HC0.out.alloc _).size ?_; intro v5 w5 hown5 hg5; have hc5 := HC0.out.arrs hown5 (lit_own 91 4 (w.heap.size + 1 + 1) (by simp) HC0.out.size) hg5; obtain ⟨A5, cp5, rfl, _⟩ := own_cells hc5.arr; have ck5 := hc5.c5; have cf5 := hc5.fr 5; have HC5 := lh (show CpT w #[(c.n 0), (c.n 1), (c.n 2), (c.n 3), (c.n 4), .slice A5 c.q.length cp5, .slice a.a2 c.l.length a.c2, .slice a.a3 c.b.length a.c3] (.slice A5 c.q.length cp5) (.slice none 0 0) c.q [] (w5.setCell ⟨w.heap.size, 5, none⟩ (.slice A5 c.q.length cp5)) from hc5.set 5 (.slice A5 c.q.length cp5)); have ckk5 := (fun o => (HC5.out.alloc o).c6); clear hc5 hown5 hg5)
  | (at_builtin; refine wpList_append_src rfl _ _ 33 rfl w.heap.size 85 iL _ 3 24 Tryz.underlying33 hL hL0 hL1 hL2 rfl (by decide) _ 0 [] rfl (lit_own 85 3 w5.heap.size (by simp [World.setCell]) HC5.out.size) a.a2 c.l.length a.c2 (flatL c.l) rfl (src_lo HH.out (HC5.out.alloc _).s.below) (by unfold maxLen; omega) (by omega) (HC5.out.alloc _).size ?_; intro v6 w6 hown6 hg6; have hc6 := HC5.out.los hown6 (lit_own 85 3 w5.heap.size (by simp [World.setCell]) HC5.out.size) hg6; obtain ⟨A6, cp6, rfl, _⟩ := own_cells hc6.lo; have ck6 := hc6.c6; have cf6 := hc6.fr 6; have HC6 := lh (show CpT w #[(c.n 0), (c.n 1), (c.n 2), (c.n 3), (c.n 4), .slice A5 c.q.length cp5, .slice A6 c.l.length cp6, .slice a.a3 c.b.length a.c3] (.slice A5 c.q.length cp5) (.slice A6 c.l.length cp6) c.q c.l (w6.setCell ⟨w.heap.size, 6, none⟩ (.slice A6 c.l.length cp6)) from hc6.set 6 (.slice A6 c.l.length cp6)); clear hc6 hown6 hg6))
 go_loopw [3, 4] (fun x i wr => ∃ (k : Nat) (es : List BlE), k <= c.b.length /\ i = .int .i64 k /\ Hid (es.length = k) /\ Hid (es.map (·.2) = c.b.take k) /\ Hid (CpT w #[(c.n 0), (c.n 1), (c.n 2), (c.n 3), (c.n 4), .slice A5 c.q.length cp5, .slice A6 c.l.length cp6, .slice a.a3 c.b.length a.c3] (.slice A5 c.q.length cp5) (.slice A6 c.l.length cp6) c.q c.l wr) /\ Hid (wr.ownsRow w.heap.size 55 14 x k (flatB es)) /\ Hid (∀ e, e ∈ es -> wr.ownsRow w.heap.size 61 15 e.1 e.2.1.length (flatI e.2.1)) /\ Hid (DisI es)) (fun _ i _ => c.b.length - (intOf i).toNat)
 case atStart => exact ⟨0, [], Nat.zero_le _, rfl, lh rfl, lh rfl, lh (HC6.out.alloc _), lh (lit_own 55 14 w6.heap.size (by simp [World.setCell]) HC6.out.size), lh (fun e he => absurd he (by simp)), lh List.Pairwise.nil⟩
 case round =>
  obtain ⟨k, es, hk, rfl, HL, HE, HC, HX, HI, HD⟩ := hrel
  clear ck5 cf5 ckk5 ck6 cf6
  have q7 := HC.out.c7
  by_cases hlt : k < c.b.length
  . obtain ⟨b3, off3, hA3, hb3, hcells⟩ := (HH.out.blocks.below HC.out.s.below) (by omega)
    obtain ⟨m0, m1, m2, m3, m4, m5, m6, m7, m8, m9, m10, m11, m12, m13⟩ := hcells k hlt
    clear hcells
    have HSR := lh (fun (W : World) (hb : Below wr.heap.size wr W) => src_in HH.out (HC.out.s.below.trans (hb.mono HC.out.size)) k hlt)
    have HM := lh (fun (W : World) (hb : Below wr.heap.size wr W) => HC.out.on hb)
    rw [hA3] at q7
    obtain ⟨n3, hn3⟩ : ∃ n3, c.b.length = n3 := ⟨_, rfl⟩
    rw [hn3] at q7 hlt hk
    obtain ⟨c3, hc3⟩ : ∃ c3, a.c3 = c3 := ⟨_, rfl⟩
    rw [hc3] at q7
    obtain ⟨A8, hA8⟩ : ∃ A8, a.ia k = A8 := ⟨_, rfl⟩
    obtain ⟨n8, hn8⟩ : ∃ n8, c.il k = n8 := ⟨_, rfl⟩
    obtain ⟨c8, hc8⟩ : ∃ c8, a.ic k = c8 := ⟨_, rfl⟩
    obtain ⟨tt, htt⟩ : ∃ tt, c.te k = tt := ⟨_, rfl⟩
    rw [hA8, hn8, hc8] at m0
    rw [hA8, hn8] at HSR
    rw [htt] at m1 m2 m3 m4 m5 m6 m7 m8 m9 m10 m11 m12 m13
    obtain ⟨Ax, cx, rfl, _⟩ := own_cells HX.out
    have HS : Hid (∀ w', CpT w #[(c.n 0), (c.n 1), (c.n 2), (c.n 3), (c.n 4), .slice A5 c.q.length cp5, .slice A6 c.l.length cp6, .slice a.a3 c.b.length a.c3] (.slice A5 c.q.length cp5) (.slice A6 c.l.length cp6) c.q c.l w' -> (w'.cell? ⟨w.heap.size, 7, none⟩ = some (.slice (some ⟨b3, off3, none⟩) n3 c3) /\ w'.cell? ⟨b3, off3 + k * 14, none⟩ = some (.slice A8 n8 c8) /\ w'.cell? ⟨b3, off3 + k * 14 + 1, none⟩ = some (.int .i64 tt.kind) /\ w'.cell? ⟨b3, off3 + k * 14 + 2, none⟩ = some (.int .i64 tt.sub) /\ w'.cell? ⟨b3, off3 + k * 14 + 3, none⟩ = some (.int .i64 tt.d.k) /\ w'.cell? ⟨b3, off3 + k * 14 + 4, none⟩ = some (.int .i64 tt.d.n) /\ w'.cell? ⟨b3, off3 + k * 14 + 5, none⟩ = some (.int .i32 tt.d.v) /\ w'.cell? ⟨b3, off3 + k * 14 + 6, none⟩ = some (.int .i64 tt.a.k) /\ w'.cell? ⟨b3, off3 + k * 14 + 7, none⟩ = some (.int .i64 tt.a.n) /\ w'.cell? ⟨b3, off3 + k * 14 + 8, none⟩ = some (.int .i32 tt.a.v) /\ w'.cell? ⟨b3, off3 + k * 14 + 9, none⟩ = some (.int .i64 tt.b.k) /\ w'.cell? ⟨b3, off3 + k * 14 + 10, none⟩ = some (.int .i64 tt.b.n) /\ w'.cell? ⟨b3, off3 + k * 14 + 11, none⟩ = some (.int .i32 tt.b.v) /\ w'.cell? ⟨b3, off3 + k * 14 + 12, none⟩ = some (.int .i64 tt.t0) /\ w'.cell? ⟨b3, off3 + k * 14 + 13, none⟩ = some (.int .i64 tt.t1) /\ CpT w #[(c.n 0), (c.n 1), (c.n 2), (c.n 3), (c.n 4), .slice A5 c.q.length cp5, .slice A6 c.l.length cp6, .slice a.a3 c.b.length a.c3] (.slice A5 c.q.length cp5) (.slice A6 c.l.length cp6) c.q c.l w')) := lh (fun w' hb => by
     have e : ∀ o, w'.cell? ⟨b3, o, none⟩ = wr.cell? ⟨b3, o, none⟩ := fun o => (hb.s.below.cell (p := ⟨b3, o, none⟩) hb3).trans (HC.out.s.below.cell (p := ⟨b3, o, none⟩) hb3).symm
     simp only [e]
     exact ⟨hb.c7.trans (by rw [hA3, hn3, hc3]), m0, m1, m2, m3, m4, m5, m6, m7, m8, m9, m10, m11, m12, m13, hb⟩)
    have HLT := lh (show k < c.b.length by omega)
    have HTT := lh htt
    have HN8 := lh hn8
    have hn8b : n8 <= 65536 := by rw [<- hn8]; exact HH.out.lens k HLT.out
    clear hn3 hc3 hA8 hn8 hc8 htt hA3
    go_wp2
    go_region_held3 (fun w' => w'.cell? ⟨w.heap.size, 7, none⟩ = some (.slice (some ⟨b3, off3, none⟩) n3 c3) /\ w'.cell? ⟨b3, off3 + k * 14, none⟩ = some (.slice A8 n8 c8) /\ w'.cell? ⟨b3, off3 + k * 14 + 1, none⟩ = some (.int .i64 tt.kind) /\ w'.cell? ⟨b3, off3 + k * 14 + 2, none⟩ = some (.int .i64 tt.sub) /\ w'.cell? ⟨b3, off3 + k * 14 + 3, none⟩ = some (.int .i64 tt.d.k) /\ w'.cell? ⟨b3, off3 + k * 14 + 4, none⟩ = some (.int .i64 tt.d.n) /\ w'.cell? ⟨b3, off3 + k * 14 + 5, none⟩ = some (.int .i32 tt.d.v) /\ w'.cell? ⟨b3, off3 + k * 14 + 6, none⟩ = some (.int .i64 tt.a.k) /\ w'.cell? ⟨b3, off3 + k * 14 + 7, none⟩ = some (.int .i64 tt.a.n) /\ w'.cell? ⟨b3, off3 + k * 14 + 8, none⟩ = some (.int .i32 tt.a.v) /\ w'.cell? ⟨b3, off3 + k * 14 + 9, none⟩ = some (.int .i64 tt.b.k) /\ w'.cell? ⟨b3, off3 + k * 14 + 10, none⟩ = some (.int .i64 tt.b.n) /\ w'.cell? ⟨b3, off3 + k * 14 + 11, none⟩ = some (.int .i32 tt.b.v) /\ w'.cell? ⟨b3, off3 + k * 14 + 12, none⟩ = some (.int .i64 tt.t0) /\ w'.cell? ⟨b3, off3 + k * 14 + 13, none⟩ = some (.int .i64 tt.t1) /\ CpT w #[(c.n 0), (c.n 1), (c.n 2), (c.n 3), (c.n 4), .slice A5 c.q.length cp5, .slice A6 c.l.length cp6, .slice a.a3 c.b.length a.c3] (.slice A5 c.q.length cp5) (.slice A6 c.l.length cp6) c.q c.l w') ((refine HS.out _ ?_; repeat' (first | assumption | exact s7_of (by assumption) | exact HC.out | with_reducible apply CpT.drew | with_reducible apply CpT.alloc))) (first
     | (refine step_append_src (by rfl) _ _ 50 (by rfl) wr.heap.size 61 iI _ 15 120 Tryz.underlying50 hI hI0 hI1 hI2 rfl (by decide) (.slice (some ⟨wr.heap.size, 0, none⟩) 0 0) 0 [] (by rfl) (lit_ownD 61 15 (Below.refl _ wr)) A8 n8 c8 (flatI (c.b[k]'HLT.out).1) (by rfl) (HSR.out _ (below_drewS (below_allocS (Below.refl _ wr)))) (by unfold maxLen; omega) (by omega) (below_drewS (below_allocS (Below.refl _ wr))).size ?_; intro v1 w1 hown1 hg1; have HB1 := lh (grow_below (below_drewS (below_allocS (Below.refl _ wr))) (lit_ownD 61 15 (Below.refl _ wr)) hg1 (Nat.le_refl _) (Nat.le_refl _)); rw [Nat.zero_add, List.nil_append] at hown1; obtain ⟨A1, c1, rfl, _⟩ := own_cells hown1; have HO1 := lh hown1; have hp1 := HM.out _ HB1.out; clear hown1 hg1)
     | (refine step_append_own (by rfl) _ _ 34 (by rfl) w.heap.size 55 iB _ 14 128 Tryz.underlying34 hB hB0 hB1 hB2 rfl (by decide) (.slice Ax k cx) k (flatB es) (by rfl) (row_kept HX.out (kept_below (below_allocS HB1.out) (fun _ => True)) trivial) ⟨w1.heap.size, 0, none⟩ 1 1 (blC (.slice A1 n8 c1, [], tt)) (by rfl) (by rfl) (row_new w1 #[.slice A1 n8 c1, tt.kind, tt.sub, tt.d.k, tt.d.n, .int .i32 tt.d.v, tt.a.k, tt.a.n, .int .i32 tt.a.v, tt.b.k, tt.b.n, .int .i32 tt.b.v, tt.t0, tt.t1] 55) (by simp [blC, TermV.cells, Value.oneCell']) (by unfold maxLen; omega) (by omega) (Nat.le_trans HC.out.size (below_allocS HB1.out).size) ?_; intro v2 w2 hown2 hg2 _; have HO2 := lh hown2; have HG2 := lh hg2; have hp2 := (hp1.alloc _).grown (row_kept HX.out (kept_below (below_allocS HB1.out) (fun _ => True)) trivial) hg2 (by decide) (Nat.le_refl _); obtain ⟨g2, cap2, rfl, _, _⟩ := hown2.form (by omega); clear hown2 hg2))
    all_goals
     go_wp2
     go_roundw
     case rel =>
      refine ⟨k + 1, es ++ [(.slice A1 n8 c1, (c.b[k]'HLT.out).1, tt)], by have := HLT.out; omega, by go_num, lh (by rw [List.length_append, HL.out]; rfl), lh ?_, lh hp2, lh ?_, lh ?_, lh ?_⟩
      . rw [List.map_append, HE.out, List.take_succ_eq_append_getElem HLT.out]
        congr 1
        have e2 : tt = (c.b[k]'HLT.out).2 := by rw [<- HTT.out]; unfold CdV.te; rw [getD_of _ _ _ HLT.out]
        rw [e2]
        rfl
      . rw [flatB_snoc]
        exact HO2.out
      . intro e he
        rcases List.mem_append.1 he with he | he
        . exact row_kept (row_kept (HI.out e he) (kept_below (below_allocS HB1.out) (fun _ => True)) trivial) (grow_kept (row_kept HX.out (kept_below (below_allocS HB1.out) (fun _ => True)) trivial) HG2.out) (by decide)
        . rw [List.mem_singleton] at he
          subst he
          have e1 : (c.b[k]'HLT.out).1.length = n8 := by rw [<- HN8.out]; unfold CdV.il; rw [getD_of _ _ _ HLT.out]
          show w2.ownsRow w.heap.size 61 15 (.slice A1 n8 c1) (c.b[k]'HLT.out).1.length (flatI (c.b[k]'HLT.out).1)
          rw [e1]
          exact row_kept (row_kept (HO1.out.mono HC.out.size) (kept_below ((Below.refl _ _).alloc (Nat.le_refl _) _) (fun _ => True)) trivial) (grow_kept (row_kept HX.out (kept_below (below_allocS HB1.out) (fun _ => True)) trivial) HG2.out) (by decide)
      . refine List.pairwise_append.2 ⟨HD.out, List.pairwise_singleton _ _, fun x hx y hy g hg he => ?_⟩
        rw [List.mem_singleton] at hy
        subst hy
        have h1 := (HI.out x hx).lt g hg
        have h2 := HO1.out.lt g he
        omega
     case measure => simp [intOf]; omega
  . obtain rfl : c.b.length = k := by omega
    obtain ⟨Ax, cx, rfl, _⟩ := own_cells HX.out
    have f7 := HC.out.fr 7
    have HC8 := lh (show CpT w #[(c.n 0), (c.n 1), (c.n 2), (c.n 3), (c.n 4), .slice A5 c.q.length cp5, .slice A6 c.l.length cp6, .slice Ax c.b.length cx] (.slice A5 c.q.length cp5) (.slice A6 c.l.length cp6) c.q c.l (wr.setCell ⟨w.heap.size, 7, none⟩ (.slice Ax c.b.length cx)) from HC.out.set 7 (.slice Ax c.b.length cx))
    have d0 := HC8.out.c0
    have d1 := HC8.out.c1
    have d2 := HC8.out.c2
    have d3 := HC8.out.c3
    have d4 := HC8.out.c4
    have d5 := HC8.out.c5
    have d6 := HC8.out.c6
    have d7 := HC8.out.c7
    have r0 : (wr.setCell ⟨w.heap.size, 7, none⟩ (.slice Ax c.b.length cx)).cell? ⟨w.heap.size + 1, 0, none⟩ = some (.int .i64 0) := HC8.out.s.rk 0
    have r1 : (wr.setCell ⟨w.heap.size, 7, none⟩ (.slice Ax c.b.length cx)).cell? ⟨w.heap.size + 1, 1, none⟩ = some (.int .i64 0) := HC8.out.s.rk 1
    have r2 : (wr.setCell ⟨w.heap.size, 7, none⟩ (.slice Ax c.b.length cx)).cell? ⟨w.heap.size + 1, 2, none⟩ = some (.int .i64 0) := HC8.out.s.rk 2
    have r3 : (wr.setCell ⟨w.heap.size, 7, none⟩ (.slice Ax c.b.length cx)).cell? ⟨w.heap.size + 1, 3, none⟩ = some (.int .i64 0) := HC8.out.s.rk 3
    have r4 : (wr.setCell ⟨w.heap.size, 7, none⟩ (.slice Ax c.b.length cx)).cell? ⟨w.heap.size + 1, 4, none⟩ = some (.int .i64 0) := HC8.out.s.rk 4
    have r5 : (wr.setCell ⟨w.heap.size, 7, none⟩ (.slice Ax c.b.length cx)).cell? ⟨w.heap.size + 1, 5, none⟩ = some (.slice none 0 0) := HC8.out.s.rk 5
    have r6 : (wr.setCell ⟨w.heap.size, 7, none⟩ (.slice Ax c.b.length cx)).cell? ⟨w.heap.size + 1, 6, none⟩ = some (.slice none 0 0) := HC8.out.s.rk 6
    have r7 : (wr.setCell ⟨w.heap.size, 7, none⟩ (.slice Ax c.b.length cx)).cell? ⟨w.heap.size + 1, 7, none⟩ = some (.slice none 0 0) := HC8.out.s.rk 7
    have rf := HC8.out.s.rf
    have HB8 := lh (grow_setK HC.out.s.box 7 (.slice Ax c.b.length cx))
    have HP := lh (show CopyPostD c w = fun e w' => ∃ v5 v6 v7 es, e = .returned (.agg #[(c.n 0), (c.n 1), (c.n 2), (c.n 3), (c.n 4), v5, v6, v7]) /\ RC w.heap.size v5 v6 v7 c.q c.l es w' /\ es.map (·.2) = c.b /\ Below w.heap.size w w' /\ DisI es from rfl)
    go_wp2
    refine bodyPost_ret (v := .agg #[(c.n 0), (c.n 1), (c.n 2), (c.n 3), (c.n 4), .slice A5 c.q.length cp5, .slice A6 c.l.length cp6, .slice Ax c.b.length cx]) (by simp [results, Tryz.results38, go_sem, r0, r1, r2, r3, r4, r5, r6, r7]) rfl ?_
    rw [HP.out]
    refine ⟨_, _, _, es, rfl, ?_, ?_, ?_, HD.out⟩
    . have hr : RC w.heap.size (.slice A5 c.q.length cp5) (.slice A6 c.l.length cp6) (.slice Ax c.b.length cx) c.q c.l es (wr.setCell ⟨w.heap.size, 7, none⟩ (.slice Ax c.b.length cx)) := ⟨HC8.out.arr, HC8.out.lo, by rw [HL.out]; exact row_kept HX.out HB8.out.1 (by decide), fun e he => row_kept (HI.out e he) HB8.out.1 (by decide)⟩
      exact hr.k36 (k36_store HC8.out.s.res _ _ _ _ _ _ _ _)
    . rw [HE.out, List.take_length]
    . exact (((((((HC8.out.s.below.setCell (by simp) _).setCell (by simp) _).setCell (by simp) _).setCell (by simp) _).setCell (by simp) _).setCell (by simp) _).setCell (by simp) _).setCell (by simp) _
theorem Copy_c (c : CdV) (a : CdA) (w : World) (h : CdM c a w) (hf : c.Fits) : Calls Tryz.prog 38 #[cdval c a] w (CopyPost c w) :=
 (Copy_cd c a w h hf).mono fun e w' ⟨v5, v6, v7, es, he, hr, hes, hb, _⟩ => ⟨v5, v6, v7, es, he, hr, hes, hb⟩
end Go.Proofs.YtkncilgmlkeifaaGreatDoor
