/-
  Append of a whole slice, nil or not; the rows of a code that the call made.
-/
import Derived.Test.YtkncilgmlkeifaaGreatDoorCdm
import Derived.Laws.AppendOwnNone
import Derived.Deep.RegionLaw
set_option linter.unusedVariables false
set_option linter.unusedSimpArgs false
namespace Go.Proofs.YtkncilgmlkeifaaGreatDoor
open Go.ChangeShapes Go.WideShapes Go.ChangeAt Go.RowKit Go.Shelf

/-- The slice value x reads as the cells news. -/
structure Src (W : World) (A : Option Addr) (m size : Nat) (news : List Value) : Prop where
  len : news.length = m * size
  one : ∀ u ∈ news, u.oneCell' = true
  cells : 0 < m → ∃ ad, A = some ad ∧ ∀ j u, news[j]? = some u → W.cell? (ad.add j) = some u
theorem run_append_src {P : Program} {w : World} (base : Nat) (t ty e : TypeId) (i : TypeInfo) (z : Value) (size bytes : Nat) (ht : P.underlying t = some (.slice e)) (hi : P.info? e = some i) (hz : i.zero = some z)
    (hsize : i.size = size) (hby : i.bytes = bytes) (hzs : z.cells.size = size) (hsz : 0 < size)
    (v : Value) (n : Nat) (xs : List Value) (hown : w.ownsRow base e size v n xs) (A : Option Addr) (m c : Nat) (news : List Value) (hx : Src w A m size news)
    (h63 : n + m ≤ maxLen) (hbytes : (n + m) * bytes ≤ 140737488355328) (hbase : base ≤ w.heap.size) :
    ∃ v' w', (Builtin.append_ #[t, t] ty #[v, .slice A m c]).run P w = .ok v' w' ∧ w'.ownsRow base e size v' (n + m) (xs ++ news) ∧ w.grownBy w' v.ownBlock := by
  cases A with
  | some ad =>
    obtain ⟨v', w', h1, h2, h3, _⟩ := run_append_own (P := P) (w := w) base t ty e i z size bytes ht hi hz hsize hby hzs hsz v n xs hown ad m c news hx.len (fun j u hj => by
      by_cases hm : 0 < m
      · obtain ⟨ad', e, hc⟩ := hx.cells hm
        cases e
        exact hc j u hj
      · have h0 : news.length = 0 := by rw [hx.len]; have : m = 0 := by omega
                                        rw [this, Nat.zero_mul]
        rw [List.eq_nil_of_length_eq_zero h0] at hj
        cases hj) hx.one h63 hbytes hbase
    exact ⟨v', w', h1, h2, h3⟩
  | none =>
    have hm : m = 0 := by
      rcases Nat.eq_zero_or_pos m with h | h
      · exact h
      · obtain ⟨ad, e, _⟩ := hx.cells h
        cases e
    subst hm
    have hn : news = [] := List.eq_nil_of_length_eq_zero (by rw [hx.len, Nat.zero_mul])
    subst hn
    refine ⟨v, w, ?_, by simpa using hown, ⟨rfl, rfl, rfl, Nat.le_refl _, fun _ _ _ => rfl⟩⟩
    rcases hown.2 with ⟨rfl, rfl⟩ | ⟨g, cap, cur, rfl, _, _, hnc, _⟩
    · simp [Builtin.append_, run_underlying ht, sizeOf, typeInfo, hi, Builtin.lenOf, Builtin.firstCells]
    · simp [Builtin.append_, run_underlying ht, sizeOf, typeInfo, hi, Builtin.lenOf, Builtin.firstCells, hnc, storeCells]
theorem wp_append_src {P : Program} {w : World} {o : Oper} {a : Act} {K : Act → World → Prop} {Q : Exit → Act → World → Prop} (s x : Operand) (t : TypeId)
    (ho : o.op = .call { callee := .builtin .append, args := #[s, x], argTypes := #[t, t] })
    (base : Nat) (e : TypeId) (i : TypeInfo) (z : Value) (size bytes : Nat) (ht : P.underlying t = some (.slice e)) (hi : P.info? e = some i) (hz : i.zero = some z)
    (hsize : i.size = size) (hby : i.bytes = bytes) (hzs : z.cells.size = size) (hsz : 0 < size)
    (v : Value) (n : Nat) (xs : List Value) (hs : a.eval s = v) (hown : w.ownsRow base e size v n xs)
    (A : Option Addr) (m c : Nat) (news : List Value) (hx : a.eval x = .slice A m c) (hsrc : Src w A m size news)
    (h63 : n + m ≤ maxLen) (hbytes : (n + m) * bytes ≤ 140737488355328) (hbase : base ≤ w.heap.size)
    (h : ∀ v' w', w'.ownsRow base e size v' (n + m) (xs ++ news) → w.grownBy w' v.ownBlock → K (a.put o.dst v') w') : o.wp P a w K Q := by
  obtain ⟨v', w', hr, h2, h3⟩ := run_append_src (P := P) (w := w) base t o.type e i z size bytes ht hi hz hsize hby hzs hsz v n xs hown A m c news hsrc h63 hbytes hbase
  unfold Oper.wp execOp
  simp only [ho, resolve, invoke, builtin, Sem.run_bind, Sem.run_pure, Result.andThen_ok, List.map_toArray, List.map_cons, List.map_nil, hs, hx, hr]
  exact h v' w' h2 h3
theorem wpList_append_src {P : Program} {w : World} {ops : Array Oper} {rest : List Oper} {o : Oper} {a : Act} {Q : Exit → Act → World → Prop} (hgd : o.guard = none) (s x : Operand) (t : TypeId)
    (ho : o.op = .call { callee := .builtin .append, args := #[s, x], argTypes := #[t, t] })
    (base : Nat) (e : TypeId) (i : TypeInfo) (z : Value) (size bytes : Nat) (ht : P.underlying t = some (.slice e)) (hi : P.info? e = some i) (hz : i.zero = some z)
    (hsize : i.size = size) (hby : i.bytes = bytes) (hzs : z.cells.size = size) (hsz : 0 < size)
    (v : Value) (n : Nat) (xs : List Value) (hs : a.eval s = v) (hown : w.ownsRow base e size v n xs)
    (A : Option Addr) (m c : Nat) (news : List Value) (hx : a.eval x = .slice A m c) (hsrc : Src w A m size news)
    (h63 : n + m ≤ maxLen) (hbytes : (n + m) * bytes ≤ 140737488355328) (hbase : base ≤ w.heap.size)
    (h : ∀ v' w', w'.ownsRow base e size v' (n + m) (xs ++ news) → w.grownBy w' v.ownBlock → wpList P ops Q rest (a.put o.dst v') w') : wpList P ops Q (o :: rest) a w :=
  wpList_plain hgd fun _ hK => wp_append_src s x t ho base e i z size bytes ht hi hz hsize hby hzs hsz v n xs hs hown A m c news hx hsrc h63 hbytes hbase fun v' w' h2 h3 => hK _ _ (h v' w' h2 h3)
theorem step_append_src {P : Program} {ops : Array Oper} {o : Oper} {a : Act} {w : World} {K : Act → World → Prop} {Q : Exit → Act → World → Prop} {E : Prop} (hgd : o.guard = none) (s x : Operand) (t : TypeId)
    (ho : o.op = .call { callee := .builtin .append, args := #[s, x], argTypes := #[t, t] })
    (base : Nat) (e : TypeId) (i : TypeInfo) (z : Value) (size bytes : Nat) (ht : P.underlying t = some (.slice e)) (hi : P.info? e = some i) (hz : i.zero = some z)
    (hsize : i.size = size) (hby : i.bytes = bytes) (hzs : z.cells.size = size) (hsz : 0 < size)
    (v : Value) (n : Nat) (xs : List Value) (hs : a.eval s = v) (hown : w.ownsRow base e size v n xs)
    (A : Option Addr) (m c : Nat) (news : List Value) (hx : a.eval x = .slice A m c) (hsrc : Src w A m size news)
    (h63 : n + m ≤ maxLen) (hbytes : (n + m) * bytes ≤ 140737488355328) (hbase : base ≤ w.heap.size)
    (h : ∀ v' w', w'.ownsRow base e size v' (n + m) (xs ++ news) → w.grownBy w' v.ownBlock → K (a.put o.dst v') w') :
    if Region.wanted o (yielded ops a.tmps) = true then Oper.wp P o a w K Q else E := by
  have hw : Region.wanted o (yielded ops a.tmps) = true := by simp [Region.wanted, hgd]
  rw [if_pos hw]
  exact wp_append_src s x t ho base e i z size bytes ht hi hz hsize hby hzs hsz v n xs hs hown A m c news hx hsrc h63 hbytes hbase h
/-- The rows of a code that lie in blocks from n0 on. -/
structure RC (n0 : Nat) (v5 v6 v7 : Value) (qs : List ArV) (ls : List LoV) (es : List BlE) (W : World) : Prop where
  arr : W.ownsRow n0 91 4 v5 qs.length (flatA qs)
  loops : W.ownsRow n0 85 3 v6 ls.length (flatL ls)
  blocks : W.ownsRow n0 55 14 v7 es.length (flatB es)
  insts : ∀ e, e ∈ es → W.ownsRow n0 61 15 e.1 e.2.1.length (flatI e.2.1)
section
variable {n0 : Nat} {v5 v6 v7 : Value} {qs : List ArV} {ls : List LoV} {es : List BlE} {W W' : World}
theorem RC.k36 (h : RC n0 v5 v6 v7 qs ls es W) (hk : K36 W W') : RC n0 v5 v6 v7 qs ls es W' :=
  ⟨row_kept h.arr hk.1 (by decide), row_kept h.loops hk.1 (by decide), row_kept h.blocks hk.1 (by decide), fun e he => row_kept (h.insts e he) hk.1 (by decide)⟩
theorem RC.cdk (h : RC n0 v5 v6 v7 qs ls es W) (n : Nat → Int) (hq : ∀ a, a ∈ qs → a.1.size ≤ 9223372036854775807) (hi : ∀ e, e ∈ es → e.2.1.length ≤ 65536) :
    ∃ a : CdA, v5 = .slice a.a1 qs.length a.c1 ∧ v6 = .slice a.a2 ls.length a.c2 ∧ v7 = .slice a.a3 es.length a.c3 ∧ CdK ⟨qs, ls, es.map (·.2), n⟩ a W := by
  obtain ⟨A1, c1, e1, _⟩ := rar_of h.arr
  obtain ⟨A2, c2, e2, _⟩ := rlo_of h.loops
  have hs : ∀ {V : World}, RC n0 v5 v6 v7 qs ls es V → ∀ e, e ∈ es → ∃ A c, e.1 = .slice A e.2.1.length c := fun {V} hV e he => by
    obtain ⟨A, c, hv, _⟩ := rin_of (hV.insts e he)
    exact ⟨A, c, hv⟩
  obtain ⟨A3, c3, e3, _⟩ := rbl_of h.blocks (hs h)
  refine ⟨⟨A1, c1, A2, c2, A3, c3, fun j => adr (es.getD j noE).1, fun j => cpc (es.getD j noE).1⟩, e1, e2, e3, fun V hV => ?_⟩
  have k := h.k36 hV
  obtain ⟨B1, d1, f1, r1⟩ := rar_of k.arr
  obtain ⟨B2, d2, f2, r2⟩ := rlo_of k.loops
  obtain ⟨B3, d3, f3, r3⟩ := rbl_of k.blocks (hs k)
  rw [e1] at f1
  rw [e2] at f2
  rw [e3] at f3
  injection f1 with x1 _ y1
  injection f2 with x2 _ y2
  injection f3 with x3 _ y3
  subst x1 y1 x2 y2 x3 y3
  have hx : ∀ j, (es.getD j noE).2 = (es.map (·.2)).getD j noB := fun j => (getD_map_snd es j).symm
  have hl : (es.map (·.2)).length = es.length := List.length_map ..
  refine ⟨r1, r2, ?_, fun j hj => ?_, fun j hj => ?_, fun j => ?_⟩
  · show RBl V V.heap.size A3 (es.map (·.2)).length _ (fun j => ((es.map (·.2)).getD j noB).1.length) _ (fun j => ((es.map (·.2)).getD j noB).2)
    rw [hl]
    simp only [← hx]
    exact r3
  · have hj' : j < es.length := by rw [← hl]; exact hj
    obtain ⟨A, c, hv, hr⟩ := rin_of (k.insts _ (List.getElem_mem hj'))
    show RIn V V.heap.size (adr (es.getD j noE).1) ((es.map (·.2)).getD j noB).1.length (fun i => ((es.map (·.2)).getD j noB).1.getD i noI)
    rw [← hx, getD_of _ _ _ hj', hv]
    exact hr
  · have hj' : j < es.length := by rw [← hl]; exact hj
    show ((es.map (·.2)).getD j noB).1.length ≤ 65536
    rw [← hx, getD_of _ _ _ hj']
    exact hi _ (List.getElem_mem hj')
  · show (qs.getD j noA).1.size ≤ _
    by_cases hj : j < qs.length
    · rw [getD_of _ _ _ hj]
      exact hq _ (List.getElem_mem hj)
    · rw [List.getD_eq_getElem?_getD, List.getElem?_eq_none (by omega)]
      decide
end
end Go.Proofs.YtkncilgmlkeifaaGreatDoor
