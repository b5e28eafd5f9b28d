import Derived.Test.YtkncilgmlkeifaaGreatDoorSlb
import Derived.Deep.MidRow
import Derived.Deep.RegionHeld3
import Derived.Deep.CutRange
/-
  A code in its box and its rows: one instruction is replaced.
-/
set_option linter.unusedVariables false
set_option linter.unusedSimpArgs false
namespace Go.Proofs.YtkncilgmlkeifaaGreatDoor
open Go.ChangeShapes Go.WideShapes Go.ChangeAt Go.RowKit Go.Shelf

/-- These values stored one behind the other, from cell o of block g on. -/
def setN (g : Nat) : Nat → List Value → World → World
  | _, [], W => W
  | o, v :: vs, W => setN g (o + 1) vs (W.setCell ⟨g, o, none⟩ v)
def setL : Nat → List Value → List Value → List Value
  | _, [], xs => xs
  | o, v :: vs, xs => setL (o + 1) vs (xs.set o v)
theorem setN_row {base e size n cap g : Nat} : ∀ (vs : List Value) (o : Nat) (W : World) (xs : List Value), W.ownsRow base e size (.slice (some ⟨g, 0, none⟩) n cap) n xs →
    (setN g o vs W).ownsRow base e size (.slice (some ⟨g, 0, none⟩) n cap) n (setL o vs xs) ∧ W.grownBy (setN g o vs W) (some g)
  | [], _, _, _, h => ⟨h, rfl, rfl, rfl, Nat.le_refl _, fun _ _ _ => rfl⟩
  | v :: vs, o, W, xs, h => by
    have s := h.stored o v
    obtain ⟨r1, r2⟩ := setN_row vs (o + 1) _ _ s.1
    exact ⟨r1, r2.os.trans s.2.os, r2.tape.trans s.2.tape, r2.output.trans s.2.output, Nat.le_trans s.2.size r2.size, fun k hk hne => (r2.block k (Nat.lt_of_lt_of_le hk s.2.size) hne).trans (s.2.block k hk hne)⟩
theorem setL_mid : ∀ (vs A B C : List Value), B.length = vs.length → setL A.length vs (A ++ (B ++ C)) = A ++ (vs ++ C)
  | [], A, B, C, h => by
    obtain rfl : B = [] := List.eq_nil_of_length_eq_zero h
    rfl
  | v :: vs, A, [], C, h => by cases h
  | v :: vs, A, x :: B, C, h => by
    have e : (A ++ (x :: B ++ C)).set A.length v = (A ++ [v]) ++ (B ++ C) := by
      rw [List.set_append_right _ _ (Nat.le_refl _), Nat.sub_self]
      simp
    have e2 : A.length + 1 = (A ++ [v]).length := by simp
    show setL (A.length + 1) vs ((A ++ (x :: B ++ C)).set A.length v) = _
    rw [e, e2, setL_mid vs (A ++ [v]) B C (by simpa using h)]
    simp
theorem flatI_append (x y : List InstV) : flatI (x ++ y) = flatI x ++ flatI y := by
  unfold flatI
  rw [List.flatMap_append]
theorem flatI_len (l : List InstV) : (flatI l).length = l.length * 15 := by
  induction l with
  | nil => rfl
  | cons x l ih =>
    show (x.cells ++ flatI l).length = _
    rw [List.length_append, ih, List.length_cons, Nat.succ_mul, Nat.add_comm]
    rfl
theorem flatI_setK (is : List InstV) (k : Nat) (hk : k < is.length) (i : InstV) : setL (k * 15) i.cells (flatI is) = flatI (is.set k i) := by
  have e1 : is = is.take k ++ is[k] :: is.drop (k + 1) := by rw [← List.drop_eq_getElem_cons hk, List.take_append_drop]
  have e2 : is.set k i = is.take k ++ i :: is.drop (k + 1) := List.set_eq_take_append_cons_drop ▸ by rw [if_pos hk]
  have e3 : (flatI (is.take k)).length = k * 15 := by
    rw [flatI_len, List.length_take, Nat.min_eq_left (Nat.le_of_lt hk)]
  rw [e2]
  conv => lhs; rw [e1]
  rw [flatI_append, flatI_append, ← e3]
  exact setL_mid _ _ _ _ rfl
theorem flatB_same (es1 es2 : List BlE) (e : BlE) (is : List InstV) : flatB (es1 ++ (e.1, is, e.2.2) :: es2) = flatB (es1 ++ e :: es2) := by
  rw [flatB_app, flatB_app]
  rfl
theorem LX.setK {w W : World} {b n0 gI cI k : Nat} {g s r sl p : Int} {v5 v6 v7 : Value} {qs : List ArV} {ls : List LoV} {es1 es2 : List BlE} {e : BlE} (i : InstV) (h : LX w b n0 g s r sl p v5 v6 v7 qs ls (es1 ++ e :: es2) W) (hd : DisI (es1 ++ e :: es2))
    (he : e.1 = .slice (some ⟨gI, 0, none⟩) e.2.1.length cI) (hk : k < e.2.1.length) :
    LX w b n0 g s r sl p v5 v6 v7 qs ls (es1 ++ (e.1, e.2.1.set k i, e.2.2) :: es2) (setN gI (k * 15) i.cells W) := by
  have hr := h.rows.insts e (List.mem_append.2 (.inr (List.mem_cons_self ..)))
  rw [he] at hr
  obtain ⟨h1, hg⟩ := setN_row i.cells (k * 15) W _ hr
  rw [flatI_setK _ _ hk] at h1
  have ks := grow_kept hr hg
  obtain ⟨_, p2, p3⟩ := List.pairwise_append.1 hd
  have p4 := (List.pairwise_cons.1 p2).1
  have hb : e.1.ownBlock = some gI := by rw [he]; rfl
  refine ⟨(ks _ _ _ _ h.box (by decide)).trans h.box, ⟨row_kept h.rows.arr ks (by decide), row_kept h.rows.loops ks (by decide), ?_, fun x hx => ?_⟩, grow_below h.below hr hg h.hn.1 (Nat.le_refl _), h.hn.1, h.hn.2.1, Nat.le_trans h.hn.2.2 hg.size⟩
  · have hl : (es1 ++ (e.1, e.2.1.set k i, e.2.2) :: es2).length = (es1 ++ e :: es2).length := by simp
    rw [hl, flatB_same]
    exact row_kept h.rows.blocks ks (by decide)
  · rcases List.mem_append.1 hx with hx | hx
    · exact (h.rows.insts x (List.mem_append.2 (.inl hx))).kept hg (.inr fun hh => p3 x hx e (List.mem_cons_self ..) gI hh hb)
    · rcases List.mem_cons.1 hx with rfl | hx
      · show (setN gI (k * 15) i.cells W).ownsRow n0 61 15 e.1 (e.2.1.set k i).length (flatI (e.2.1.set k i))
        rw [he, List.length_set]
        exact h1
      · exact (h.rows.insts x (List.mem_append.2 (.inr (List.mem_cons_of_mem _ hx)))).kept hg (.inr (p4 x hx gI hb))
end Go.Proofs.YtkncilgmlkeifaaGreatDoor

/-
  CodeForms: an instruction with a wrong operand is not right (plain facts).
-/
set_option linter.unusedVariables false
set_option linter.unusedSimpArgs false
namespace Go.Proofs.YtkncilgmlkeifaaGreatDoor
open Go.ChangeShapes Go.WideShapes Go.ChangeAt Go.RowKit Go.Shelf

/-- The operands that the law puts in the place of an operand. -/
def wrO (r : Int) (o : OpdV) : List OpdV := [if o.k = 0 then ⟨1, 0, 0⟩ else ⟨0, 0, 0⟩, ⟨2, r, 0⟩, ⟨2, -1, 0⟩, ⟨3, 0, 0⟩, ⟨1, 1, 0⟩]
theorem wrO_mem {r : Int} {o x : OpdV} (hx : x ∈ wrO r o) : (o.k = 0 → x.k ≠ 0) ∧ (o.k ≠ 0 → regB r x = false ∧ valB r x = false) := by
  have h2 : ∀ y : Int, (y = r ∨ y = -1) → regB r ⟨2, y, 0⟩ = false := fun y hy => by
    unfold regB wthB
    rcases hy with rfl | rfl
    · have : ¬ (y ≤ y - 1) := by omega
      simp [this]
    · simp
  have v2 : ∀ y : Int, (y = r ∨ y = -1) → valB r ⟨2, y, 0⟩ = false := fun y hy => by
    unfold valB
    rw [h2 y hy]
    simp
  simp only [wrO, List.mem_cons, List.not_mem_nil, or_false] at hx
  rcases hx with rfl | rfl | rfl | rfl | rfl
  · by_cases h : o.k = 0
    · rw [if_pos h]
      exact ⟨fun _ => by decide, fun h' => absurd h h'⟩
    · rw [if_neg h]
      exact ⟨fun h' => absurd h' h, fun _ => ⟨by simp [regB], by simp [valB, regB]⟩⟩
  · exact ⟨fun _ => (by show (2 : Int) ≠ 0; decide), fun _ => ⟨h2 _ (.inl rfl), v2 _ (.inl rfl)⟩⟩
  · exact ⟨fun _ => (by show (2 : Int) ≠ 0; decide), fun _ => ⟨h2 _ (.inr rfl), v2 _ (.inr rfl)⟩⟩
  · exact ⟨fun _ => by decide, fun _ => ⟨by simp [regB], by simp [valB, regB]⟩⟩
  · exact ⟨fun _ => by decide, fun _ => ⟨by simp [regB], by simp [valB, regB]⟩⟩
theorem reg_kn {r : Int} {o : OpdV} (h : regB r o = true) : o.k ≠ 0 := by
  unfold regB at h
  simp only [Bool.and_eq_true, decide_eq_true_eq] at h
  omega
theorem val_k' {r : Int} {o : OpdV} (h : valB r o = true) : o.k ≠ 0 := by
  unfold valB at h
  simp only [Bool.or_eq_true, Bool.and_eq_true, decide_eq_true_eq] at h
  rcases h with h | h
  · omega
  · exact reg_kn h
section
variable {p sl r : Int} {n1 n3 : Nat} {sp : Nat → Int} {i : InstV} {x : OpdV}
theorem wrong_d (h : instB p sl r n1 n3 sp i = true) (hx : x ∈ wrO r i.d) : instB p sl r n1 n3 sp { i with d := x } = false := by
  have hw := wrO_mem hx
  rw [Bool.eq_false_iff]
  intro hh
  unfold instB at h hh
  simp only [Bool.and_eq_true] at h hh
  obtain ⟨_, h⟩ := h
  obtain ⟨_, hh⟩ := hh
  unfold hasV at h hh
  simp only [Bool.and_eq_true] at h hh
  cases hf : (instF i.op).d with
  | true =>
    have e1 := h.2.2.1.1
    have e2 := hh.2.2.1.1
    simp only [hf, Bool.not_true, Bool.false_or, InstV.parts] at e1 e2
    rw [(hw.2 (reg_kn e1)).1] at e2
    cases e2
  | false =>
    have e1 := h.1
    have e2 := hh.1
    unfold zeroP at e1 e2
    simp only [Bool.and_eq_true, beq_iff_eq] at e1 e2
    have k1 := e1.2.2.1
    have k2 := e2.2.2.1
    simp [othV, FormV.want, hf, InstV.parts] at k1 k2
    exact hw.1 k1 k2
theorem wrong_a (h : instB p sl r n1 n3 sp i = true) (hx : x ∈ wrO r i.a) : instB p sl r n1 n3 sp { i with a := x } = false := by
  have hw := wrO_mem hx
  rw [Bool.eq_false_iff]
  intro hh
  unfold instB at h hh
  simp only [Bool.and_eq_true] at h hh
  obtain ⟨_, h⟩ := h
  obtain ⟨_, hh⟩ := hh
  unfold hasV at h hh
  simp only [Bool.and_eq_true] at h hh
  cases hf : (instF i.op).a with
  | true =>
    have e1 := h.2.2.1.2.1
    have e2 := hh.2.2.1.2.1
    simp only [hf, Bool.not_true, Bool.false_or, InstV.parts] at e1 e2
    rw [(hw.2 (val_k' e1)).2] at e2
    cases e2
  | false =>
    have e1 := h.1
    have e2 := hh.1
    unfold zeroP at e1 e2
    simp only [Bool.and_eq_true, beq_iff_eq] at e1 e2
    have k1 := e1.2.2.2.2.2.1
    have k2 := e2.2.2.2.2.2.1
    simp [othV, FormV.want, hf, InstV.parts] at k1 k2
    exact hw.1 k1 k2
theorem wrong_b (h : instB p sl r n1 n3 sp i = true) (hx : x ∈ wrO r i.b) : instB p sl r n1 n3 sp { i with b := x } = false := by
  have hw := wrO_mem hx
  rw [Bool.eq_false_iff]
  intro hh
  unfold instB at h hh
  simp only [Bool.and_eq_true] at h hh
  obtain ⟨_, h⟩ := h
  obtain ⟨_, hh⟩ := hh
  unfold hasV at h hh
  simp only [Bool.and_eq_true] at h hh
  cases hf : (instF i.op).b with
  | true =>
    have e1 := h.2.2.1.2.2.1
    have e2 := hh.2.2.1.2.2.1
    simp only [hf, Bool.not_true, Bool.false_or, InstV.parts] at e1 e2
    rw [(hw.2 (val_k' e1)).2] at e2
    cases e2
  | false =>
    have e1 := h.1
    have e2 := hh.1
    unfold zeroP at e1 e2
    simp only [Bool.and_eq_true, beq_iff_eq] at e1 e2
    have k1 := e1.2.2.2.2.2.2.2.2.1
    have k2 := e2.2.2.2.2.2.2.2.2.1
    simp [othV, FormV.want, hf, InstV.parts] at k1 k2
    exact hw.1 k1 k2
theorem wrong_c (h : instB p sl r n1 n3 sp i = true) (hx : x ∈ wrO r i.c) : instB p sl r n1 n3 sp { i with c := x } = false := by
  have hw := wrO_mem hx
  rw [Bool.eq_false_iff]
  intro hh
  unfold instB at h hh
  simp only [Bool.and_eq_true] at h hh
  obtain ⟨_, h⟩ := h
  obtain ⟨_, hh⟩ := hh
  unfold hasV at h hh
  simp only [Bool.and_eq_true] at h hh
  cases hf : (instF i.op).c with
  | true =>
    have e1 := h.2.2.1.2.2.2
    have e2 := hh.2.2.1.2.2.2
    simp only [hf, Bool.not_true, Bool.false_or, InstV.parts] at e1 e2
    rw [(hw.2 (val_k' e1)).2] at e2
    cases e2
  | false =>
    have e1 := h.1
    have e2 := hh.1
    unfold zeroP at e1 e2
    simp only [Bool.and_eq_true, beq_iff_eq] at e1 e2
    have k1 := e1.2.2.2.2.2.2.2.2.2.2.2.1
    have k2 := e2.2.2.2.2.2.2.2.2.2.2.2.1
    simp [othV, FormV.want, hf, InstV.parts] at k1 k2
    exact hw.1 k1 k2
end
/-- The code with another instruction at one place. -/
def setC (c : CdV) (b k : Nat) (i : InstV) : CdV := ⟨c.q, c.l, c.b.set b ((c.b.getD b noB).1.set k i, (c.b.getD b noB).2), c.n⟩
/-- The operand in place n, and the instruction with another one there. -/
def opN (i : InstV) (n : Nat) : OpdV := if n = 0 then i.d else if n = 1 then i.a else if n = 2 then i.b else i.c
def frI (i : InstV) (n : Nat) (x : OpdV) : InstV := if n = 0 then { i with d := x } else if n = 1 then { i with a := x } else if n = 2 then { i with b := x } else { i with c := x }
theorem wrong_n {p sl r : Int} {n1 n3 : Nat} {sp : Nat → Int} {i : InstV} {x : OpdV} {n : Nat} (h : instB p sl r n1 n3 sp i = true) (hx : x ∈ wrO r (opN i n)) : instB p sl r n1 n3 sp (frI i n x) = false := by
  unfold opN at hx
  unfold frI
  by_cases h0 : n = 0
  · rw [if_pos h0] at hx ⊢
    exact wrong_d h hx
  rw [if_neg h0] at hx ⊢
  by_cases h1 : n = 1
  · rw [if_pos h1] at hx ⊢
    exact wrong_a h hx
  rw [if_neg h1] at hx ⊢
  by_cases h2 : n = 2
  · rw [if_pos h2] at hx ⊢
    exact wrong_b h hx
  rw [if_neg h2] at hx ⊢
  exact wrong_c h hx
/-- What the law's walk asks of the code. -/
structure FrF (C : CdV) : Prop where
  chk : chkC C = 0
  fits : C.Fits
  q : ∀ a, a ∈ C.q → a.1.size ≤ 9223372036854775807
  nb : 1 ≤ C.b.length ∧ C.b.length ≤ 18
  il : ∀ e, e ∈ C.b → e.1.length ≤ 27
  fr : ∀ b k n x, b < C.b.length → k < C.il b → x ∈ wrO (C.n 2) (opN (C.is b k) n) → chkC (setC C b k (frI (C.is b k) n x)) = 50
end Go.Proofs.YtkncilgmlkeifaaGreatDoor

/-
  CodeForms: the law's walk.
-/
set_option linter.unusedVariables false
set_option linter.unusedSimpArgs false
namespace Go.Proofs.YtkncilgmlkeifaaGreatDoor
open Go.ChangeShapes Go.WideShapes Go.ChangeAt Go.RowKit Go.Shelf

/-- The boxes of the law's arguments. -/
def FB (b : Nat) (A : Option Addr) (nx cx : Nat) (n0 n1 : Int) (W : World) : Prop := W.heap[b]? = some (.cells #[.slice A nx cx] 24 (0, 0)) ∧ W.heap[b + 1]? = some (.cells #[.int .u8 n0, .int .u8 n1] 25 (0, 0))
section
variable {b : Nat} {A : Option Addr} {nx cx : Nat} {n0 n1 : Int} {W W' : World}
theorem FB.on (h : FB b A nx cx n0 n1 W) (hb : Below W.heap.size W W') : FB b A nx cx n0 n1 W' :=
  ⟨(hb.block b (Array.getElem?_eq_some_iff.1 h.1).1).trans h.1, (hb.block (b + 1) (Array.getElem?_eq_some_iff.1 h.2).1).trans h.2⟩
theorem FB.cells (h : FB b A nx cx n0 n1 W) : W.cell? ⟨b, 0, none⟩ = some (.slice A nx cx) ∧ W.cell? ⟨b + 1, 0, none⟩ = some (.int .u8 n0) ∧ W.cell? ⟨b + 1, 1, none⟩ = some (.int .u8 n1) :=
  ⟨cell_blk h.1 (i := 0) rfl, cell_blk h.2 (i := 0) rfl, cell_blk h.2 (i := 1) rfl⟩
end
theorem set_mid (es1 es2 : List BlE) (e x : BlE) : (es1 ++ x :: es2).map (·.2) = ((es1 ++ e :: es2).map (·.2)).set es1.length x.2 := by
  simp [List.set_append_right]
theorem split_at (es : List BlE) {b : Nat} (hb : b < es.length) : ∃ es1 e es2, es = es1 ++ e :: es2 ∧ es1.length = b :=
  ⟨es.take b, es[b], es.drop (b + 1), by rw [← List.drop_eq_getElem_cons hb, List.take_append_drop], by rw [List.length_take]; omega⟩
/-- Copy, where block b has instructions. -/
theorem copy_frm {C : CdV} {a : CdA} {V : World} {nb b ni : Nat} (hk : CdK C a V) (hf : C.Fits) (hn : C.b.length = nb) (hb : b < nb) (hi : C.il b = ni) (h0 : 0 < ni) :
    Calls Tryz.prog 38 #[.agg #[.int .i64 (C.n 0), .int .i64 (C.n 1), .int .i64 (C.n 2), .int .i64 (C.n 3), .int .i64 (C.n 4), .slice a.a1 C.q.length a.c1, .slice a.a2 C.l.length a.c2, .slice a.a3 nb a.c3]] V fun e w' => ∃ A5 p5 A6 p6 g7 p7 es1 e0 es2 gI cI, e = .returned (.agg #[.int .i64 (C.n 0), .int .i64 (C.n 1), .int .i64 (C.n 2), .int .i64 (C.n 3), .int .i64 (C.n 4), .slice A5 C.q.length p5, .slice A6 C.l.length p6, .slice (some ⟨g7, 0, none⟩) nb p7]) ∧
      (RC V.heap.size (.slice A5 C.q.length p5) (.slice A6 C.l.length p6) (.slice (some ⟨g7, 0, none⟩) nb p7) C.q C.l (es1 ++ e0 :: es2) w' ∧ DisI (es1 ++ e0 :: es2) ∧ (es1 ++ e0 :: es2).map (·.2) = C.b ∧ es1.length = b ∧ e0.1 = .slice (some ⟨gI, 0, none⟩) ni cI ∧ e0.2.1.length = ni ∧ (es1 ++ e0 :: es2).length = nb) ∧ Below V.heap.size V w' := by
  have H := Copy_cd C a V hk.mem hf
  unfold cdval at H
  rw [hn] at H
  refine H.mono ?_
  rintro e w' ⟨v5, v6, v7, es, rfl, hr, hes, hbw, hd⟩
  have hel : es.length = nb := by rw [← hn, ← hes, List.length_map]
  obtain ⟨A5, p5, rfl, _⟩ := own_cells hr.arr
  obtain ⟨A6, p6, rfl, _⟩ := own_cells hr.loops
  obtain ⟨g7, p7, rfl, _, _⟩ := hr.blocks.form (by omega)
  obtain ⟨es1, e0, es2, rfl, hl⟩ := split_at es (b := b) (by omega)
  have h2 : e0.2.1.length = ni := by
    rw [← hi]
    unfold CdV.il
    rw [← hes, ← hl, List.getD_eq_getElem?_getD]
    simp
  obtain ⟨gI, cI, h1, _, _⟩ := (hr.insts e0 (List.mem_append.2 (.inr List.mem_cons_self))).form (by omega)
  rw [h2] at h1
  rw [hel] at hr ⊢
  exact ⟨A5, p5, A6, p6, g7, p7, es1, e0, es2, gI, cI, rfl, ⟨hr, hd, hes, hl, h1, h2, hel⟩, hbw⟩
/-- The checker of the copy with another instruction. -/
theorem frm_call {C : CdV} {Wc W : World} {b9 n9 l5 p5 l6 p6 l7 p7 b k : Nat} {A5 A6 A7 : Option Addr} {es1 es2 : List BlE} {e0 : BlE} {i : InstV} (hl : LX Wc b9 n9 (C.n 0) (C.n 1) (C.n 2) (C.n 3) (C.n 4) (.slice A5 l5 p5) (.slice A6 l6 p6) (.slice A7 l7 p7) C.q C.l (es1 ++ (e0.1, e0.2.1.set k i, e0.2.2) :: es2) W)
    (hes : (es1 ++ e0 :: es2).map (·.2) = C.b) (hb : es1.length = b) (hF : FrF C) (hz : chkC (setC C b k i) = 50) (V : World) (hV : Below W.heap.size W V) :
    Calls Tryz.prog 17 #[.agg #[.int .i64 (C.n 0), .int .i64 (C.n 1), .int .i64 (C.n 2), .int .i64 (C.n 3), .int .i64 (C.n 4), .slice A5 l5 p5, .slice A6 l6 p6, .slice A7 l7 p7]] V fun e w' => e = .returned (.int .i64 50) ∧ Below V.heap.size V w' := by
  have hm : (es1 ++ (e0.1, e0.2.1.set k i, e0.2.2) :: es2).map (·.2) = (setC C b k i).b := by
    rw [set_mid es1 es2 e0, hes, hb]
    show C.b.set b (e0.2.1.set k i, e0.2.2) = C.b.set b ((C.b.getD b noB).1.set k i, (C.b.getD b noB).2)
    have : C.b.getD b noB = e0.2 := by
      rw [← hes, ← hb, List.getD_eq_getElem?_getD]
      simp
    rw [this]
  have hlen : (es1 ++ (e0.1, e0.2.1.set k i, e0.2.2) :: es2).length = C.b.length := by
    rw [← hes]
    simp
  obtain ⟨ad, e5, e6, e7, hk⟩ := hl.rows.cdk C.n hF.q (fun e he => by
    rcases List.mem_append.1 he with he | he
    · have h : e.2 ∈ C.b := by rw [← hes]; exact List.mem_map.2 ⟨e, List.mem_append.2 (.inl he), rfl⟩
      have := hF.il _ h
      omega
    · rcases List.mem_cons.1 he with rfl | he
      · have h : e0.2 ∈ C.b := by rw [← hes]; exact List.mem_map.2 ⟨e0, List.mem_append.2 (.inr List.mem_cons_self), rfl⟩
        have := hF.il _ h
        show (e0.2.1.set k i).length ≤ 65536
        rw [List.length_set]
        omega
      · have h : e.2 ∈ C.b := by rw [← hes]; exact List.mem_map.2 ⟨e, List.mem_append.2 (.inr (List.mem_cons_of_mem _ he)), rfl⟩
        have := hF.il _ h
        omega)
  have hc : (⟨C.q, C.l, (es1 ++ (e0.1, e0.2.1.set k i, e0.2.2) :: es2).map (·.2), C.n⟩ : CdV) = setC C b k i := by rw [hm]; rfl
  rw [hc] at hk
  injection e5 with a1 a2 a3
  injection e6 with b1 b2 b3
  injection e7 with c1 c2 c3
  subst a1 a2 a3 b1 b2 b3 c1 c2 c3
  have hbl : (setC C b k i).b.length = C.b.length := List.length_set
  have hf : (setC C b k i).Fits := ⟨hF.fits.1, hF.fits.2.1, by rw [hbl]; exact hF.fits.2.2⟩
  have hv : cdval (setC C b k i) ad = .agg #[.int .i64 (C.n 0), .int .i64 (C.n 1), .int .i64 (C.n 2), .int .i64 (C.n 3), .int .i64 (C.n 4), .slice ad.a1 C.q.length ad.c1, .slice ad.a2 C.l.length ad.c2, .slice ad.a3 (es1 ++ (e0.1, e0.2.1.set k i, e0.2.2) :: es2).length ad.c3] := by
    unfold cdval
    rw [hbl, ← hlen]
    rfl
  have H := Check_c _ ad V (hk.on hV).mem hf
  rw [hv, hz] at H
  exact H
/-- The words of four operands, one behind the other. -/
def opdC (o : OpdV) : List Value := [.int .i64 o.k, .int .i64 o.n, .int .i32 o.v]
abbrev ops4 (x y z u : OpdV) : Array Value := #[.int .i64 x.k, .int .i64 x.n, .int .i32 x.v, .int .i64 y.k, .int .i64 y.n, .int .i32 y.v, .int .i64 z.k, .int .i64 z.n, .int .i32 z.v, .int .i64 u.k, .int .i64 u.n, .int .i32 u.v]
abbrev instA (i : InstV) : Array Value := #[.int .i64 i.op, .int .i64 i.sub, .int .i64 i.n, .int .i64 i.d.k, .int .i64 i.d.n, .int .i32 i.d.v, .int .i64 i.a.k, .int .i64 i.a.n, .int .i32 i.a.v, .int .i64 i.b.k, .int .i64 i.b.n, .int .i32 i.b.v, .int .i64 i.c.k, .int .i64 i.c.n, .int .i32 i.c.v]
theorem blk3 {W : World} {bl n : Nat} (hn : n < 4) {x y z u : OpdV} (h : W.heap[bl]? = some (.cells (ops4 x y z u) 27 (0, 0))) (o : OpdV) (ho : o = if n = 0 then x else if n = 1 then y else if n = 2 then z else u) :
    W.cell? ⟨bl, n * 3, none⟩ = some (.int .i64 o.k) ∧ W.cell? ⟨bl, n * 3 + 1, none⟩ = some (.int .i64 o.n) ∧ W.cell? ⟨bl, n * 3 + 2, none⟩ = some (.int .i32 o.v) := by
  have : n = 0 ∨ n = 1 ∨ n = 2 ∨ n = 3 := by omega
  subst ho
  rcases this with rfl | rfl | rfl | rfl
  · exact ⟨cell_blk h (i := 0) rfl, cell_blk h (i := 1) rfl, cell_blk h (i := 2) rfl⟩
  · exact ⟨cell_blk h (i := 3) rfl, cell_blk h (i := 4) rfl, cell_blk h (i := 5) rfl⟩
  · exact ⟨cell_blk h (i := 6) rfl, cell_blk h (i := 7) rfl, cell_blk h (i := 8) rfl⟩
  · exact ⟨cell_blk h (i := 9) rfl, cell_blk h (i := 10) rfl, cell_blk h (i := 11) rfl⟩
theorem st3f {W : World} {b : Nat} {T : TypeId} {c0 c1 c2 : Value} (hb : W.heap[b]? = some (.cells #[c0, c1, c2] T (0, 0))) (v0 v1 v2 : Value) :
    (((W.setCell ⟨b, 0, none⟩ v0).setCell ⟨b, 1, none⟩ v1).setCell ⟨b, 2, none⟩ v2).heap[b]? = some (.cells #[v0, v1, v2] T (0, 0)) := by
  have k0 : (W.setCell ⟨b, 0, none⟩ v0).heap[b]? = some (.cells #[v0, c1, c2] T (0, 0)) := heap_setCell_same _ b 0 _ T v0 hb
  have k1 : ((W.setCell ⟨b, 0, none⟩ v0).setCell ⟨b, 1, none⟩ v1).heap[b]? = some (.cells #[v0, v1, c2] T (0, 0)) := heap_setCell_same _ b 1 _ T v1 k0
  exact heap_setCell_same _ b 2 _ T v2 k1
theorem set12 {W : World} {b : Nat} (i : InstV) (m0 m1 m2 m3 : OpdV) (h : W.heap[b]? = some (.cells (instA i) 61 (0, 0))) :
    ((((((((((((W.setCell ⟨b, 3, none⟩ (.int .i64 m0.k)).setCell ⟨b, 4, none⟩ (.int .i64 m0.n)).setCell ⟨b, 5, none⟩ (.int .i32 m0.v)).setCell ⟨b, 6, none⟩ (.int .i64 m1.k)).setCell ⟨b, 7, none⟩ (.int .i64 m1.n)).setCell ⟨b, 8, none⟩ (.int .i32 m1.v)).setCell ⟨b, 9, none⟩ (.int .i64 m2.k)).setCell ⟨b, 10, none⟩ (.int .i64 m2.n)).setCell ⟨b, 11, none⟩ (.int .i32 m2.v)).setCell ⟨b, 12, none⟩ (.int .i64 m3.k)).setCell ⟨b, 13, none⟩ (.int .i64 m3.n)).setCell ⟨b, 14, none⟩ (.int .i32 m3.v)).heap[b]? = some (.cells (instA ⟨i.op, i.sub, i.n, m0, m1, m2, m3⟩) 61 (0, 0)) := by
  have e3 := heap_setCell_same _ b 3 _ 61 (.int .i64 m0.k) h
  simp only [List.setIfInBounds_toArray, List.set_cons_zero, List.set_cons_succ] at e3
  have e4 := heap_setCell_same _ b 4 _ 61 (.int .i64 m0.n) e3
  simp only [List.setIfInBounds_toArray, List.set_cons_zero, List.set_cons_succ] at e4
  have e5 := heap_setCell_same _ b 5 _ 61 (.int .i32 m0.v) e4
  simp only [List.setIfInBounds_toArray, List.set_cons_zero, List.set_cons_succ] at e5
  have e6 := heap_setCell_same _ b 6 _ 61 (.int .i64 m1.k) e5
  simp only [List.setIfInBounds_toArray, List.set_cons_zero, List.set_cons_succ] at e6
  have e7 := heap_setCell_same _ b 7 _ 61 (.int .i64 m1.n) e6
  simp only [List.setIfInBounds_toArray, List.set_cons_zero, List.set_cons_succ] at e7
  have e8 := heap_setCell_same _ b 8 _ 61 (.int .i32 m1.v) e7
  simp only [List.setIfInBounds_toArray, List.set_cons_zero, List.set_cons_succ] at e8
  have e9 := heap_setCell_same _ b 9 _ 61 (.int .i64 m2.k) e8
  simp only [List.setIfInBounds_toArray, List.set_cons_zero, List.set_cons_succ] at e9
  have e10 := heap_setCell_same _ b 10 _ 61 (.int .i64 m2.n) e9
  simp only [List.setIfInBounds_toArray, List.set_cons_zero, List.set_cons_succ] at e10
  have e11 := heap_setCell_same _ b 11 _ 61 (.int .i32 m2.v) e10
  simp only [List.setIfInBounds_toArray, List.set_cons_zero, List.set_cons_succ] at e11
  have e12 := heap_setCell_same _ b 12 _ 61 (.int .i64 m3.k) e11
  simp only [List.setIfInBounds_toArray, List.set_cons_zero, List.set_cons_succ] at e12
  have e13 := heap_setCell_same _ b 13 _ 61 (.int .i64 m3.n) e12
  simp only [List.setIfInBounds_toArray, List.set_cons_zero, List.set_cons_succ] at e13
  have e14 := heap_setCell_same _ b 14 _ 61 (.int .i32 m3.v) e13
  simp only [List.setIfInBounds_toArray, List.set_cons_zero, List.set_cons_succ] at e14
  exact e14
theorem bel12 {w W : World} {B b : Nat} (m0 m1 m2 m3 : OpdV) (h : Below B w W) (hb : B ≤ b) : Below B w ((((((((((((W.setCell ⟨b, 3, none⟩ (.int .i64 m0.k)).setCell ⟨b, 4, none⟩ (.int .i64 m0.n)).setCell ⟨b, 5, none⟩ (.int .i32 m0.v)).setCell ⟨b, 6, none⟩ (.int .i64 m1.k)).setCell ⟨b, 7, none⟩ (.int .i64 m1.n)).setCell ⟨b, 8, none⟩ (.int .i32 m1.v)).setCell ⟨b, 9, none⟩ (.int .i64 m2.k)).setCell ⟨b, 10, none⟩ (.int .i64 m2.n)).setCell ⟨b, 11, none⟩ (.int .i32 m2.v)).setCell ⟨b, 12, none⟩ (.int .i64 m3.k)).setCell ⟨b, 13, none⟩ (.int .i64 m3.n)).setCell ⟨b, 14, none⟩ (.int .i32 m3.v)) := ((((((((((((h.setCell hb _).setCell hb _).setCell hb _).setCell hb _).setCell hb _).setCell hb _).setCell hb _).setCell hb _).setCell hb _).setCell hb _).setCell hb _).setCell hb _)
/-- Where an instruction of a block lies. -/
theorem LX.inst {w W : World} {b n0 gB cB gI cI nb ni k : Nat} {g s r sl p : Int} {v5 v6 : Value} {qs : List ArV} {ls : List LoV} {es1 es2 : List BlE} {e : BlE} (h : LX w b n0 g s r sl p v5 v6 (.slice (some ⟨gB, 0, none⟩) nb cB) qs ls (es1 ++ e :: es2) W)
    (hl : (es1 ++ e :: es2).length = nb) (he : e.1 = .slice (some ⟨gI, 0, none⟩) ni cI) (hi : e.2.1.length = ni) (hk : k < ni) :
    W.cell? ⟨gB, es1.length * 14, none⟩ = some (.slice (some ⟨gI, 0, none⟩) ni cI) ∧ (∀ o, W.frozen? ⟨gI, o, none⟩ = false) ∧ (∀ j, j < 15 → ∃ v, W.cell? ⟨gI, k * 15 + j, none⟩ = some v) ∧ b ≠ gI ∧ gB ≠ gI := by
  have hb := h.rows.blocks
  rw [hl] at hb
  have hr := h.rows.insts e (List.mem_append.2 (.inr List.mem_cons_self))
  rw [he, hi] at hr
  have hlt : es1.length < (es1 ++ e :: es2).length := by simp
  refine ⟨?_, fun o => hr.frozenAt o, fun j hj => ?_, ?_, ?_⟩
  · rw [hb.cellAt _ (by rw [← hl, List.length_append, List.length_cons]; omega)]
    have := flat_get blC 14 (fun _ => rfl) (es1 ++ e :: es2) es1.length 0 hlt (by decide)
    rw [Nat.add_zero] at this
    unfold flatB
    rw [this, List.getElem_append_right (Nat.le_refl _)]
    simp [blC, he]
  · have hlt2 : k * 15 + j < (flatI e.2.1).length := by
      rw [flatI_len, hi]
      omega
    exact ⟨_, (hr.cellAt _ (by omega)).trans (List.getElem?_eq_getElem hlt2)⟩
  · rcases hr.2 with ⟨e1, _⟩ | ⟨g', cap', cur, e1, _, hg, _⟩
    · cases e1
    · simp only [Value.slice.injEq, Option.some.injEq, Addr.mk.injEq, and_true] at e1
      intro hh
      have h2 := h.box
      rw [hh, e1.1, hg] at h2
      simp at h2
  · rcases hr.2 with ⟨e1, _⟩ | ⟨g', cap', cur, e1, _, hg, _⟩
    · cases e1
    · simp only [Value.slice.injEq, Option.some.injEq, Addr.mk.injEq, and_true] at e1
      rcases hb.2 with ⟨e2, _⟩ | ⟨g2, cap2, cur2, e2, _, hg2, _⟩
      · cases e2
      · simp only [Value.slice.injEq, Option.some.injEq, Addr.mk.injEq, and_true] at e2
        intro hh
        rw [← e2.1, hh, e1.1, hg] at hg2
        simp at hg2
abbrev ops5 (x y z u v : OpdV) : Array Value := #[.int .i64 x.k, .int .i64 x.n, .int .i32 x.v, .int .i64 y.k, .int .i64 y.n, .int .i32 y.v, .int .i64 z.k, .int .i64 z.n, .int .i32 z.v, .int .i64 u.k, .int .i64 u.n, .int .i32 u.v, .int .i64 v.k, .int .i64 v.n, .int .i32 v.v]
theorem blk5 {W : World} {bl j : Nat} (hj : j < 5) {x y z u v : OpdV} (h : W.heap[bl]? = some (.cells (ops5 x y z u v) 27 (0, 0))) :
    ∃ o, o ∈ [x, y, z, u, v] ∧ W.cell? ⟨bl, j * 3, none⟩ = some (.int .i64 o.k) ∧ W.cell? ⟨bl, j * 3 + 1, none⟩ = some (.int .i64 o.n) ∧ W.cell? ⟨bl, j * 3 + 2, none⟩ = some (.int .i32 o.v) := by
  have : j = 0 ∨ j = 1 ∨ j = 2 ∨ j = 3 ∨ j = 4 := by omega
  rcases this with rfl | rfl | rfl | rfl | rfl
  · exact ⟨x, by simp, cell_blk h (i := 0) rfl, cell_blk h (i := 1) rfl, cell_blk h (i := 2) rfl⟩
  · exact ⟨y, by simp, cell_blk h (i := 3) rfl, cell_blk h (i := 4) rfl, cell_blk h (i := 5) rfl⟩
  · exact ⟨z, by simp, cell_blk h (i := 6) rfl, cell_blk h (i := 7) rfl, cell_blk h (i := 8) rfl⟩
  · exact ⟨u, by simp, cell_blk h (i := 9) rfl, cell_blk h (i := 10) rfl, cell_blk h (i := 11) rfl⟩
  · exact ⟨v, by simp, cell_blk h (i := 12) rfl, cell_blk h (i := 13) rfl, cell_blk h (i := 14) rfl⟩
theorem set3 {W : World} {bl n : Nat} (hn : n < 4) (i : InstV) (x : OpdV) (h : W.heap[bl]? = some (.cells (ops4 i.d i.a i.b i.c) 27 (0, 0))) :
    ∃ m0 m1 m2 m3, (((W.setCell ⟨bl, n * 3, none⟩ (.int .i64 x.k)).setCell ⟨bl, n * 3 + 1, none⟩ (.int .i64 x.n)).setCell ⟨bl, n * 3 + 2, none⟩ (.int .i32 x.v)).heap[bl]? = some (.cells (ops4 m0 m1 m2 m3) 27 (0, 0)) ∧ frI i n x = ⟨i.op, i.sub, i.n, m0, m1, m2, m3⟩ := by
  have : n = 0 ∨ n = 1 ∨ n = 2 ∨ n = 3 := by omega
  rcases this with rfl | rfl | rfl | rfl
  · exact ⟨x, i.a, i.b, i.c, heap_setCell_same _ bl 2 _ 27 _ (heap_setCell_same _ bl 1 _ 27 _ (heap_setCell_same _ bl 0 _ 27 _ h)), rfl⟩
  · exact ⟨i.d, x, i.b, i.c, heap_setCell_same _ bl 5 _ 27 _ (heap_setCell_same _ bl 4 _ 27 _ (heap_setCell_same _ bl 3 _ 27 _ h)), rfl⟩
  · exact ⟨i.d, i.a, x, i.c, heap_setCell_same _ bl 8 _ 27 _ (heap_setCell_same _ bl 7 _ 27 _ (heap_setCell_same _ bl 6 _ 27 _ h)), rfl⟩
  · exact ⟨i.d, i.a, i.b, x, heap_setCell_same _ bl 11 _ 27 _ (heap_setCell_same _ bl 10 _ 27 _ (heap_setCell_same _ bl 9 _ 27 _ h)), rfl⟩
theorem instA_one (i : InstV) : (instA i).all (·.oneCell') = true := by
  rw [Array.all_eq_true_iff_forall_mem]
  intro v hv
  simp only [List.mem_toArray, List.mem_cons, List.not_mem_nil, or_false] at hv
  rcases hv with rfl | rfl | rfl | rfl | rfl | rfl | rfl | rfl | rfl | rfl | rfl | rfl | rfl | rfl | rfl <;> rfl
theorem setN_eq (g : Nat) : ∀ (vs : List Value) (o : Nat) (W : World), setN g o vs W = W.setCells g o vs
  | [], _, _ => rfl
  | v :: vs, o, W => setN_eq g vs (o + 1) (W.setCell ⟨g, o, none⟩ v)
theorem LX.setKc {w W : World} {b n0 gI cI ni k : Nat} {g s r sl p : Int} {v5 v6 v7 : Value} {qs : List ArV} {ls : List LoV} {es1 es2 : List BlE} {e : BlE} (i : InstV) (h : LX w b n0 g s r sl p v5 v6 v7 qs ls (es1 ++ e :: es2) W) (hd : DisI (es1 ++ e :: es2))
    (he : e.1 = .slice (some ⟨gI, 0, none⟩) ni cI) (hi : e.2.1.length = ni) (hk : k < ni) :
    LX w b n0 g s r sl p v5 v6 v7 qs ls (es1 ++ (e.1, e.2.1.set k i, e.2.2) :: es2) (W.setCells gI (k * 15) (instA i).toList) := by
  have H := h.setK (k := k) i hd (by rw [hi]; exact he) (by rw [hi]; exact hk)
  rw [setN_eq] at H
  exact H
theorem step_store_mid {P : Program} {ops : Array Oper} {o : Oper} {a : Act} {w : World} {K : Act → World → Prop} {Q : Exit → Act → World → Prop} {E : Prop} (hgd : o.guard = none) (ty : TypeId) (x y : Operand) (ho : o.op = .store ty x y)
    (b off : Nat) (cells : Array Value) (hx : a.eval x = .pointer (some ⟨b, off, none⟩)) (hy : a.eval y = .agg cells) (ht : w.there b off cells.size) (hi : (P.info? ty).map (·.size) = some cells.size) (h1 : cells.all (·.oneCell') = true)
    (h : K (a.put o.dst undef) (w.setCells b off cells.toList)) : if Region.wanted o (yielded ops a.tmps) = true then Oper.wp P o a w K Q else E := by
  have hw : Region.wanted o (yielded ops a.tmps) = true := by simp [Region.wanted, hgd]
  rw [if_pos hw]
  exact wp_store_mid ty x y ho b off cells hx hy ht hi h1 h
set_option maxRecDepth 100000 in
set_option maxHeartbeats 16000000 in
theorem forms_of (A : Option Addr) (nx cx : Nat) (n0 n1 : Int) (q : Bool) (w : World) (h0 : 0 ≤ n0 ∧ n0 ≤ 255) (h1 : 0 ≤ n1 ∧ n1 ≤ 255) (hE : EnvP w)
    (hM : ∀ W, Below w.heap.size w W → Calls Tryz.prog 12 #[.agg #[.slice A nx cx], .bool q] W fun e w' => ∃ (C : CdV) (a : CdA), e = .returned (.agg #[.int .i64 (C.n 0), .int .i64 (C.n 1), .int .i64 (C.n 2), .int .i64 (C.n 3), .int .i64 (C.n 4), .slice a.a1 C.q.length a.c1, .slice a.a2 C.l.length a.c2, .slice a.a3 C.b.length a.c3]) ∧ (FrF C ∧ CdK C a w') ∧ Below W.heap.size W w') :
    Calls Tryz.prog 8 #[.agg #[.slice A nx cx], .agg #[.int .u8 n0, .int .u8 n1], .bool q] w fun e w' => e = .returned (.bool true) ∧ Below w.heap.size w w' := by
  have hB0 : Below w.heap.size w ((w.alloc (.cells #[.slice A nx cx] 24)).alloc (.cells #[.int .u8 n0, .int .u8 n1] 25)) := ((Below.refl _ _).alloc (Nat.le_refl _) _).alloc (by simp) _
  have hXB : FB w.heap.size A nx cx n0 n1 ((w.alloc (.cells #[.slice A nx cx] 24)).alloc (.cells #[.int .u8 n0, .int .u8 n1] 25)) := ⟨(Below.heap_alloc _ _ _ (by simp)).trans (heap_alloc_new w _), by have := heap_alloc_new (w.alloc (.cells #[.slice A nx cx] 24)) (.cells #[.int .u8 n0, .int .u8 n1] 25); rw [World.size_alloc] at this; exact this⟩
  have HX := Lib.hid (fun W (hW : Below w.heap.size w W) => examples_any W (hE.on hW))
  have HM := Lib.hid hM
  have HB0 := Lib.hid hB0
  have HXB := Lib.hid hXB
  obtain ⟨h00, h01⟩ := h0
  obtain ⟨h10, h11⟩ := h1
  clear hB0 hXB hM hE
  go_enter Tryz.func8, Tryz.ntmps8
  go_upto_region 5 with (first
    | (go_at_call 11; (with_reducible refine (HX.out _ HB0.out).mono ?_); rintro e w1 ⟨rfl, hb1⟩; have hx1 := HXB.out.on hb1; obtain ⟨cx0, cx1, cx2⟩ := hx1.cells; have HX1 := Lib.hid hx1; have HB1 := Lib.hid (HB0.out.trans (hb1.mono HB0.out.size)); clear hb1 hx1)
    | (go_at_call 12; (with_reducible refine (HM.out _ HB1.out).mono ?_); rintro e w2 ⟨C, a, rfl, hmp, hb2⟩; have HF := Lib.hid hmp.1; have HK2 := Lib.hid hmp.2; have HB2 := Lib.hid (HB1.out.trans (hb2.mono HB1.out.size)); have HX2 := Lib.hid (HX1.out.on hb2); clear hmp hb2))
  have HCK := Lib.hid (HK2.out.on ((Below.refl _ _).alloc (Nat.le_refl _) (.cells #[.int .i64 (C.n 0), .int .i64 (C.n 1), .int .i64 (C.n 2), .int .i64 (C.n 3), .int .i64 (C.n 4), .slice a.a1 C.q.length a.c1, .slice a.a2 C.l.length a.c2, .slice a.a3 C.b.length a.c3] 36)))
  have hb8 : (w2.alloc (.cells #[.int .i64 (C.n 0), .int .i64 (C.n 1), .int .i64 (C.n 2), .int .i64 (C.n 3), .int .i64 (C.n 4), .slice a.a1 C.q.length a.c1, .slice a.a2 C.l.length a.c2, .slice a.a3 C.b.length a.c3] 36)).heap[w2.heap.size]? = some (.cells #[.int .i64 (C.n 0), .int .i64 (C.n 1), .int .i64 (C.n 2), .int .i64 (C.n 3), .int .i64 (C.n 4), .slice a.a1 C.q.length a.c1, .slice a.a2 C.l.length a.c2, .slice a.a3 C.b.length a.c3] 36 (0, 0)) := heap_alloc_new _ _
  have HX3 := Lib.hid (HX2.out.on ((Below.refl _ _).alloc (Nat.le_refl _) (.cells #[.int .i64 (C.n 0), .int .i64 (C.n 1), .int .i64 (C.n 2), .int .i64 (C.n 3), .int .i64 (C.n 4), .slice a.a1 C.q.length a.c1, .slice a.a2 C.l.length a.c2, .slice a.a3 C.b.length a.c3] 36)))
  have HB3 := Lib.hid (HB2.out.alloc HB2.out.size (.cells #[.int .i64 (C.n 0), .int .i64 (C.n 1), .int .i64 (C.n 2), .int .i64 (C.n 3), .int .i64 (C.n 4), .slice a.a1 C.q.length a.c1, .slice a.a2 C.l.length a.c2, .slice a.a3 C.b.length a.c3] 36))
  generalize (w2.alloc (.cells #[.int .i64 (C.n 0), .int .i64 (C.n 1), .int .i64 (C.n 2), .int .i64 (C.n 3), .int .i64 (C.n 4), .slice a.a1 C.q.length a.c1, .slice a.a2 C.l.length a.c2, .slice a.a3 C.b.length a.c3] 36)) = W3 at *
  generalize w2.heap.size = b8 at *
  obtain ⟨nb, hnb⟩ : ∃ nb, C.b.length = nb := ⟨_, rfl⟩
  have hb18 := HF.out.nb
  have HBK := Lib.hid (HCK.out.mem.blocks)
  have HNB := Lib.hid hnb
  rw [hnb] at hb18 hb8 HBK ⊢
  obtain ⟨hb1, hb18⟩ := hb18
  have HCH := Lib.hid (fun (V : World) (hV : Below W3.heap.size W3 V) => show Calls Tryz.prog 17 #[.agg #[.int .i64 (C.n 0), .int .i64 (C.n 1), .int .i64 (C.n 2), .int .i64 (C.n 3), .int .i64 (C.n 4), .slice a.a1 C.q.length a.c1, .slice a.a2 C.l.length a.c2, .slice a.a3 nb a.c3]] V fun e w' => e = .returned (.int .i64 0) ∧ Below V.heap.size V w' from by
    have H := Check_c C a V (HCK.out.on hV).mem HF.out.fits
    rw [HF.out.chk] at H
    unfold cdval at H
    rw [hnb] at H
    exact H)
  obtain ⟨_, x0, x1⟩ := HX3.out.cells
  have kc0 := cell_blk hb8 (i := 0) rfl
  have kc1 := cell_blk hb8 (i := 1) rfl
  have kc2 := cell_blk hb8 (i := 2) rfl
  have kc3 := cell_blk hb8 (i := 3) rfl
  have kc4 := cell_blk hb8 (i := 4) rfl
  have kc5 := cell_blk hb8 (i := 5) rfl
  have kc6 := cell_blk hb8 (i := 6) rfl
  have kc7 := cell_blk hb8 (i := 7) rfl
  have hw0 : IntKind.i64.wrap n0 = n0 := IntWalk.i64_in _ (by omega)
  have hw1 : IntKind.i64.wrap n1 = n1 := IntWalk.i64_in _ (by omega)
  obtain ⟨b, hbm, hbn⟩ : ∃ b : Nat, Int.tmod n0 nb = (b : Int) ∧ b < nb := ⟨(Int.tmod n0 nb).toNat, by
    have := Int.tmod_nonneg (nb : Int) h00
    omega, by
    have := Int.tmod_lt_of_pos n0 (show (0 : Int) < nb by omega)
    have := Int.tmod_nonneg (nb : Int) h00
    omega⟩
  obtain ⟨b3, off3, hA3, hb3, hcells⟩ := HBK.out (by omega)
  have m0 := (hcells b hbn).1
  rw [hA3] at kc7 HCH
  obtain ⟨ni, hni⟩ : ∃ ni, C.il b = ni := ⟨_, rfl⟩
  obtain ⟨Ai, hAi⟩ : ∃ Ai, a.ia b = Ai := ⟨_, rfl⟩
  obtain ⟨ci, hci⟩ : ∃ ci, a.ic b = ci := ⟨_, rfl⟩
  have hni27 : ni ≤ 27 := by
    rw [← hni]
    unfold CdV.il
    rw [getD_of _ _ _ (by rw [hnb]; exact hbn)]
    exact HF.out.il _ (List.getElem_mem _)
  have HRI := Lib.hid (HCK.out.mem.insts b (by rw [hnb]; exact hbn))
  rw [hni, hAi, hci] at m0
  rw [hni, hAi] at HRI
  have HA3 := Lib.hid hA3
  rw [hA3] at hb8
  have HB8 := Lib.hid hb8
  have HNI := Lib.hid hni
  have HNN := Lib.hid hnb
  have hbi : (b : Int) < (nb : Int) := by omega
  have hnz : ¬ (nb : Int) = 0 := by omega
  clear hb8 hcells hA3 hni hAi hci hnb HK2 HB2 HX2 HM HX HX1 HB1 HB0 HXB cx0 cx1 cx2 HBK
  by_cases hn0 : ni = 0
  · subst hn0
    go_wp2_with (first
      | (go_at_call 17; (with_reducible refine (HCH.out _ (Below.refl _ _)).mono ?_); rintro e w4 ⟨rfl, hb4⟩; have HB4 := Lib.hid hb4; clear hb4))
    go_ret
    exact ⟨rfl, HB3.out.trans (HB4.out.mono HB3.out.size)⟩
  · have hnp : 0 < ni := by omega
    obtain ⟨k, hkm, hkn⟩ : ∃ k : Nat, Int.tmod n1 ni = (k : Int) ∧ k < ni := ⟨(Int.tmod n1 ni).toNat, by
      have := Int.tmod_nonneg (ni : Int) h10
      omega, by
      have := Int.tmod_lt_of_pos n1 (show (0 : Int) < ni by omega)
      have := Int.tmod_nonneg (ni : Int) h10
      omega⟩
    obtain ⟨bi, offi, hAi, hbi2, hic⟩ := HRI.out hnp
    obtain ⟨i, hi⟩ : ∃ i, C.is b k = i := ⟨_, rfl⟩
    obtain ⟨i0, i1, i2, i3, i4, i5, i6, i7, i8, i9, i10, i11, i12, i13, i14⟩ := hic k hkn
    rw [hi] at i0 i1 i2 i3 i4 i5 i6 i7 i8 i9 i10 i11 i12 i13 i14
    have HI := Lib.hid hi
    have hki : (k : Int) < (ni : Int) := by omega
    have hnzi : ¬ (ni : Int) = 0 := by omega
    have hne : ((ni : Int) == 0) = false := by simpa using hnzi
    subst hAi
    clear hic hi
    go_upto_region 8 with (fail)
    go_quiet (fail)
    have hb34 : Below W3.heap.size W3 (W3.drewN nq) := below_drewN (Below.refl _ _) _
    have kk : ∀ x, (W3.drewN nq).cell? x = W3.cell? x := fun x => by simp
    rw [← kk] at i0 i1 i2 i3 i4 i5 i6 i7 i8 i9 i10 i11 i12 i13 i14 kc0 kc1 kc2 kc3 kc4 kc5 kc6 kc7 m0 x0 x1
    clear kk
    have HB34 := Lib.hid hb34
    clear hb34
    generalize W3.drewN nq = W4 at *
    go_upto_region 12 with (fail)
    have hb5 : Below W3.heap.size W3 ((W4.alloc (.cells (instA i) 61)).alloc (.cells (ops4 i.d i.a i.b i.c) 27)) := (HB34.out.alloc HB34.out.size _).alloc (by have := HB34.out.size; simp; omega) _
    have h11 : ((W4.alloc (.cells (instA i) 61)).alloc (.cells (ops4 i.d i.a i.b i.c) 27)).heap[W4.heap.size]? = some (.cells (instA i) 61 (0, 0)) := (Below.heap_alloc _ _ _ (by simp)).trans (heap_alloc_new _ _)
    have h12 : ((W4.alloc (.cells (instA i) 61)).alloc (.cells (ops4 i.d i.a i.b i.c) 27)).heap[W4.heap.size + 1]? = some (.cells (ops4 i.d i.a i.b i.c) 27 (0, 0)) := by
      have := heap_alloc_new (W4.alloc (.cells (instA i) 61)) (.cells (ops4 i.d i.a i.b i.c) 27)
      rwa [World.size_alloc] at this
    have HBW := Lib.hid hb5
    have H11 := Lib.hid h11
    have H12 := Lib.hid h12
    generalize hW5 : ((W4.alloc (.cells (instA i) 61)).alloc (.cells (ops4 i.d i.a i.b i.c) 27)) = W5 at *
    generalize W4.heap.size = b11 at *
    have H8 := Lib.hid (show ∀ V, Below W5.heap.size W5 V → V.heap[b8]? = some (.cells #[.int .i64 (C.n 0), .int .i64 (C.n 1), .int .i64 (C.n 2), .int .i64 (C.n 3), .int .i64 (C.n 4), .slice a.a1 C.q.length a.c1, .slice a.a2 C.l.length a.c2, .slice (some ⟨b3, off3, none⟩) nb a.c3] 36 (0, 0)) from fun V hV => by
      have h := HBW.out.trans (hV.mono HBW.out.size)
      exact (h.block b8 (Array.getElem?_eq_some_iff.1 HB8.out).1).trans HB8.out)
    clear hb5 h11 h12 hW5 HB34 i0 i1 i2 i3 i4 i5 i6 i7 i8 i9 i10 i11 i12 i13 i14 kc0 kc1 kc2 kc3 kc4 kc5 kc6 kc7 m0 x0 x1
    go_loopw [13] (fun z wr => ∃ n : Nat, n ≤ 4 ∧ z = .int .i64 n ∧ Hid (Below W5.heap.size W5 wr)) (fun z _ => 4 - (intOf z).toNat)
    case atStart => exact ⟨0, by omega, rfl, Lib.hid (Below.refl _ _)⟩
    case round =>
      obtain ⟨n, hn, rfl, HB⟩ := hrel
      by_cases hlt : n < 4
      · have hni : (n : Int) < 4 := by omega
        obtain ⟨o, ho⟩ : ∃ o, opN i n = o := ⟨_, rfl⟩
        obtain ⟨o0, o1, o2⟩ := blk3 hlt ((HB.out.block _ (Array.getElem?_eq_some_iff.1 H12.out).1).trans H12.out) o ho.symm
        have HO := Lib.hid ho
        clear ho
        have HBL := Lib.hid (show Below W5.heap.size W5 (wr.alloc (.cells (opdC o).toArray 27)) from HB.out.alloc HB.out.size _)
        have H14 := Lib.hid (show (wr.alloc (.cells (opdC o).toArray 27)).heap[wr.heap.size]? = some (.cells #[.int .i64 o.k, .int .i64 o.n, .int .i32 o.v] 27 (0, 0)) from heap_alloc_new _ _)
        have HSZ := Lib.hid HB.out.size
        go_upto_if 86 with (fail)
        go_cut [] from 76 to 149 (fun wx => ∃ (od : OpdV) (W7 : World), W7 = wx ∧ Hid ((if o.k = 0 then (⟨1, 0, 0⟩ : OpdV) else ⟨0, 0, 0⟩) = od) ∧ Hid (wx.heap[wr.heap.size]? = some (.cells #[.int .i64 od.k, .int .i64 od.n, .int .i32 od.v] 27 (0, 0))) ∧ Hid (Below W5.heap.size W5 wx))
        case first =>
          by_cases ho0 : o.k = 0
          · have e0 : (o.k == 0) = true := by simpa using ho0
            have HO0 := Lib.hid ho0
            clear ho0
            go_wp2_with (first
              | (go_at_call 42; (with_reducible refine (Const_any _ _).mono ?_); rintro e w6 ⟨rfl, hb6⟩; have hk6 := (hb6.block _ (Array.getElem?_eq_some_iff.1 H14.out).1).trans H14.out; have rf := fun o => frozen_of_row _ _ o _ _ hk6; have r0 := cell_blk hk6 (i := 0) rfl; have r1 := cell_blk hk6 (i := 1) rfl; have r2 := cell_blk hk6 (i := 2) rfl; have HK6 := Lib.hid hk6; have HB6 := Lib.hid (HBL.out.trans (hb6.mono HBL.out.size)); clear hb6 hk6))
            go_meet
            exact ⟨⟨1, 0, 0⟩, _, rfl, Lib.hid (by rw [if_pos HO0.out]), Lib.hid (st3f HK6.out (.int .i64 1) (.int .i64 0) (.int .i32 0)), Lib.hid (((HB6.out.setCell HSZ.out _).setCell HSZ.out _).setCell HSZ.out _)⟩
          · have e0 : (o.k == 0) = false := by simpa using ho0
            have HO0 := Lib.hid ho0
            clear ho0
            go_wp2
            go_meet
            exact ⟨⟨0, 0, 0⟩, _, rfl, Lib.hid (by rw [if_neg HO0.out]), Lib.hid (heap_alloc_new _ _), Lib.hid (HB.out.alloc HB.out.size _)⟩
        case rest =>
          obtain ⟨od, W7, rfl, HOD, H14x, HB7⟩ := hcut
          have h14 := H14x.out
          have kc2 := cell_blk (H8.out _ HB7.out) (i := 2) rfl
          have q0 := cell_blk h14 (i := 0) rfl
          have q1 := cell_blk h14 (i := 1) rfl
          have q2 := cell_blk h14 (i := 2) rfl
          clear h14 H14x HBL H14 HSZ o0 o1 o2
          go_upto_region 20 with (fail)
          have HBV := Lib.hid (show Below W5.heap.size W5 (W7.alloc (.cells (ops5 od ⟨2, C.n 2, 0⟩ ⟨2, -1, 0⟩ ⟨3, 0, 0⟩ ⟨1, 1, 0⟩) 27)) from HB7.out.alloc HB7.out.size _)
          have H15 := Lib.hid (show (W7.alloc (.cells (ops5 od ⟨2, C.n 2, 0⟩ ⟨2, -1, 0⟩ ⟨3, 0, 0⟩ ⟨1, 1, 0⟩) 27)).heap[W7.heap.size]? = some (.cells (ops5 od ⟨2, C.n 2, 0⟩ ⟨2, -1, 0⟩ ⟨3, 0, 0⟩ ⟨1, 1, 0⟩) 27 (0, 0)) from heap_alloc_new _ _)
          clear kc2 q0 q1 q2 HB7
          generalize (W7.alloc (.cells (ops5 od ⟨2, C.n 2, 0⟩ ⟨2, -1, 0⟩ ⟨3, 0, 0⟩ ⟨1, 1, 0⟩) 27)) = W8 at *
          generalize W7.heap.size = b15 at *
          have HCPY := Lib.hid (fun (V : World) (hV : Below W8.heap.size W8 V) => show Calls Tryz.prog 38 #[.agg #[.int .i64 (C.n 0), .int .i64 (C.n 1), .int .i64 (C.n 2), .int .i64 (C.n 3), .int .i64 (C.n 4), .slice a.a1 C.q.length a.c1, .slice a.a2 C.l.length a.c2, .slice (some ⟨b3, off3, none⟩) nb a.c3]] V _ from by
            have h3 := HBW.out.trans ((HBV.out.trans (hV.mono HBV.out.size)).mono HBW.out.size)
            have H := copy_frm (HCK.out.on h3) HF.out.fits HNN.out hbn HNI.out hnp
            rw [HA3.out] at H
            exact H)
          go_loopw [16] (fun z wy => ∃ j : Nat, j ≤ 5 ∧ z = .int .i64 j ∧ Hid (Below W8.heap.size W8 wy)) (fun z _ => 5 - (intOf z).toNat)
          case atStart => exact ⟨0, by omega, rfl, Lib.hid (Below.refl _ _)⟩
          case round =>
            obtain ⟨j, hj, rfl, HBJ⟩ := hrel
            by_cases hjl : j < 5
            · have hji : (j : Int) < 5 := by omega
              have h11 := (HBJ.out.block _ ((Array.getElem?_eq_some_iff.1 ((HBV.out.block _ (Array.getElem?_eq_some_iff.1 H11.out).1).trans H11.out)).1)).trans ((HBV.out.block _ (Array.getElem?_eq_some_iff.1 H11.out).1).trans H11.out)
              have i3 := cell_blk h11 (i := 3) rfl
              have i4 := cell_blk h11 (i := 4) rfl
              have i5 := cell_blk h11 (i := 5) rfl
              have i6 := cell_blk h11 (i := 6) rfl
              have i7 := cell_blk h11 (i := 7) rfl
              have i8 := cell_blk h11 (i := 8) rfl
              have i9 := cell_blk h11 (i := 9) rfl
              have i10 := cell_blk h11 (i := 10) rfl
              have i11 := cell_blk h11 (i := 11) rfl
              have i12 := cell_blk h11 (i := 12) rfl
              have i13 := cell_blk h11 (i := 13) rfl
              have i14 := cell_blk h11 (i := 14) rfl
              clear h11
              go_upto_region 23 with (fail)
              have HB9 := Lib.hid (show Below W8.heap.size W8 (wr.alloc (.cells (ops4 i.d i.a i.b i.c) 27)) from HBJ.out.alloc HBJ.out.size _)
              have h17 : (wr.alloc (.cells (ops4 i.d i.a i.b i.c) 27)).heap[wr.heap.size]? = some (.cells (ops4 i.d i.a i.b i.c) 27 (0, 0)) := heap_alloc_new _ _
              have HSM := Lib.hid HBJ.out.size
              clear i3 i4 i5 i6 i7 i8 i9 i10 i11 i12 i13 i14
              generalize (wr.alloc (.cells (ops4 i.d i.a i.b i.c) 27)) = W9 at *
              generalize wr.heap.size = b17 at *
              obtain ⟨x, hx, xc0, xc1, xc2⟩ := blk5 hjl ((HB9.out.block _ (Array.getElem?_eq_some_iff.1 H15.out).1).trans H15.out)
              obtain ⟨p0, p1, p2⟩ := blk3 hlt h17 _ rfl
              have rf := fun o => frozen_of_row _ _ o _ _ h17
              obtain ⟨m0, m1, m2, m3, hm, hfr⟩ := set3 hlt i x h17
              have HX := Lib.hid hx
              have HM := Lib.hid hm
              have HFR := Lib.hid hfr
              have hb10 : Below W8.heap.size W8 (((W9.setCell ⟨b17, n * 3, none⟩ (.int .i64 x.k)).setCell ⟨b17, n * 3 + 1, none⟩ (.int .i64 x.n)).setCell ⟨b17, n * 3 + 2, none⟩ (.int .i32 x.v)) := ((HB9.out.setCell HSM.out _).setCell HSM.out _).setCell HSM.out _
              have HB10 := Lib.hid hb10
              clear hx hm hfr hb10 h17
              go_upto_region 24 with (fail)
              clear xc0 xc1 xc2 p0 p1 p2 rf HB9
              generalize (((W9.setCell ⟨b17, n * 3, none⟩ (.int .i64 x.k)).setCell ⟨b17, n * 3 + 1, none⟩ (.int .i64 x.n)).setCell ⟨b17, n * 3 + 2, none⟩ (.int .i32 x.v)) = W10 at *
              have h8 := H8.out W10 (HBV.out.trans (HB10.out.mono HBV.out.size))
              have H11b := Lib.hid ((HB10.out.block _ ((Array.getElem?_eq_some_iff.1 ((HBV.out.block _ (Array.getElem?_eq_some_iff.1 H11.out).1).trans H11.out)).1)).trans ((HBV.out.block _ (Array.getElem?_eq_some_iff.1 H11.out).1).trans H11.out))
              have kc0 := cell_blk h8 (i := 0) rfl
              have kc1 := cell_blk h8 (i := 1) rfl
              have kc2 := cell_blk h8 (i := 2) rfl
              have kc3 := cell_blk h8 (i := 3) rfl
              have kc4 := cell_blk h8 (i := 4) rfl
              have kc5 := cell_blk h8 (i := 5) rfl
              have kc6 := cell_blk h8 (i := 6) rfl
              have kc7 := cell_blk h8 (i := 7) rfl
              clear h8
              go_upto_region 25 with (first
                | (go_at_call 38; (with_reducible refine (HCPY.out _ HB10.out).mono ?_); rintro e w11 ⟨A5, q5, A6, q6, g7, q7, es1, e9, es2, gI, cI, rfl, hrr, hb11⟩; have HRR := Lib.hid hrr; have HB11 := Lib.hid hb11; clear hrr hb11))
              clear kc0 kc1 kc2 kc3 kc4 kc5 kc6 kc7
              have HSW := Lib.hid HB11.out.size
              have HB12 := Lib.hid (show Below W10.heap.size W10 (w11.alloc (.cells #[.int .i64 (C.n 0), .int .i64 (C.n 1), .int .i64 (C.n 2), .int .i64 (C.n 3), .int .i64 (C.n 4), .slice A5 C.q.length q5, .slice A6 C.l.length q6, .slice (some ⟨g7, 0, none⟩) nb q7] 36)) from HB11.out.alloc HB11.out.size _)
              have HLX := Lib.hid (show LX W10 w11.heap.size W10.heap.size (C.n 0) (C.n 1) (C.n 2) (C.n 3) (C.n 4) (.slice A5 C.q.length q5) (.slice A6 C.l.length q6) (.slice (some ⟨g7, 0, none⟩) nb q7) C.q C.l (es1 ++ e9 :: es2) (w11.alloc (.cells #[.int .i64 (C.n 0), .int .i64 (C.n 1), .int .i64 (C.n 2), .int .i64 (C.n 3), .int .i64 (C.n 4), .slice A5 C.q.length q5, .slice A6 C.l.length q6, .slice (some ⟨g7, 0, none⟩) nb q7] 36)) from
                ⟨heap_alloc_new _ _, HRR.out.1.k36 (K36.below ((Below.refl _ _).alloc (Nat.le_refl _) _)), HB12.out, Nat.le_refl _, HB11.out.size, by have := HB11.out.size; simp; omega⟩)
              generalize (w11.alloc (.cells #[.int .i64 (C.n 0), .int .i64 (C.n 1), .int .i64 (C.n 2), .int .i64 (C.n 3), .int .i64 (C.n 4), .slice A5 C.q.length q5, .slice A6 C.l.length q6, .slice (some ⟨g7, 0, none⟩) nb q7] 36)) = W12 at *
              generalize w11.heap.size = b18 at *
              have h11 := (HB12.out.block _ (Array.getElem?_eq_some_iff.1 H11b.out).1).trans H11b.out
              have h17 := (HB12.out.block _ (Array.getElem?_eq_some_iff.1 HM.out).1).trans HM.out
              have i0 := cell_blk h11 (i := 0) rfl
              have i1 := cell_blk h11 (i := 1) rfl
              have i2 := cell_blk h11 (i := 2) rfl
              have i3 := cell_blk h11 (i := 3) rfl
              have i4 := cell_blk h11 (i := 4) rfl
              have i5 := cell_blk h11 (i := 5) rfl
              have i6 := cell_blk h11 (i := 6) rfl
              have i7 := cell_blk h11 (i := 7) rfl
              have i8 := cell_blk h11 (i := 8) rfl
              have i9 := cell_blk h11 (i := 9) rfl
              have i10 := cell_blk h11 (i := 10) rfl
              have i11 := cell_blk h11 (i := 11) rfl
              have i12 := cell_blk h11 (i := 12) rfl
              have i13 := cell_blk h11 (i := 13) rfl
              have i14 := cell_blk h11 (i := 14) rfl
              have H17 := Lib.hid h17
              clear h11 h17
              go_upto_region 26 with (fail)
              clear i0 i1 i2 i3 i4 i5 i6 i7 i8 i9 i10 i11 i12 i13 i14
              have h19 : (W12.alloc (.cells (instA i) 61)).heap[W12.heap.size]? = some (.cells (instA i) 61 (0, 0)) := heap_alloc_new _ _
              have HBD := Lib.hid (show Below W12.heap.size W12 (W12.alloc (.cells (instA i) 61)) from (Below.refl _ _).alloc (Nat.le_refl _) _)
              have h17 := (HBD.out.block _ (Array.getElem?_eq_some_iff.1 H17.out).1).trans H17.out
              have hlt17 := (Array.getElem?_eq_some_iff.1 H17.out).1
              have hne1 : b17 ≠ W12.heap.size := by omega
              have hne2 : W12.heap.size ≠ b17 := by omega
              have HS19 := Lib.hid (Nat.le_refl W12.heap.size)
              have H19 := Lib.hid h19
              generalize (W12.alloc (.cells (instA i) 61)) = W13 at *
              obtain ⟨b19, hb19⟩ : ∃ b19, W12.heap.size = b19 := ⟨_, rfl⟩
              rw [hb19] at h19 H19 hne1 hne2 ⊢
              have HE19 := Lib.hid hb19
              clear hb19 hlt17
              have rf19 := fun o => frozen_of_row _ _ o _ _ h19
              have c0 := cell_blk h17 (i := 0) rfl
              have c1 := cell_blk h17 (i := 1) rfl
              have c2 := cell_blk h17 (i := 2) rfl
              have c3 := cell_blk h17 (i := 3) rfl
              have c4 := cell_blk h17 (i := 4) rfl
              have c5 := cell_blk h17 (i := 5) rfl
              have c6 := cell_blk h17 (i := 6) rfl
              have c7 := cell_blk h17 (i := 7) rfl
              have c8 := cell_blk h17 (i := 8) rfl
              have c9 := cell_blk h17 (i := 9) rfl
              have c10 := cell_blk h17 (i := 10) rfl
              have c11 := cell_blk h17 (i := 11) rfl
              have y3 := cell_blk h19 (i := 3) rfl
              have y4 := cell_blk h19 (i := 4) rfl
              have y5 := cell_blk h19 (i := 5) rfl
              have y6 := cell_blk h19 (i := 6) rfl
              have y7 := cell_blk h19 (i := 7) rfl
              have y8 := cell_blk h19 (i := 8) rfl
              have y9 := cell_blk h19 (i := 9) rfl
              have y10 := cell_blk h19 (i := 10) rfl
              have y11 := cell_blk h19 (i := 11) rfl
              have y12 := cell_blk h19 (i := 12) rfl
              have y13 := cell_blk h19 (i := 13) rfl
              have y14 := cell_blk h19 (i := 14) rfl
              clear h17 h19
              go_upto_region 30 with (fail)
              have h19b := set12 i m0 m1 m2 m3 H19.out
              have hb19 := bel12 m0 m1 m2 m3 HBD.out (Nat.le_of_eq HE19.out)
              clear rf19 y3 y4 y5 y6 y7 y8 y9 y10 y11 y12 y13 y14 c0 c1 c2 c3 c4 c5 c6 c7 c8 c9 c10 c11
              generalize ((((((((((((W13.setCell ⟨b19, 3, none⟩ (.int .i64 m0.k)).setCell ⟨b19, 4, none⟩ (.int .i64 m0.n)).setCell ⟨b19, 5, none⟩ (.int .i32 m0.v)).setCell ⟨b19, 6, none⟩ (.int .i64 m1.k)).setCell ⟨b19, 7, none⟩ (.int .i64 m1.n)).setCell ⟨b19, 8, none⟩ (.int .i32 m1.v)).setCell ⟨b19, 9, none⟩ (.int .i64 m2.k)).setCell ⟨b19, 10, none⟩ (.int .i64 m2.n)).setCell ⟨b19, 11, none⟩ (.int .i32 m2.v)).setCell ⟨b19, 12, none⟩ (.int .i64 m3.k)).setCell ⟨b19, 13, none⟩ (.int .i64 m3.n)).setCell ⟨b19, 14, none⟩ (.int .i32 m3.v)) = W19 at *
              have HB19 := Lib.hid hb19
              have HL19 := Lib.hid (HLX.out.on hb19)
              obtain ⟨hr9, hd9, hes9, hl9, he9, hn9, hnl9⟩ := HRR.out
              obtain ⟨hgB, hfz, hzz, hn18, hn7⟩ := HL19.out.inst hnl9 he9 hn9 hkn
              rw [hl9] at hgB
              have d7 := HL19.out.c7
              have y0 := cell_blk h19b (i := 0) rfl
              have y1 := cell_blk h19b (i := 1) rfl
              have y2 := cell_blk h19b (i := 2) rfl
              have y3 := cell_blk h19b (i := 3) rfl
              have y4 := cell_blk h19b (i := 4) rfl
              have y5 := cell_blk h19b (i := 5) rfl
              have y6 := cell_blk h19b (i := 6) rfl
              have y7 := cell_blk h19b (i := 7) rfl
              have y8 := cell_blk h19b (i := 8) rfl
              have y9 := cell_blk h19b (i := 9) rfl
              have y10 := cell_blk h19b (i := 10) rfl
              have y11 := cell_blk h19b (i := 11) rfl
              have y12 := cell_blk h19b (i := 12) rfl
              have y13 := cell_blk h19b (i := 13) rfl
              have y14 := cell_blk h19b (i := 14) rfl
              have HTH := Lib.hid (show W19.there gI (k * 15) 15 from fun j hj => ⟨by obtain ⟨v, e⟩ := hzz j hj; rw [e]; rfl, hfz _⟩)
              have hlx := HLX.out.rows.insts e9 (List.mem_append.2 (.inr List.mem_cons_self))
              rw [he9] at hlx
              have hgl := (hlx.lt gI rfl).2
              have hn19 : b19 ≠ gI := by have := HE19.out; omega
              have key : ∀ x : Addr, x.block ≠ gI → (W19.drew.setCells gI (k * 15) (instA ⟨i.op, i.sub, i.n, m0, m1, m2, m3⟩).toList).cell? x = W19.cell? x := fun x hx => World.cell?_setCells_out gI _ _ _ x (fun e => absurd e hx)
              have HS0 := Lib.hid (show (fun w' => w'.cell? ⟨b18, 7, none⟩ = some (.slice (some ⟨g7, 0, none⟩) nb q7) ∧ w'.cell? ⟨g7, b * 14, none⟩ = some (.slice (some ⟨gI, 0, none⟩) ni cI) ∧ w'.cell? ⟨b19, 0, none⟩ = some (.int .i64 i.op) ∧ w'.cell? ⟨b19, 1, none⟩ = some (.int .i64 i.sub) ∧ w'.cell? ⟨b19, 2, none⟩ = some (.int .i64 i.n) ∧ w'.cell? ⟨b19, 3, none⟩ = some (.int .i64 m0.k) ∧ w'.cell? ⟨b19, 4, none⟩ = some (.int .i64 m0.n) ∧ w'.cell? ⟨b19, 5, none⟩ = some (.int .i32 m0.v) ∧ w'.cell? ⟨b19, 6, none⟩ = some (.int .i64 m1.k) ∧ w'.cell? ⟨b19, 7, none⟩ = some (.int .i64 m1.n) ∧ w'.cell? ⟨b19, 8, none⟩ = some (.int .i32 m1.v) ∧ w'.cell? ⟨b19, 9, none⟩ = some (.int .i64 m2.k) ∧ w'.cell? ⟨b19, 10, none⟩ = some (.int .i64 m2.n) ∧ w'.cell? ⟨b19, 11, none⟩ = some (.int .i32 m2.v) ∧ w'.cell? ⟨b19, 12, none⟩ = some (.int .i64 m3.k) ∧ w'.cell? ⟨b19, 13, none⟩ = some (.int .i64 m3.n) ∧ w'.cell? ⟨b19, 14, none⟩ = some (.int .i32 m3.v)) W19 from ⟨d7, hgB, y0, y1, y2, y3, y4, y5, y6, y7, y8, y9, y10, y11, y12, y13, y14⟩)
              have HKP := Lib.hid (show (fun w' => w'.cell? ⟨b18, 7, none⟩ = some (.slice (some ⟨g7, 0, none⟩) nb q7) ∧ w'.cell? ⟨g7, b * 14, none⟩ = some (.slice (some ⟨gI, 0, none⟩) ni cI) ∧ w'.cell? ⟨b19, 0, none⟩ = some (.int .i64 i.op) ∧ w'.cell? ⟨b19, 1, none⟩ = some (.int .i64 i.sub) ∧ w'.cell? ⟨b19, 2, none⟩ = some (.int .i64 i.n) ∧ w'.cell? ⟨b19, 3, none⟩ = some (.int .i64 m0.k) ∧ w'.cell? ⟨b19, 4, none⟩ = some (.int .i64 m0.n) ∧ w'.cell? ⟨b19, 5, none⟩ = some (.int .i32 m0.v) ∧ w'.cell? ⟨b19, 6, none⟩ = some (.int .i64 m1.k) ∧ w'.cell? ⟨b19, 7, none⟩ = some (.int .i64 m1.n) ∧ w'.cell? ⟨b19, 8, none⟩ = some (.int .i32 m1.v) ∧ w'.cell? ⟨b19, 9, none⟩ = some (.int .i64 m2.k) ∧ w'.cell? ⟨b19, 10, none⟩ = some (.int .i64 m2.n) ∧ w'.cell? ⟨b19, 11, none⟩ = some (.int .i32 m2.v) ∧ w'.cell? ⟨b19, 12, none⟩ = some (.int .i64 m3.k) ∧ w'.cell? ⟨b19, 13, none⟩ = some (.int .i64 m3.n) ∧ w'.cell? ⟨b19, 14, none⟩ = some (.int .i32 m3.v)) (W19.drew.setCells gI (k * 15) (instA ⟨i.op, i.sub, i.n, m0, m1, m2, m3⟩).toList) from ⟨(key _ hn18).trans d7, (key _ hn7).trans hgB, (key _ hn19).trans y0, (key _ hn19).trans y1, (key _ hn19).trans y2, (key _ hn19).trans y3, (key _ hn19).trans y4, (key _ hn19).trans y5, (key _ hn19).trans y6, (key _ hn19).trans y7, (key _ hn19).trans y8, (key _ hn19).trans y9, (key _ hn19).trans y10, (key _ hn19).trans y11, (key _ hn19).trans y12, (key _ hn19).trans y13, (key _ hn19).trans y14⟩)
              have HR9 := Lib.hid (And.intro hd9 (And.intro hes9 (And.intro hl9 (And.intro he9 hn9))))
              clear hb19 h19b hzz hr9 hd9 hes9 hl9 he9 hn9 hnl9 HRR hlx hgl key hn18 hn7 hn19 hgB d7 hfz y0 y1 y2 y3 y4 y5 y6 y7 y8 y9 y10 y11 y12 y13 y14
              refine wp_region_held_drew (S := (fun w' => w'.cell? ⟨b18, 7, none⟩ = some (.slice (some ⟨g7, 0, none⟩) nb q7) ∧ w'.cell? ⟨g7, b * 14, none⟩ = some (.slice (some ⟨gI, 0, none⟩) ni cI) ∧ w'.cell? ⟨b19, 0, none⟩ = some (.int .i64 i.op) ∧ w'.cell? ⟨b19, 1, none⟩ = some (.int .i64 i.sub) ∧ w'.cell? ⟨b19, 2, none⟩ = some (.int .i64 i.n) ∧ w'.cell? ⟨b19, 3, none⟩ = some (.int .i64 m0.k) ∧ w'.cell? ⟨b19, 4, none⟩ = some (.int .i64 m0.n) ∧ w'.cell? ⟨b19, 5, none⟩ = some (.int .i32 m0.v) ∧ w'.cell? ⟨b19, 6, none⟩ = some (.int .i64 m1.k) ∧ w'.cell? ⟨b19, 7, none⟩ = some (.int .i64 m1.n) ∧ w'.cell? ⟨b19, 8, none⟩ = some (.int .i32 m1.v) ∧ w'.cell? ⟨b19, 9, none⟩ = some (.int .i64 m2.k) ∧ w'.cell? ⟨b19, 10, none⟩ = some (.int .i64 m2.n) ∧ w'.cell? ⟨b19, 11, none⟩ = some (.int .i32 m2.v) ∧ w'.cell? ⟨b19, 12, none⟩ = some (.int .i64 m3.k) ∧ w'.cell? ⟨b19, 13, none⟩ = some (.int .i64 m3.n) ∧ w'.cell? ⟨b19, 14, none⟩ = some (.int .i32 m3.v))) (by kernel_rfl) ?_ (fun hHeld => ?_)
              · exact HS0.out
              refine wpAnyH_take (i := 0) (oi := { dst := some 138, op := Op.fieldAddr 36 (Operand.tmp 18) 7, type := 0, pos := "law.go:408", after := #[], guard := none }) (v := ?_) rfl (by kernel_rfl) (by kernel_rfl) (by kernel_rfl) (fun _ _ _ h => h) (Or.inl ⟨by kernel_rfl, ?_⟩) (by assumption) ?_
              rotate_left
              · (intro w hSw; (try dsimp only at hSw); go_simp; (try with_reducible rfl))
              try simp only [Act.put, List.setIfInBounds_toArray, List.set_cons_zero, List.set_cons_succ]
              refine wpAnyH_take (i := 1) (oi := { dst := some 139, op := Op.load 34 (Operand.tmp 138), type := 34, pos := "law.go:408", after := #[{ on := 0, ground := Ground.data }], guard := none }) (v := ?_) rfl (by kernel_rfl) (by kernel_rfl) (by kernel_rfl) (fun _ _ _ h => h) (Or.inl ⟨by kernel_rfl, ?_⟩) (by assumption) ?_
              rotate_left
              · (intro w hSw; (try dsimp only at hSw); go_simp; (try with_reducible rfl))
              try simp only [Act.put, List.setIfInBounds_toArray, List.set_cons_zero, List.set_cons_succ]
              refine wpAnyH_take (i := 2) (oi := { dst := some 140, op := Op.move (Operand.tmp 9), type := 3, pos := "law.go:408", after := #[], guard := none }) (v := ?_) rfl (by kernel_rfl) (by kernel_rfl) (by kernel_rfl) (fun _ _ _ h => h) (Or.inl ⟨by kernel_rfl, ?_⟩) (by assumption) ?_
              rotate_left
              · (intro w hSw; (try dsimp only at hSw); go_simp; (try with_reducible rfl))
              try simp only [Act.put, List.setIfInBounds_toArray, List.set_cons_zero, List.set_cons_succ]
              refine wpAnyH_take (i := 3) (oi := { dst := some 141, op := Op.indexAddr 34 (Operand.tmp 139) (Operand.tmp 140), type := 0, pos := "law.go:408", after := #[{ on := 1, ground := Ground.data }, { on := 2, ground := Ground.data }], guard := none }) (v := ?_) rfl (by kernel_rfl) (by kernel_rfl) (by kernel_rfl) (fun _ _ _ h => h) (Or.inl ⟨by kernel_rfl, ?_⟩) (by assumption) ?_
              rotate_left
              · (intro w hSw; (try dsimp only at hSw); go_simp; (try with_reducible rfl))
              try simp only [Act.put, List.setIfInBounds_toArray, List.set_cons_zero, List.set_cons_succ]
              refine wpAnyH_take (i := 4) (oi := { dst := some 142, op := Op.fieldAddr 55 (Operand.tmp 141) 0, type := 0, pos := "law.go:408", after := #[{ on := 3, ground := Ground.data }], guard := none }) (v := ?_) rfl (by kernel_rfl) (by kernel_rfl) (by kernel_rfl) (fun _ _ _ h => h) (Or.inl ⟨by kernel_rfl, ?_⟩) (by assumption) ?_
              rotate_left
              · (intro w hSw; (try dsimp only at hSw); go_simp; (try with_reducible rfl))
              try simp only [Act.put, List.setIfInBounds_toArray, List.set_cons_zero, List.set_cons_succ]
              refine wpAnyH_take (i := 5) (oi := { dst := some 143, op := Op.load 50 (Operand.tmp 142), type := 50, pos := "law.go:408", after := #[{ on := 4, ground := Ground.data }], guard := none }) (v := ?_) rfl (by kernel_rfl) (by kernel_rfl) (by kernel_rfl) (fun _ _ _ h => h) (Or.inl ⟨by kernel_rfl, ?_⟩) (by assumption) ?_
              rotate_left
              · (intro w hSw; (try dsimp only at hSw); go_simp; (try with_reducible rfl))
              try simp only [Act.put, List.setIfInBounds_toArray, List.set_cons_zero, List.set_cons_succ]
              refine wpAnyH_take (i := 6) (oi := { dst := some 144, op := Op.move (Operand.tmp 10), type := 3, pos := "law.go:408", after := #[], guard := none }) (v := ?_) rfl (by kernel_rfl) (by kernel_rfl) (by kernel_rfl) (fun _ _ _ h => h) (Or.inl ⟨by kernel_rfl, ?_⟩) (by assumption) ?_
              rotate_left
              · (intro w hSw; (try dsimp only at hSw); go_simp; (try with_reducible rfl))
              try simp only [Act.put, List.setIfInBounds_toArray, List.set_cons_zero, List.set_cons_succ]
              refine wpAnyH_take (i := 7) (oi := { dst := some 145, op := Op.load 61 (Operand.tmp 19), type := 61, pos := "law.go:408", after := #[], guard := none }) (v := ?_) rfl (by kernel_rfl) (by kernel_rfl) (by kernel_rfl) (fun _ _ _ h => h) (Or.inl ⟨by kernel_rfl, ?_⟩) (by assumption) ?_
              rotate_left
              · (intro w hSw; (try dsimp only at hSw); go_simp; (try with_reducible rfl))
              try simp only [Act.put, List.setIfInBounds_toArray, List.set_cons_zero, List.set_cons_succ]
              refine wpAnyH_take (i := 8) (oi := { dst := some 146, op := Op.indexAddr 50 (Operand.tmp 143) (Operand.tmp 144), type := 0, pos := "law.go:408", after := #[{ on := 5, ground := Ground.data }, { on := 6, ground := Ground.data }, { on := 0, ground := Ground.phase }, { on := 1, ground := Ground.phase }, { on := 2, ground := Ground.phase }, { on := 3, ground := Ground.phase }, { on := 4, ground := Ground.phase }, { on := 5, ground := Ground.phase }, { on := 6, ground := Ground.phase }, { on := 7, ground := Ground.phase }], guard := none }) (v := ?_) rfl (by kernel_rfl) (by kernel_rfl) (by kernel_rfl) (fun _ _ _ h => h) (Or.inl ⟨by kernel_rfl, ?_⟩) (by assumption) ?_
              rotate_left
              · (intro w hSw; (try dsimp only at hSw); go_simp; (try with_reducible rfl))
              try simp only [Act.put, List.setIfInBounds_toArray, List.set_cons_zero, List.set_cons_succ]
              refine wpAnyH_ready (rs := [9]) (by kernel_rfl) (by simp) ?_
              refine AllReadyH.cons (o := { dst := none, op := Op.store 61 (Operand.tmp 146) (Operand.tmp 145), type := 0, pos := "law.go:408", after := #[{ on := 8, ground := Ground.data }, { on := 7, ground := Ground.data }, { on := 0, ground := Ground.phase }, { on := 1, ground := Ground.phase }, { on := 2, ground := Ground.phase }, { on := 3, ground := Ground.phase }, { on := 4, ground := Ground.phase }, { on := 5, ground := Ground.phase }, { on := 6, ground := Ground.phase }, { on := 7, ground := Ground.phase }], guard := none }) rfl (fun K hK => ?_) ?_
              · (refine step_store_mid rfl 61 _ _ rfl gI (k * 15) (instA ⟨i.op, i.sub, i.n, m0, m1, m2, m3⟩) (by rfl) (by rfl) (fun j hj => HTH.out j hj) (by kernel_rfl) (instA_one _) ?_)
                refine hK.out _ _ ?_ (fun hHeld => ?_)
                · exact HKP.out
                clear hK K
                try simp only [Act.put, List.setIfInBounds_toArray, List.set_cons_zero, List.set_cons_succ]
                refine wpAnyH_done (by kernel_rfl) ?_ _
                have HL20 := Lib.hid (HL19.out.drew.setKc ⟨i.op, i.sub, i.n, m0, m1, m2, m3⟩ HR9.out.1 HR9.out.2.2.2.1 HR9.out.2.2.2.2 hkn)
                have HB20 := Lib.hid (show Below W8.heap.size W8 (W19.drew.setCells gI (k * 15) (instA ⟨i.op, i.sub, i.n, m0, m1, m2, m3⟩).toList) from HB10.out.trans (HL20.out.below.mono HB10.out.size))
                clear hHeld HKP HTH HS0
                have HCF := Lib.hid (fun (V : World) (hV : Below (W19.drew.setCells gI (k * 15) (instA ⟨i.op, i.sub, i.n, m0, m1, m2, m3⟩).toList).heap.size (W19.drew.setCells gI (k * 15) (instA ⟨i.op, i.sub, i.n, m0, m1, m2, m3⟩).toList) V) => frm_call HL20.out HR9.out.2.1 HR9.out.2.2.1 HF.out (by
                  have hz := HF.out.fr b k n x (by rw [HNN.out]; exact hbn) (by rw [HNI.out]; exact hkn) (by
                    rw [HI.out, HO.out]
                    show x ∈ [if o.k = 0 then (⟨1, 0, 0⟩ : OpdV) else ⟨0, 0, 0⟩, ⟨2, C.n 2, 0⟩, ⟨2, -1, 0⟩, ⟨3, 0, 0⟩, ⟨1, 1, 0⟩]
                    rw [HOD.out]
                    exact HX.out)
                  rw [HI.out, HFR.out] at hz
                  exact hz) V hV)
                generalize (W19.drew.setCells gI (k * 15) (instA ⟨i.op, i.sub, i.n, m0, m1, m2, m3⟩).toList) = W20 at *
                have d0 := HL20.out.c0
                have d1 := HL20.out.c1
                have d2 := HL20.out.c2
                have d3 := HL20.out.c3
                have d4 := HL20.out.c4
                have d5 := HL20.out.c5
                have d6 := HL20.out.c6
                have d7 := HL20.out.c7
                go_wp2_with (first
                  | (go_at_call 17; (with_reducible refine (HCF.out _ (Below.refl _ _)).mono ?_); rintro e w21 ⟨rfl, hb21⟩; have HB21 := Lib.hid (HB20.out.trans (hb21.mono HB20.out.size)); clear hb21))
                go_roundw
                case rel => exact ⟨j + 1, by omega, by go_num, HB21⟩
                case measure => simp [intOf]; omega
              exact AllReadyH.nil
            · have hji : ¬ (j : Int) < 5 := by omega
              go_wp2
              go_roundw
              case rel => exact ⟨n + 1, by omega, by go_num, Lib.hid (HBV.out.trans (HBJ.out.mono HBV.out.size))⟩
              case measure => simp [intOf]; omega
      · have hni : ¬ (n : Int) < 4 := by omega
        have h8 := H8.out _ HB.out
        have kc0 := cell_blk h8 (i := 0) rfl
        have kc1 := cell_blk h8 (i := 1) rfl
        have kc2 := cell_blk h8 (i := 2) rfl
        have kc3 := cell_blk h8 (i := 3) rfl
        have kc4 := cell_blk h8 (i := 4) rfl
        have kc5 := cell_blk h8 (i := 5) rfl
        have kc6 := cell_blk h8 (i := 6) rfl
        have kc7 := cell_blk h8 (i := 7) rfl
        clear h8
        go_wp2_with (first
          | (go_at_call 17; (with_reducible refine (HCH.out _ (HBW.out.trans (HB.out.mono HBW.out.size))).mono ?_); rintro e w22 ⟨rfl, hb22⟩; have HB22 := Lib.hid hb22; clear hb22))
        go_ret
        exact ⟨rfl, HB3.out.trans ((HBW.out.trans ((HB.out.trans (HB22.out.mono HB.out.size)).mono HBW.out.size)).mono HB3.out.size)⟩
end Go.Proofs.YtkncilgmlkeifaaGreatDoor
