/-
  Package code: the reader: what part keeps: the reader, the blocks' row, the row of instructions of the last block.
-/
import Derived.Test.YtkncilgmlkeifaaGreatDoorRpa
import Derived.Test.YtkncilgmlkeifaaGreatDoorForm
import Derived.Laws.AppendOwn
set_option linter.unusedVariables false
set_option linter.unusedSimpArgs false
namespace Go.Proofs.YtkncilgmlkeifaaGreatDoor
open Go.ChangeShapes Go.WideShapes Go.ChangeAt Go.RowKit Go.Shelf

def InstV.cells (i : InstV) : List Value := [.int .i64 i.op, .int .i64 i.sub, .int .i64 i.n, .int .i64 i.d.k, .int .i64 i.d.n, .int .i32 i.d.v, .int .i64 i.a.k, .int .i64 i.a.n, .int .i32 i.a.v, .int .i64 i.b.k, .int .i64 i.b.n, .int .i32 i.b.v, .int .i64 i.c.k, .int .i64 i.c.n, .int .i32 i.c.v]
def flatI (is : List InstV) : List Value := is.flatMap InstV.cells
theorem flatI_snoc (is : List InstV) (i : InstV) : flatI (is ++ [i]) = flatI is ++ i.cells := by simp [flatI]
theorem infoInst : (Tryz.prog.info? 61).map (fun i => (i.zero, i.size, i.bytes)) = some (some (.agg #[.int .i64 0, .int .i64 0, .int .i64 0, .int .i64 0, .int .i64 0, .int .i32 0, .int .i64 0, .int .i64 0, .int .i32 0, .int .i64 0, .int .i64 0, .int .i32 0, .int .i64 0, .int .i64 0, .int .i32 0]), 15, 120) := by kernel_rfl
/-- Cells laid anew, read one by one. -/
theorem row_new (w : World) (C : Array Value) (t : TypeId) : ∀ (j : Nat) (u : Value), C.toList[j]? = some u → (w.alloc (.cells C t)).cell? ((⟨w.heap.size, 0, none⟩ : Addr).add j) = some u := by
  intro j u hj
  have h : (w.alloc (.cells C t)).heap[w.heap.size]? = some (.cells C t (0, 0)) := heap_alloc_new _ _
  rw [Array.getElem?_toList] at hj
  have hadd : (⟨w.heap.size, 0, none⟩ : Addr).add j = ⟨w.heap.size, j, none⟩ := by unfold Addr.add; split <;> simp_all
  rw [hadd]
  exact cell_blkN h hj
/-- What part leaves: all but the reader, the blocks' row, and rows of instructions from n1 on. -/
structure ChT (rb bb n1 : Nat) (w W : World) : Prop where
  os : W.os = w.os
  tape : W.tape = w.tape
  output : W.output = w.output
  size : w.heap.size ≤ W.heap.size
  block : ∀ k, k < w.heap.size → k ≠ rb → k ≠ bb → (k < n1 ∨ ∃ C T fr, w.heap[k]? = some (.cells C T fr) ∧ T ≠ 61) → W.heap[k]? = w.heap[k]?
theorem ChT.refl (rb bb n1 : Nat) (w : World) : ChT rb bb n1 w w := ⟨rfl, rfl, rfl, Nat.le_refl _, fun _ _ _ _ _ => rfl⟩
theorem ChT.ch {rb bb n1 : Nat} {w W W1 : World} (h : ChT rb bb n1 w W) (k : Ch rb rb W W1) : ChT rb bb n1 w W1 :=
  ⟨k.os.trans h.os, k.tape.trans h.tape, k.output.trans h.output, Nat.le_trans h.size k.size, fun i hi ha hb hc => (k.block i (Nat.lt_of_lt_of_le hi h.size) ha ha).trans (h.block i hi ha hb hc)⟩
theorem ChT.set {rb bb n1 : Nat} {w W : World} (h : ChT rb bb n1 w W) (o : Nat) (u : Value) : ChT rb bb n1 w (W.setCell ⟨bb, o, none⟩ u) :=
  ⟨h.os, h.tape, h.output, by simpa [World.setCell] using h.size, fun i hi ha hb hc => (Below.heap_setCell W ⟨bb, o, none⟩ u i hb).trans (h.block i hi ha hb hc)⟩
theorem ChT.grown {rb bb n1 : Nat} {w W W1 : World} {v : Value} {n : Nat} {xs : List Value} (h : ChT rb bb n1 w W) (hr : W.ownsRow n1 61 15 v n xs) (hg : W.grownBy W1 v.ownBlock) : ChT rb bb n1 w W1 := by
  refine ⟨hg.os.trans h.os, hg.tape.trans h.tape, hg.output.trans h.output, Nat.le_trans h.size hg.size, fun i hi ha hb hc => ?_⟩
  have h0 := h.block i hi ha hb hc
  refine (hg.block i (Nat.lt_of_lt_of_le hi h.size) (fun e => ?_)).trans h0
  have hlt := hr.lt i e.symm
  rcases hr.2 with ⟨rfl, _⟩ | ⟨g, cap, cur, rfl, hbg, hgg, _⟩
  · cases e
  · simp only [Value.ownBlock] at e
    injection e with e
    subst e
    rcases hc with hc | ⟨C, T, fr, hc, hT⟩
    · omega
    · rw [← h0, hgg] at hc
      injection hc with hc
      injection hc with _ h2 _
      exact hT h2.symm
theorem ChT.below {rb bb n1 B : Nat} {w W : World} (h : ChT rb bb n1 w W) (h1 : B ≤ rb) (h2 : B ≤ bb) (h3 : B ≤ n1) (h4 : B ≤ w.heap.size) : Below B w W :=
  ⟨h.os, h.tape, h.output, h.size, fun i hi => h.block i (by omega) (by omega) (by omega) (.inl (by omega))⟩
theorem row_other {w w' : World} {base e size n k : Nat} {v : Value} {xs : List Value} (h : w.ownsRow base e size v n xs) (hb : ∀ (g : Nat) (C : Array Value) (fr : Nat × Nat), w.heap[g]? = some (Obj.cells C e fr) → w'.heap[g]? = w.heap[g]?) : w'.ownsRow base e size v n xs := by
  refine ⟨h.1, ?_⟩
  rcases h.2 with hn | ⟨g, cap, cur, rfl, hbg, hgg, rest⟩
  · exact .inl hn
  · exact .inr ⟨g, cap, cur, rfl, hbg, (hb _ _ _ hgg).trans hgg, rest⟩
theorem row_type {w : World} {b T n U g : Nat} {f : Nat → Value} {C : Array Value} {fr : Nat × Nat} (h : w.rowIs b T n f) (hg : w.heap[g]? = some (.cells C U fr)) (hT : T ≠ U) : g ≠ b := row_ne h hg hT
structure PS (rb bb n1 N : Nat) (g : Nat → Value) (fs : List ByteArray) (hh : Nat → Value) (vI : Value) (is : List InstV) (w W : World) : Prop where
  rd : ∃ v', W.rowIs rb 166 9 (upd g 8 v') ∧ FSl W v' fs
  blk : W.rowIs bb 55 N hh
  row : W.ownsRow n1 61 15 vI is.length (flatI is)
  ch : ChT rb bb n1 w W
theorem PS.reader {rb bb n1 N : Nat} {g hh : Nat → Value} {fs fs' : List ByteArray} {vI v v' : Value} {is : List InstV} {w W W1 : World} (h : PS rb bb n1 N g fs hh vI is w W)
    (h1 : W1.rowIs rb 166 9 (upd (upd g 8 v) 8 v')) (h2 : FSl W1 v' fs') (h3 : Ch rb rb W W1) : PS rb bb n1 N g fs' hh vI is w W1 := by
  obtain ⟨_, hr, _⟩ := h.rd
  rw [upd_upd] at h1
  refine ⟨⟨v', h1, h2⟩, ?_, ?_, h.ch.ch h3⟩
  · have hne : bb ≠ rb := by
      obtain ⟨c, hc, _⟩ := h.blk
      exact row_ne hr hc (by decide)
    exact h3.row h.blk hne hne
  · refine row_other (k := 0) h.row (fun k C fr hk => ?_)
    have hne : k ≠ rb := row_ne hr hk (by decide)
    exact h3.block k (Array.getElem?_eq_some_iff.1 hk).1 hne hne
theorem PS.on {rb bb n1 N : Nat} {g hh : Nat → Value} {fs : List ByteArray} {vI : Value} {is : List InstV} {w W W1 : World} (h : PS rb bb n1 N g fs hh vI is w W) (hb : Below W.heap.size W W1) : PS rb bb n1 N g fs hh vI is w W1 := by
  obtain ⟨v, h1, h2⟩ := h.rd
  refine h.reader (v := v) (v' := v) ?_ ?_ (Ch.of_below hb)
  · rw [upd_upd]
    exact h1.of_block (hb.block rb h1.lt)
  · exact h2.of_blocks (fun k C fr hk => (hb.block k (Array.getElem?_eq_some_iff.1 hk).1).trans hk)
theorem PS.grown {rb bb n1 N : Nat} {g hh : Nat → Value} {fs : List ByteArray} {vI vI' : Value} {is : List InstV} {i : InstV} {w W W1 : World} (h : PS rb bb n1 N g fs hh vI is w W)
    (hr : W1.ownsRow n1 61 15 vI' (is.length + 1) (flatI is ++ i.cells)) (hg : W.grownBy W1 vI.ownBlock) : PS rb bb n1 N g fs hh vI' (is ++ [i]) w W1 := by
  obtain ⟨v, h1, h2⟩ := h.rd
  have hk : ∀ (k : Nat) (C : Array Value) (T : TypeId) (fr : Nat × Nat), W.heap[k]? = some (.cells C T fr) → T ≠ 61 → W1.heap[k]? = W.heap[k]? := by
    intro k C T fr hk hT
    refine hg.block k (Array.getElem?_eq_some_iff.1 hk).1 (fun e => ?_)
    rcases h.row.2 with ⟨rfl, _⟩ | ⟨g, cap, cur, rfl, hbg, hgg, _⟩
    · cases e
    · simp only [Value.ownBlock] at e
      injection e with e
      subst e
      rw [hgg] at hk
      injection hk with hk
      injection hk with _ h2 _
      exact hT h2.symm
  refine ⟨⟨v, ?_, ?_⟩, ?_, ?_, h.ch.grown h.row hg⟩
  · obtain ⟨c, hc, _⟩ := id h1
    exact h1.of_block (hk _ _ _ _ hc (by decide))
  · exact h2.of_blocks (fun k C fr hkk => (hk _ _ _ _ hkk (by decide)).trans hkk)
  · obtain ⟨c, hc, _⟩ := id h.blk
    exact h.blk.of_block (hk _ _ _ _ hc (by decide))
  · rw [flatI_snoc, List.length_append]
    exact hr
theorem PS.store {rb bb n1 N : Nat} {g hh : Nat → Value} {fs : List ByteArray} {vI : Value} {is : List InstV} {w W : World} (h : PS rb bb n1 N g fs hh vI is w W) (o : Nat) (u : Value) : PS rb bb n1 N g fs (upd hh o u) vI is w (W.setCell ⟨bb, o, none⟩ u) := by
  obtain ⟨v, h1, h2⟩ := h.rd
  have hne : rb ≠ bb := by
    obtain ⟨c, hc, _⟩ := id h1
    exact row_ne h.blk hc (by decide)
  refine ⟨⟨v, h1.setOther (a := ⟨bb, o, none⟩) hne u, h2.setR h.blk (by decide) o u⟩, h.blk.set o u, ?_, h.ch.set o u⟩
  exact row_other (k := 0) h.row (fun k C fr hk => Below.heap_setCell W ⟨bb, o, none⟩ u k (row_ne h.blk hk (by decide)))
/-- The cells of one block of the row. -/
structure BK (hh : Nat → Value) (off : Nat) (vI : Value) (t : TermV) (h : Nat → Value) : Prop where
  i : hh off = vI
  t1 : hh (off + 1) = .int .i64 t.kind
  t2 : hh (off + 2) = .int .i64 t.sub
  t3 : hh (off + 3) = .int .i64 t.d.k
  t4 : hh (off + 4) = .int .i64 t.d.n
  t5 : hh (off + 5) = .int .i32 t.d.v
  t6 : hh (off + 6) = .int .i64 t.a.k
  t7 : hh (off + 7) = .int .i64 t.a.n
  t8 : hh (off + 8) = .int .i32 t.a.v
  t9 : hh (off + 9) = .int .i64 t.b.k
  t10 : hh (off + 10) = .int .i64 t.b.n
  t11 : hh (off + 11) = .int .i32 t.b.v
  t12 : hh (off + 12) = .int .i64 t.t0
  t13 : hh (off + 13) = .int .i64 t.t1
  rest : ∀ j, j < off ∨ off + 14 ≤ j → hh j = h j
theorem BK.seti {hh h : Nat → Value} {off : Nat} {vI : Value} {t : TermV} (k : BK hh off vI t h) (v : Value) : BK (upd hh off v) off v t h := by
  have e : ∀ j, 0 < j → upd hh off v (off + j) = hh (off + j) := fun j hj => by unfold upd; rw [if_neg (by omega)]
  exact ⟨by simp [upd], (e _ (by decide)).trans k.t1, (e _ (by decide)).trans k.t2, (e _ (by decide)).trans k.t3, (e _ (by decide)).trans k.t4, (e _ (by decide)).trans k.t5, (e _ (by decide)).trans k.t6, (e _ (by decide)).trans k.t7, (e _ (by decide)).trans k.t8, (e _ (by decide)).trans k.t9, (e _ (by decide)).trans k.t10, (e _ (by decide)).trans k.t11, (e _ (by decide)).trans k.t12, (e _ (by decide)).trans k.t13, fun j hj => by
    unfold upd
    rw [if_neg (by omega)]
    exact k.rest j hj⟩
def putT (hh : Nat → Value) (off : Nat) (t : TermV) : Nat → Value :=
  upd (upd (upd (upd (upd (upd (upd (upd (upd (upd (upd (upd (upd hh (off + 1) (.int .i64 t.kind)) (off + 2) (.int .i64 t.sub)) (off + 3) (.int .i64 t.d.k)) (off + 4) (.int .i64 t.d.n)) (off + 5) (.int .i32 t.d.v)) (off + 6) (.int .i64 t.a.k)) (off + 7) (.int .i64 t.a.n)) (off + 8) (.int .i32 t.a.v)) (off + 9) (.int .i64 t.b.k)) (off + 10) (.int .i64 t.b.n)) (off + 11) (.int .i32 t.b.v)) (off + 12) (.int .i64 t.t0)) (off + 13) (.int .i64 t.t1)
theorem BK.sett {hh h : Nat → Value} {off : Nat} {vI : Value} {t : TermV} (k : BK hh off vI t h) (t' : TermV) : BK (putT hh off t') off vI t' h := by
  constructor
  case rest =>
    intro j hj
    unfold putT upd
    repeat rw [if_neg (by omega)]
    exact k.rest j hj
  case i =>
    unfold putT upd
    repeat rw [if_neg (by omega)]
    exact k.i
  all_goals simp [putT, upd]
/-- What part makes: the fields left and the instructions, ahead of operation k + 1. -/
def stI (word : ByteArray) (fs : List ByteArray) (is : List InstV) : Nat → List ByteArray × List InstV
  | 0 => (fs, is)
  | k + 1 => let s := stI word fs is k
    if (instF ((k : Int) + 1)).word = word.data then (s.1.drop (cnt (instF ((k : Int) + 1)) 8), s.2 ++ [let q := rdV (instF ((k : Int) + 1)) s.1; ⟨(k : Int) + 1, q.sub, q.n, q.d, q.a, q.b, q.c⟩]) else s
def stT (word : ByteArray) (fs : List ByteArray) (t : TermV) : Nat → List ByteArray × TermV
  | 0 => (fs, t)
  | k + 1 => let s := stT word fs t k
    if (endF ((k : Int) + 1)).word = word.data then (s.1.drop (cnt (endF ((k : Int) + 1)) 8), let q := rdV (endF ((k : Int) + 1)) s.1; ⟨(k : Int) + 1, q.sub, q.d, q.a, q.b, q.t0, q.t1⟩) else s
theorem stI_fs (word : ByteArray) (fs : List ByteArray) (is : List InstV) : ∀ k, ∃ m, (stI word fs is k).1 = fs.drop m
  | 0 => ⟨0, rfl⟩
  | k + 1 => by
    obtain ⟨m, hm⟩ := stI_fs word fs is k
    unfold stI
    simp only
    split
    · exact ⟨m + cnt (instF ((k : Int) + 1)) 8, by simp [hm]⟩
    · exact ⟨m, hm⟩
theorem stI_is (word : ByteArray) (fs : List ByteArray) (is : List InstV) : ∀ k, (stI word fs is k).2.length ≤ is.length + k
  | 0 => Nat.le_refl _
  | k + 1 => by
    have hm := stI_is word fs is k
    unfold stI
    simp only
    split
    · simp; omega
    · omega
theorem stT_fs (word : ByteArray) (fs : List ByteArray) (t : TermV) : ∀ k, ∃ m, (stT word fs t k).1 = fs.drop m
  | 0 => ⟨0, rfl⟩
  | k + 1 => by
    obtain ⟨m, hm⟩ := stT_fs word fs t k
    unfold stT
    simp only
    split
    · exact ⟨m + cnt (endF ((k : Int) + 1)) 8, by simp [hm]⟩
    · exact ⟨m, hm⟩
end Go.Proofs.YtkncilgmlkeifaaGreatDoor
