import Derived.Test.YtkncilgmlkeifaaGreatDoorRpa
import Derived.Test.YtkncilgmlkeifaaGreatDoorForm
import Derived.Laws.AppendOwn
import Derived.WalkSpells
import Derived.WalkMore
import Derived.Deep.CutRange
import Derived.Deep.RegionLaw
import Derived.Deep.AppendLies
/-
  Package code: the reader: what part keeps: the reader, the blocks' row, the row of instructions of the last block.
-/
set_option linter.unusedVariables false
set_option linter.unusedSimpArgs false
namespace Go.Proofs.YtkncilgmlkeifaaGreatDoor
open Go.ChangeShapes Go.WideShapes Go.ChangeAt Go.RowKit Go.Shelf
def InstV.cells (i : InstV) : List Value := [.int .i64 i.op, .int .i64 i.sub, .int .i64 i.n, .int .i64 i.d.k, .int .i64 i.d.n, .int .i32 i.d.v, .int .i64 i.a.k, .int .i64 i.a.n, .int .i32 i.a.v, .int .i64 i.b.k, .int .i64 i.b.n, .int .i32 i.b.v, .int .i64 i.c.k, .int .i64 i.c.n, .int .i32 i.c.v]
def flatI (is : List InstV) : List Value := is.flatMap InstV.cells
theorem flatI_snoc (is : List InstV) (i : InstV) : flatI (is ++ [i]) = flatI is ++ i.cells := by simp [flatI]
theorem infoInst : (Tryz.prog.info? 61).map (fun i => (i.zero, i.size, i.bytes)) = some (some (.agg #[.int .i64 0, .int .i64 0, .int .i64 0, .int .i64 0, .int .i64 0, .int .i32 0, .int .i64 0, .int .i64 0, .int .i32 0, .int .i64 0, .int .i64 0, .int .i32 0, .int .i64 0, .int .i64 0, .int .i32 0]), 15, 120) := by kernel_rfl
theorem row_new (w : World) (C : Array Value) (t : TypeId) : ∀ (j : Nat) (u : Value), C.toList[j]? = some u -> (w.alloc (.cells C t)).cell? ((⟨w.heap.size, 0, none⟩ : Addr).add j) = some u := by
 intro j u hj
 have h : (w.alloc (.cells C t)).heap[w.heap.size]? = some (.cells C t (0, 0)) := heap_alloc_new _ _
 rw [Array.getElem?_toList] at hj
 have hadd : (⟨w.heap.size, 0, none⟩ : Addr).add j = ⟨w.heap.size, j, none⟩ := by unfold Addr.add; split <;> simp_all
 rw [hadd]
 exact cell_blkN h hj
structure ChT (rb bb n1 : Nat) (w W : World) : Prop where
 os : W.os = w.os
 tape : W.tape = w.tape
 output : W.output = w.output
 size : w.heap.size <= W.heap.size
 block : ∀ k, k < w.heap.size -> k ≠ rb -> k ≠ bb -> (k < n1 \/ ∃ C T fr, w.heap[k]? = some (.cells C T fr) /\ T ≠ 61) -> W.heap[k]? = w.heap[k]?
theorem ChT.refl (rb bb n1 : Nat) (w : World) : ChT rb bb n1 w w := ⟨rfl, rfl, rfl, Nat.le_refl _, fun _ _ _ _ _ => rfl⟩
theorem ChT.ch {rb bb n1 : Nat} {w W W1 : World} (h : ChT rb bb n1 w W) (k : Ch rb rb W W1) : ChT rb bb n1 w W1 :=
 ⟨k.os.trans h.os, k.tape.trans h.tape, k.output.trans h.output, Nat.le_trans h.size k.size, fun i hi ha hb hc => (k.block i (Nat.lt_of_lt_of_le hi h.size) ha ha).trans (h.block i hi ha hb hc)⟩
theorem ChT.set {rb bb n1 : Nat} {w W : World} (h : ChT rb bb n1 w W) (o : Nat) (u : Value) : ChT rb bb n1 w (W.setCell ⟨bb, o, none⟩ u) :=
 ⟨h.os, h.tape, h.output, by simpa [World.setCell] using h.size, fun i hi ha hb hc => (Below.heap_setCell W ⟨bb, o, none⟩ u i hb).trans (h.block i hi ha hb hc)⟩
theorem ChT.grown {rb bb n1 : Nat} {w W W1 : World} {v : Value} {n : Nat} {xs : List Value} (h : ChT rb bb n1 w W) (hr : W.ownsRow n1 61 15 v n xs) (hg : W.grownBy W1 v.ownBlock) : ChT rb bb n1 w W1 := by
 refine ⟨hg.os.trans h.os, hg.tape.trans h.tape, hg.output.trans h.output, Nat.le_trans h.size hg.size, fun i hi ha hb hc => ?_⟩
 have h0 := h.block i hi ha hb hc
 refine (hg.block i (Nat.lt_of_lt_of_le hi h.size) (fun e => ?_)).trans h0
 have hlt := hr.lt i e.symm
 rcases hr.2 with ⟨rfl, _⟩ | ⟨g, cap, cur, rfl, hbg, hgg, _⟩
 . cases e
 . simp only [Value.ownBlock] at e
   injection e with e
   subst e
   rcases hc with hc | ⟨C, T, fr, hc, hT⟩
   . omega
   . rw [<- h0, hgg] at hc
     injection hc with hc
     injection hc with _ h2 _
     exact hT h2.symm
theorem ChT.below {rb bb n1 B : Nat} {w W : World} (h : ChT rb bb n1 w W) (h1 : B <= rb) (h2 : B <= bb) (h3 : B <= n1) (h4 : B <= w.heap.size) : Below B w W :=
 ⟨h.os, h.tape, h.output, h.size, fun i hi => h.block i (by omega) (by omega) (by omega) (.inl (by omega))⟩
theorem row_other {w w' : World} {base e size n k : Nat} {v : Value} {xs : List Value} (h : w.ownsRow base e size v n xs) (hb : ∀ (g : Nat) (C : Array Value) (fr : Nat × Nat), w.heap[g]? = some (Obj.cells C e fr) -> w'.heap[g]? = w.heap[g]?) : w'.ownsRow base e size v n xs := by
 refine ⟨h.1, ?_⟩
 rcases h.2 with hn | ⟨g, cap, cur, rfl, hbg, hgg, rest⟩
 . exact .inl hn
 . exact .inr ⟨g, cap, cur, rfl, hbg, (hb _ _ _ hgg).trans hgg, rest⟩
structure PS (rb bb n1 N : Nat) (g : Nat -> Value) (fs : List ByteArray) (hh : Nat -> Value) (vI : Value) (is : List InstV) (w W : World) : Prop where
 rd : ∃ v', W.rowIs rb 166 9 (upd g 8 v') /\ FSl W v' fs
 blk : W.rowIs bb 55 N hh
 row : W.ownsRow n1 61 15 vI is.length (flatI is)
 ch : ChT rb bb n1 w W
theorem PS.reader {rb bb n1 N : Nat} {g hh : Nat -> Value} {fs fs' : List ByteArray} {vI v v' : Value} {is : List InstV} {w W W1 : World} (h : PS rb bb n1 N g fs hh vI is w W)
 (h1 : W1.rowIs rb 166 9 (upd (upd g 8 v) 8 v')) (h2 : FSl W1 v' fs') (h3 : Ch rb rb W W1) : PS rb bb n1 N g fs' hh vI is w W1 := by
 obtain ⟨_, hr, _⟩ := h.rd
 rw [upd_upd] at h1
 refine ⟨⟨v', h1, h2⟩, ?_, ?_, h.ch.ch h3⟩
 . have hne : bb ≠ rb := by
    obtain ⟨c, hc, _⟩ := h.blk
    exact row_ne hr hc (by decide)
   exact h3.row h.blk hne hne
 . refine row_other (k := 0) h.row (fun k C fr hk => ?_)
   have hne : k ≠ rb := row_ne hr hk (by decide)
   exact h3.block k (Array.getElem?_eq_some_iff.1 hk).1 hne hne
theorem PS.on {rb bb n1 N : Nat} {g hh : Nat -> Value} {fs : List ByteArray} {vI : Value} {is : List InstV} {w W W1 : World} (h : PS rb bb n1 N g fs hh vI is w W) (hb : Below W.heap.size W W1) : PS rb bb n1 N g fs hh vI is w W1 := by
 obtain ⟨v, h1, h2⟩ := h.rd
 refine h.reader (v := v) (v' := v) ?_ ?_ (Ch.of_below hb)
 . rw [upd_upd]
   exact h1.of_block (hb.block rb h1.lt)
 . exact h2.of_blocks (fun k C fr hk => (hb.block k (Array.getElem?_eq_some_iff.1 hk).1).trans hk)
theorem PS.grown {rb bb n1 N : Nat} {g hh : Nat -> Value} {fs : List ByteArray} {vI vI' : Value} {is : List InstV} {i : InstV} {w W W1 : World} (h : PS rb bb n1 N g fs hh vI is w W)
 (hr : W1.ownsRow n1 61 15 vI' (is.length + 1) (flatI is ++ i.cells)) (hg : W.grownBy W1 vI.ownBlock) : PS rb bb n1 N g fs hh vI' (is ++ [i]) w W1 := by
 obtain ⟨v, h1, h2⟩ := h.rd
 have hk : ∀ (k : Nat) (C : Array Value) (T : TypeId) (fr : Nat × Nat), W.heap[k]? = some (.cells C T fr) -> T ≠ 61 -> W1.heap[k]? = W.heap[k]? := by
  intro k C T fr hk hT
  refine hg.block k (Array.getElem?_eq_some_iff.1 hk).1 (fun e => ?_)
  rcases h.row.2 with ⟨rfl, _⟩ | ⟨g, cap, cur, rfl, hbg, hgg, _⟩
  . cases e
  . simp only [Value.ownBlock] at e
    injection e with e
    subst e
    rw [hgg] at hk
    injection hk with hk
    injection hk with _ h2 _
    exact hT h2.symm
 refine ⟨⟨v, ?_, ?_⟩, ?_, ?_, h.ch.grown h.row hg⟩
 . obtain ⟨c, hc, _⟩ := id h1
   exact h1.of_block (hk _ _ _ _ hc (by decide))
 . exact h2.of_blocks (fun k C fr hkk => (hk _ _ _ _ hkk (by decide)).trans hkk)
 . obtain ⟨c, hc, _⟩ := id h.blk
   exact h.blk.of_block (hk _ _ _ _ hc (by decide))
 . rw [flatI_snoc, List.length_append]
   exact hr
theorem PS.store {rb bb n1 N : Nat} {g hh : Nat -> Value} {fs : List ByteArray} {vI : Value} {is : List InstV} {w W : World} (h : PS rb bb n1 N g fs hh vI is w W) (o : Nat) (u : Value) : PS rb bb n1 N g fs (upd hh o u) vI is w (W.setCell ⟨bb, o, none⟩ u) := by
 obtain ⟨v, h1, h2⟩ := h.rd
 have hne : rb ≠ bb := by
  obtain ⟨c, hc, _⟩ := id h1
  exact row_ne h.blk hc (by decide)
 refine ⟨⟨v, h1.setOther (a := ⟨bb, o, none⟩) hne u, h2.setR h.blk (by decide) o u⟩, h.blk.set o u, ?_, h.ch.set o u⟩
 exact row_other (k := 0) h.row (fun k C fr hk => Below.heap_setCell W ⟨bb, o, none⟩ u k (row_ne h.blk hk (by decide)))
structure BK (hh : Nat -> Value) (off : Nat) (vI : Value) (t : TermV) (h : Nat -> Value) : Prop where
 i : hh off = vI
 t1 : hh (off + 1) = .int .i64 t.kind
 t2 : hh (off + 2) = .int .i64 t.sub
 t3 : hh (off + 3) = .int .i64 t.d.k
 t4 : hh (off + 4) = .int .i64 t.d.n
 t5 : hh (off + 5) = .int .i32 t.d.v
 t6 : hh (off + 6) = .int .i64 t.a.k
 t7 : hh (off + 7) = .int .i64 t.a.n
 t8 : hh (off + 8) = .int .i32 t.a.v
 t9 : hh (off + 9) = .int .i64 t.b.k
 t10 : hh (off + 10) = .int .i64 t.b.n
 t11 : hh (off + 11) = .int .i32 t.b.v
 t12 : hh (off + 12) = .int .i64 t.t0
 t13 : hh (off + 13) = .int .i64 t.t1
 rest : ∀ j, j < off \/ off + 14 <= j -> hh j = h j
theorem BK.seti {hh h : Nat -> Value} {off : Nat} {vI : Value} {t : TermV} (k : BK hh off vI t h) (v : Value) : BK (upd hh off v) off v t h := by
 have e : ∀ j, 0 < j -> upd hh off v (off + j) = hh (off + j) := fun j hj => by unfold upd; rw [if_neg (by omega)]
 exact ⟨by simp [upd], (e _ (by decide)).trans k.t1, (e _ (by decide)).trans k.t2, (e _ (by decide)).trans k.t3, (e _ (by decide)).trans k.t4, (e _ (by decide)).trans k.t5, (e _ (by decide)).trans k.t6, (e _ (by decide)).trans k.t7, (e _ (by decide)).trans k.t8, (e _ (by decide)).trans k.t9, (e _ (by decide)).trans k.t10, (e _ (by decide)).trans k.t11, (e _ (by decide)).trans k.t12, (e _ (by decide)).trans k.t13, fun j hj => by
  unfold upd
  rw [if_neg (by omega)]
  exact k.rest j hj⟩
def putT (hh : Nat -> Value) (off : Nat) (t : TermV) : Nat -> Value :=
 upd (upd (upd (upd (upd (upd (upd (upd (upd (upd (upd (upd (upd hh (off + 1) (.int .i64 t.kind)) (off + 2) (.int .i64 t.sub)) (off + 3) (.int .i64 t.d.k)) (off + 4) (.int .i64 t.d.n)) (off + 5) (.int .i32 t.d.v)) (off + 6) (.int .i64 t.a.k)) (off + 7) (.int .i64 t.a.n)) (off + 8) (.int .i32 t.a.v)) (off + 9) (.int .i64 t.b.k)) (off + 10) (.int .i64 t.b.n)) (off + 11) (.int .i32 t.b.v)) (off + 12) (.int .i64 t.t0)) (off + 13) (.int .i64 t.t1)
theorem BK.sett {hh h : Nat -> Value} {off : Nat} {vI : Value} {t : TermV} (k : BK hh off vI t h) (t' : TermV) : BK (putT hh off t') off vI t' h := by
 constructor
 case rest =>
  intro j hj
  unfold putT upd
  repeat rw [if_neg (by omega)]
  exact k.rest j hj
 case i =>
  unfold putT upd
  repeat rw [if_neg (by omega)]
  exact k.i
 all_goals simp [putT, upd]
def stI (word : ByteArray) (fs : List ByteArray) (is : List InstV) : Nat -> List ByteArray × List InstV
 | 0 => (fs, is)
 | k + 1 => let s := stI word fs is k
  if (instF ((k : Int) + 1)).word = word.data then (s.1.drop (cnt (instF ((k : Int) + 1)) 8), s.2 ++ [let q := rdV (instF ((k : Int) + 1)) s.1; ⟨(k : Int) + 1, q.sub, q.n, q.d, q.a, q.b, q.c⟩]) else s
def stT (word : ByteArray) (fs : List ByteArray) (t : TermV) : Nat -> List ByteArray × TermV
 | 0 => (fs, t)
 | k + 1 => let s := stT word fs t k
  if (endF ((k : Int) + 1)).word = word.data then (s.1.drop (cnt (endF ((k : Int) + 1)) 8), let q := rdV (endF ((k : Int) + 1)) s.1; ⟨(k : Int) + 1, q.sub, q.d, q.a, q.b, q.t0, q.t1⟩) else s
theorem stI_fs (word : ByteArray) (fs : List ByteArray) (is : List InstV) : ∀ k, ∃ m, (stI word fs is k).1 = fs.drop m
 | 0 => ⟨0, rfl⟩
 | k + 1 => by
  obtain ⟨m, hm⟩ := stI_fs word fs is k
  unfold stI
  simp only
  split
  . exact ⟨m + cnt (instF ((k : Int) + 1)) 8, by simp [hm]⟩
  . exact ⟨m, hm⟩
theorem stI_is (word : ByteArray) (fs : List ByteArray) (is : List InstV) : ∀ k, (stI word fs is k).2.length <= is.length + k
 | 0 => Nat.le_refl _
 | k + 1 => by
  have hm := stI_is word fs is k
  unfold stI
  simp only
  split
  . simp; omega
  . omega
theorem stT_fs (word : ByteArray) (fs : List ByteArray) (t : TermV) : ∀ k, ∃ m, (stT word fs t k).1 = fs.drop m
 | 0 => ⟨0, rfl⟩
 | k + 1 => by
  obtain ⟨m, hm⟩ := stT_fs word fs t k
  unfold stT
  simp only
  split
  . exact ⟨m + cnt (endF ((k : Int) + 1)) 8, by simp [hm]⟩
  . exact ⟨m, hm⟩
theorem step_call {P : Program} {ops : Array Oper} {o : Oper} {a : Act} {w : World} {K : Act -> World -> Prop} {Q : Exit -> Act -> World -> Prop} {E : Prop} (hgd : o.guard = none) (f : Nat) (xs : List Operand) (ts : Array TypeId)
 (ho : o.op = .call { callee := .value (.func f), args := xs.toArray, argTypes := ts }) (eg : ∀ args w, (callFunc f args).run P w = .ok (.enter f args) w) (vs : List Value) (hv : xs.map a.eval = vs)
 (R : Value -> World -> Prop) (h : Calls P f vs.toArray w fun e w' => ∃ u, e = .returned u /\ R u w') (hK : ∀ u w', R u w' -> K (a.put o.dst u) w') :
 if Region.wanted o (yielded ops a.tmps) = true then Oper.wp P o a w K Q else E := by
 have hw : Region.wanted o (yielded ops a.tmps) = true := by simp [Region.wanted, hgd]
 rw [if_pos hw]
 unfold Oper.wp execOp
 simp [ho, resolve, invoke, hv, Act.eval, eg, go_sem]
 exact h.mono fun e w'' ⟨u, he, hR⟩ => by subst he; exact hK u w'' hR
theorem step_append_own {P : Program} {ops : Array Oper} {o : Oper} {a : Act} {w : World} {K : Act -> World -> Prop} {Q : Exit -> Act -> World -> Prop} {E : Prop} (hgd : o.guard = none) (s x : Operand) (t : TypeId)
 (ho : o.op = .call { callee := .builtin .append, args := #[s, x], argTypes := #[t, t] })
 (base : Nat) (e : TypeId) (i : TypeInfo) (z : Value) (size bytes : Nat) (ht : P.underlying t = some (.slice e)) (hi : P.info? e = some i) (hz : i.zero = some z)
 (hsize : i.size = size) (hby : i.bytes = bytes) (hzs : z.cells.size = size) (hsz : 0 < size)
 (v : Value) (n : Nat) (xs : List Value) (hs : a.eval s = v) (hown : w.ownsRow base e size v n xs)
 (ad : Addr) (m c : Nat) (news : List Value) (hx : a.eval x = .slice (some ad) m c) (hl : news.length = m * size) (hnews : ∀ j u, news[j]? = some u -> w.cell? (ad.add j) = some u) (h1 : ∀ u ∈ news, u.oneCell' = true)
 (h63 : n + m <= maxLen) (hbytes : (n + m) * bytes <= 140737488355328) (hbase : base <= w.heap.size)
 (h : ∀ v' w', w'.ownsRow base e size v' (n + m) (xs ++ news) -> w.grownBy w' v.ownBlock -> (v' = .slice none 0 0 ↔ v = .slice none 0 0 /\ m = 0) -> K (a.put o.dst v') w') :
 if Region.wanted o (yielded ops a.tmps) = true then Oper.wp P o a w K Q else E := by
 have hw : Region.wanted o (yielded ops a.tmps) = true := by simp [Region.wanted, hgd]
 rw [if_pos hw]
 exact wp_append_own w s x t ho base e i z size bytes ht hi hz hsize hby hzs hsz v n xs hs hown ad m c news hx hl hnews h1 h63 hbytes hbase h
theorem PS.cells13 {rb bb n1 N off : Nat} {g hh : Nat -> Value} {fs : List ByteArray} {vI : Value} {is : List InstV} {w W : World} (h : PS rb bb n1 N g fs hh vI is w W) (ho : off + 14 <= N) :
 W.cell? ⟨bb, off + 1, none⟩ = some (hh (off + 1)) /\ W.cell? ⟨bb, off + 2, none⟩ = some (hh (off + 2)) /\ W.cell? ⟨bb, off + 3, none⟩ = some (hh (off + 3)) /\ W.cell? ⟨bb, off + 4, none⟩ = some (hh (off + 4)) /\ W.cell? ⟨bb, off + 5, none⟩ = some (hh (off + 5)) /\ W.cell? ⟨bb, off + 6, none⟩ = some (hh (off + 6)) /\ W.cell? ⟨bb, off + 7, none⟩ = some (hh (off + 7)) /\ W.cell? ⟨bb, off + 8, none⟩ = some (hh (off + 8)) /\ W.cell? ⟨bb, off + 9, none⟩ = some (hh (off + 9)) /\ W.cell? ⟨bb, off + 10, none⟩ = some (hh (off + 10)) /\ W.cell? ⟨bb, off + 11, none⟩ = some (hh (off + 11)) /\ W.cell? ⟨bb, off + 12, none⟩ = some (hh (off + 12)) /\ W.cell? ⟨bb, off + 13, none⟩ = some (hh (off + 13)) :=
 ⟨h.blk.cell (by omega), h.blk.cell (by omega), h.blk.cell (by omega), h.blk.cell (by omega), h.blk.cell (by omega), h.blk.cell (by omega), h.blk.cell (by omega), h.blk.cell (by omega), h.blk.cell (by omega), h.blk.cell (by omega), h.blk.cell (by omega), h.blk.cell (by omega), h.blk.cell (by omega)⟩
theorem PS.store13 {rb bb n1 N off : Nat} {g hh : Nat -> Value} {fs : List ByteArray} {vI : Value} {is : List InstV} {w W : World} (h : PS rb bb n1 N g fs hh vI is w W) (t : TermV) :
 PS rb bb n1 N g fs (putT hh off t) vI is w (((((((((((((W.setCell ⟨bb, off + 1, none⟩ (.int .i64 t.kind)).setCell ⟨bb, off + 1 + 1, none⟩ (.int .i64 t.sub)).setCell ⟨bb, off + 1 + 2, none⟩ (.int .i64 t.d.k)).setCell ⟨bb, off + 1 + 3, none⟩ (.int .i64 t.d.n)).setCell ⟨bb, off + 1 + 4, none⟩ (.int .i32 t.d.v)).setCell ⟨bb, off + 1 + 5, none⟩ (.int .i64 t.a.k)).setCell ⟨bb, off + 1 + 6, none⟩ (.int .i64 t.a.n)).setCell ⟨bb, off + 1 + 7, none⟩ (.int .i32 t.a.v)).setCell ⟨bb, off + 1 + 8, none⟩ (.int .i64 t.b.k)).setCell ⟨bb, off + 1 + 9, none⟩ (.int .i64 t.b.n)).setCell ⟨bb, off + 1 + 10, none⟩ (.int .i32 t.b.v)).setCell ⟨bb, off + 1 + 11, none⟩ (.int .i64 t.t0)).setCell ⟨bb, off + 1 + 12, none⟩ (.int .i64 t.t1)) :=
 (((((((((((((h.store (off + 1) (.int .i64 t.kind)).store (off + 2) (.int .i64 t.sub)).store (off + 3) (.int .i64 t.d.k)).store (off + 4) (.int .i64 t.d.n)).store (off + 5) (.int .i32 t.d.v)).store (off + 6) (.int .i64 t.a.k)).store (off + 7) (.int .i64 t.a.n)).store (off + 8) (.int .i32 t.a.v)).store (off + 9) (.int .i64 t.b.k)).store (off + 10) (.int .i64 t.b.n)).store (off + 11) (.int .i32 t.b.v)).store (off + 12) (.int .i64 t.t0)).store (off + 13) (.int .i64 t.t1))
theorem instF_tg (op : Int) : 0 <= (instF op).targets /\ (instF op).targets <= 2 := by
 have hop : op = 1 \/ op = 2 \/ op = 3 \/ op = 4 \/ op = 5 \/ op = 6 \/ op = 7 \/ op = 8 \/ op = 9 \/ op = 10 \/ op = 11 \/ op = 12 \/ (op < 1 \/ 12 < op) := by omega
 rcases hop with rfl | rfl | rfl | rfl | rfl | rfl | rfl | rfl | rfl | rfl | rfl | rfl | h
 all_goals first | decide | skip
 unfold instF
 repeat rw [if_neg (by omega)]
 decide
theorem endF_tg (op : Int) : 0 <= (endF op).targets /\ (endF op).targets <= 2 := by
 have hop : op = 1 \/ op = 2 \/ op = 3 \/ op = 4 \/ op = 5 \/ (op < 1 \/ 5 < op) := by omega
 rcases hop with rfl | rfl | rfl | rfl | rfl | h
 all_goals first | decide | skip
 unfold endF
 repeat rw [if_neg (by omega)]
 decide
theorem bs_ne {a b : ByteArray} (h : a ≠ b) : (a.toList == b.toList) = false := by
 rw [beq_eq_false_iff_ne]
 intro e
 rw [ByteArray.toList_eq, ByteArray.toList_eq] at e
 exact h (ByteArray.ext (Array.toList_inj.1 e))
theorem PS.drew {rb bb n1 N : Nat} {g hh : Nat -> Value} {fs : List ByteArray} {vI : Value} {is : List InstV} {w W : World} (h : PS rb bb n1 N g fs hh vI is w W) : PS rb bb n1 N g fs hh vI is w W.drew :=
 ⟨h.rd, h.blk, h.row, ⟨h.ch.os, h.ch.tape, h.ch.output, h.ch.size, h.ch.block⟩⟩
set_option maxRecDepth 100000 in
set_option maxHeartbeats 8000000 in
theorem part_any (rb bb off n1 N : Nat) (g h : Nat -> Value) (fs : List ByteArray) (vI : Value) (is : List InstV) (t : TermV) (word : ByteArray) (w w0 : World) (hoff : off + 14 <= N) (hP : PS rb bb n1 N g fs h vI is w w) (hB : BK h off vI t h)
 (hl : fs.length <= 1000000) (hi : is.length <= 1000000) (hsz : ∀ s, s ∈ fs -> s.size <= 281474976710656) (hE : EnvP w0) (hW : Below w0.heap.size w0 w) (hb : w0.heap.size <= rb) (hbb : w0.heap.size <= bb) (hn1 : w0.heap.size <= n1) (hn1' : n1 <= w.heap.size) :
 Calls Tryz.prog 140 #[.pointer (some ⟨rb, 0, none⟩), .pointer (some ⟨bb, off, none⟩), .string word] w fun e w' => (∃ v, e = .returned v) /\ ∃ vI' hh, PS rb bb n1 N g (stT word (stI word fs is 12).1 t 5).1 hh vI' (stI word fs is 12).2 w w' /\ BK hh off vI' (stT word (stI word fs is 12).1 t 5).2 h := by
 obtain ⟨i0, hi0, hz0, hz1, hz2⟩ := info_parts infoInst
 have HPT := lh (fun (f : FormV) (hf : 0 <= f.targets /\ f.targets <= 2) (fs' : List ByteArray) (hm : ∃ m, fs' = fs.drop m) (hh : Nat -> Value) (vJ : Value) (js : List InstV) (W : World) (h1 : PS rb bb n1 N g fs' hh vJ js w W) =>
  (show Calls Tryz.prog 162 #[.pointer (some ⟨rb, 0, none⟩), f.val] W fun e w' => e = .returned (rdV f fs').val /\ PS rb bb n1 N g (fs'.drop (cnt f 8)) hh vJ js w w' from by
   obtain ⟨m, hm⟩ := hm
   obtain ⟨v, h2, h3⟩ := h1.rd
   refine (rparts_any rb _ f fs' W w0 hf h2 (by simpa [upd] using h3) (by rw [hm]; simp; omega) (fun s hs => hsz s (by rw [hm] at hs; exact List.mem_of_mem_drop hs)) hE (hW.trans ((h1.ch.below hb hbb hn1 hW.size))) hb).mono ?_
   rintro e w' ⟨rfl, v', h4, h5, h6⟩
   exact ⟨rfl, h1.reader h4 h5 h6⟩))
 have HIF := lh (fun (op : Int) (W : World) => instForm_any op W)
 have HEF := lh (fun (op : Int) (W : World) => endForm_any op W)
 have HP0 := lh hP
 have HB0 := lh hB
 clear hP hB hl hsz hE hW hb hbb hn1
 obtain ⟨S12, hS12⟩ : ∃ S, stI word fs is 12 = S := ⟨_, rfl⟩
 rw [hS12]
 have HS12 := lh hS12
 clear hS12
 go_enter Tryz.func140, Tryz.ntmps140
 go_wp2
 go_loopg [6] 12 (fun x z6 wx => ∃ k : Nat, k + x = 12 /\ z6 = .int .i64 ((k : Int) + 1) /\ ∃ vJ hh, Hid (PS rb bb n1 N g (stI word fs is k).1 hh vJ (stI word fs is k).2 w wx) /\ Hid (BK hh off vJ t h))
 case atStart => exact ⟨0, rfl, rfl, vI, h, HP0, HB0⟩
 case round =>
  obtain ⟨k, hk, rfl, vJ, hh, HP, HB⟩ := hrel
  cases gk with
  | zero =>
   obtain rfl : k = 12 := by omega
   obtain ⟨m12, hm12⟩ := stI_fs word fs is 12
   rw [HS12.out] at HP hm12
   have HM12 := lh hm12
   clear hm12
   obtain ⟨wo, rfl⟩ : ∃ wo : World, wo = wr := ⟨_, rfl⟩
   go_wp2
   go_loopg [8] 5 (fun x z8 wx => ∃ k : Nat, k + x = 5 /\ z8 = .int .i64 ((k : Int) + 1) /\ ∃ hh, Hid (PS rb bb n1 N g (stT word S12.1 t k).1 hh vJ S12.2 w wx) /\ Hid (BK hh off vJ (stT word S12.1 t k).2 h))
   case atStart => exact ⟨0, rfl, rfl, hh, HP, HB⟩
   case round =>
    clear HP HB
    obtain ⟨k, hk, rfl, hh, HP, HB⟩ := hrel
    cases gk with
    | zero =>
     obtain rfl : k = 5 := by omega
     go_wp2
     go_end0
     exact ⟨⟨_, rfl⟩, _, hh, HP.out, HB.out⟩
    | succ x =>
     have HF := lh (fun (W : World) => HEF.out ((k : Int) + 1) W)
     have HS : Hid (stT word S12.1 t (k + 1) = if (endF ((k : Int) + 1)).word = word.data then ((stT word S12.1 t k).1.drop (cnt (endF ((k : Int) + 1)) 8), (⟨(k : Int) + 1, (rdV (endF ((k : Int) + 1)) (stT word S12.1 t k).1).sub, (rdV (endF ((k : Int) + 1)) (stT word S12.1 t k).1).d, (rdV (endF ((k : Int) + 1)) (stT word S12.1 t k).1).a, (rdV (endF ((k : Int) + 1)) (stT word S12.1 t k).1).b, (rdV (endF ((k : Int) + 1)) (stT word S12.1 t k).1).t0, (rdV (endF ((k : Int) + 1)) (stT word S12.1 t k).1).t1⟩ : TermV)) else stT word S12.1 t k) := lh rfl
     have HQ := lh (fun W hh vJ h1 => HPT.out (endF ((k : Int) + 1)) (endF_tg _) (stT word S12.1 t k).1 (by obtain ⟨m, hm⟩ := stT_fs word S12.1 t k; exact ⟨m12 + m, by rw [hm, HM12.out]; simp⟩) hh vJ S12.2 W h1)
     obtain ⟨V, hV⟩ : ∃ V, stT word S12.1 t k = V := ⟨_, rfl⟩
     obtain ⟨r, hr⟩ : ∃ r, rdV (endF ((k : Int) + 1)) V.1 = r := ⟨_, rfl⟩
     have HRI := lh (fun W => rend_any r ((k : Int) + 1) W)
     rw [hV] at HS HP HQ HB
     rw [hr] at HS HQ
     obtain ⟨i, hii⟩ : ∃ i, (⟨(k : Int) + 1, r.sub, r.d, r.a, r.b, r.t0, r.t1⟩ : TermV) = i := ⟨_, rfl⟩
     rw [hii] at HS HRI
     obtain ⟨rv, hrv⟩ : ∃ rv, r.val = rv := ⟨_, rfl⟩
     rw [hrv] at HQ HRI
     obtain ⟨f, hf⟩ : ∃ f, endF ((k : Int) + 1) = f := ⟨_, rfl⟩
     rw [hf] at HF HS HQ
     clear hrv hii hr hV hf
     obtain ⟨fw, f1, f2, f3, f4, f5, f6, f7⟩ := f
     simp only [FormV.val, TermV.val] at HF HS HQ HRI
     obtain ⟨wd, hwd⟩ : ∃ wd : ByteArray, (⟨fw⟩ : ByteArray) = wd := ⟨_, rfl⟩
     obtain rfl : wd.data = fw := by rw [<- hwd]
     rw [show (⟨wd.data⟩ : ByteArray) = wd from rfl] at HF HQ
     clear hwd
     by_cases hw : wd = word
     . have he : (wd.toList == word.toList) = true := by rw [hw]; exact beq_self_eq_true _
       rw [if_pos (by rw [hw])] at HS
       clear hw
       go_wp2_with (first
        | (go_at_call 58; (with_reducible refine (HF.out _).mono ?_); rintro e W1 ⟨rfl, hb1⟩; have HP1 := lh (HP.out.on hb1); clear hb1)
        | (go_at_call 162; (with_reducible refine (HQ.out _ hh vJ (HP1.out.on ((Below.refl _ _).alloc (Nat.le_refl _) _))).mono ?_); rintro e W6 ⟨rfl, hp6⟩; have HP6 := lh hp6; clear hp6)
        | (go_at_call 164; (with_reducible refine (HRI.out _).mono ?_); rintro e W7 ⟨rfl, hb7⟩; have hp7 := HP6.out.on hb7; obtain ⟨_, _, _, _, _, _, _, _, _, _, _, _, _⟩ := hp7.cells13 hoff; have df := hp7.blk.frozen; have HP7 := lh hp7; clear hp7 hb7))
       go_roundg x
       case measure => omega
       case rel => exact ⟨k + 1, by omega, by go_num, putT hh off i, lh (by rw [HS.out]; exact HP7.out.store13 i), lh (by rw [HS.out]; exact HB.out.sett i)⟩
     . have he : (wd.toList == word.toList) = false := bs_ne hw
       rw [if_neg (fun e => hw (by cases wd; cases word; simp only at e; rw [e]))] at HS
       clear hw
       go_wp2_with (first | (go_at_call 58; (with_reducible refine (HF.out _).mono ?_); rintro e W1 ⟨rfl, hb1⟩; have HB1 := lh hb1; clear hb1))
       go_roundg x
       case measure => omega
       case rel => exact ⟨k + 1, by omega, by go_num, hh, lh (by rw [HS.out]; exact (HP.out.on HB1.out).on ((Below.refl _ _).alloc (Nat.le_refl _) _)), lh (by rw [HS.out]; exact HB.out)⟩
  | succ x =>
   have HF := lh (fun (W : World) => HIF.out ((k : Int) + 1) W)
   have HS : Hid (stI word fs is (k + 1) = if (instF ((k : Int) + 1)).word = word.data then ((stI word fs is k).1.drop (cnt (instF ((k : Int) + 1)) 8), (stI word fs is k).2 ++ [(⟨(k : Int) + 1, (rdV (instF ((k : Int) + 1)) (stI word fs is k).1).sub, (rdV (instF ((k : Int) + 1)) (stI word fs is k).1).n, (rdV (instF ((k : Int) + 1)) (stI word fs is k).1).d, (rdV (instF ((k : Int) + 1)) (stI word fs is k).1).a, (rdV (instF ((k : Int) + 1)) (stI word fs is k).1).b, (rdV (instF ((k : Int) + 1)) (stI word fs is k).1).c⟩ : InstV)]) else stI word fs is k) := lh rfl
   have HQ := lh (fun W hh vJ h1 => HPT.out (instF ((k : Int) + 1)) (instF_tg _) (stI word fs is k).1 (stI_fs word fs is k) hh vJ (stI word fs is k).2 W h1)
   have HLN := lh (stI_is word fs is k)
   obtain ⟨S, hS⟩ : ∃ S, stI word fs is k = S := ⟨_, rfl⟩
   obtain ⟨r, hr⟩ : ∃ r, rdV (instF ((k : Int) + 1)) S.1 = r := ⟨_, rfl⟩
   have HRI := lh (fun W => rinst_any r ((k : Int) + 1) W)
   rw [hS] at HS HP HQ HLN
   rw [hr] at HS HQ
   obtain ⟨i, hii⟩ : ∃ i, (⟨(k : Int) + 1, r.sub, r.n, r.d, r.a, r.b, r.c⟩ : InstV) = i := ⟨_, rfl⟩
   rw [hii] at HS HRI
   obtain ⟨rv, hrv⟩ : ∃ rv, r.val = rv := ⟨_, rfl⟩
   rw [hrv] at HQ HRI
   obtain ⟨f, hf⟩ : ∃ f, instF ((k : Int) + 1) = f := ⟨_, rfl⟩
   rw [hf] at HF HS HQ
   clear hrv hii hr hS hf
   obtain ⟨fw, f1, f2, f3, f4, f5, f6, f7⟩ := f
   simp only [FormV.val, InstV.val] at HF HS HQ HRI
   obtain ⟨wd, hwd⟩ : ∃ wd : ByteArray, (⟨fw⟩ : ByteArray) = wd := ⟨_, rfl⟩
   obtain rfl : wd.data = fw := by rw [<- hwd]
   rw [show (⟨wd.data⟩ : ByteArray) = wd from rfl] at HF HQ
   clear hwd
   by_cases hw : wd = word
   . have he : (wd.toList == word.toList) = true := by rw [hw]; exact beq_self_eq_true _
     rw [if_pos (by rw [hw])] at HS
     clear hw
     go_upto_region 5 with (first | (go_at_call 87; (with_reducible refine (HF.out _).mono ?_); rintro e W1 ⟨rfl, hb1⟩; have HB1 := lh hb1; clear hb1))
     have hkf : (W1.alloc (.cells #[.string wd, .int .u32 f1, .int .i64 f2, .bool f3, .bool f4, .bool f5, .bool f6, .int .i64 f7] 117)).heap[W1.heap.size]? = some (.cells #[.string wd, .int .u32 f1, .int .i64 f2, .bool f3, .bool f4, .bool f5, .bool f6, .int .i64 f7] 117 (0, 0)) := heap_alloc_new _ _
     have HP2 := lh ((HP.out.on HB1.out).on (W1 := W1.alloc (.cells #[.string wd, .int .u32 f1, .int .i64 f2, .bool f3, .bool f4, .bool f5, .bool f6, .int .i64 f7] 117)) ((Below.refl _ _).alloc (Nat.le_refl _) _))
     clear HP HB1
     have hlt5 : W1.heap.size < (W1.alloc (.cells #[.string wd, .int .u32 f1, .int .i64 f2, .bool f3, .bool f4, .bool f5, .bool f6, .int .i64 f7] 117)).heap.size := by simp
     generalize (W1.alloc (.cells #[.string wd, .int .u32 f1, .int .i64 f2, .bool f3, .bool f4, .bool f5, .bool f6, .int .i64 f7] 117)) = W5 at *
     generalize W1.heap.size = bx at *
     have c0 := cell_blk hkf (i := 0) rfl
     have c1 := cell_blk hkf (i := 1) rfl
     have c2 := cell_blk hkf (i := 2) rfl
     have c3 := cell_blk hkf (i := 3) rfl
     have c4 := cell_blk hkf (i := 4) rfl
     have c5 := cell_blk hkf (i := 5) rfl
     have c6 := cell_blk hkf (i := 6) rfl
     have c7 := cell_blk hkf (i := 7) rfl
     have ci : W5.cell? ⟨bb, off, none⟩ = some vJ := by rw [HP2.out.blk.cell (by omega), HB.out.i]
     have hsz5 : n1 <= W5.heap.size := Nat.le_trans hn1' HP2.out.ch.size
     clear hkf
     go_region_law ((first
      | (refine step_call rfl 162 _ _ (by rfl) (enters_of Tryz.func162 (by kernel_rfl) rfl) [.pointer (some ⟨rb, 0, none⟩), .agg #[.string wd, .int .u32 f1, .int .i64 f2, .bool f3, .bool f4, .bool f5, .bool f6, .int .i64 f7]] (by rfl) (fun u w' => rv = u /\ PS rb bb n1 N g (S.1.drop (cnt ⟨wd.data, f1, f2, f3, f4, f5, f6, f7⟩ 8)) hh vJ S.2 w w') ((HQ.out _ hh vJ HP2.out.drew).mono fun e w' he => ⟨_, he.1, rfl, he.2⟩) ?_; rintro u W6 ⟨rfl, hp6⟩; have ci6 : W6.cell? ⟨bb, off, none⟩ = some vJ := (by rw [hp6.blk.cell (by omega), HB.out.i]); have HP6 := lh hp6; clear hp6)
      | (refine step_call rfl 163 _ _ (by rfl) (enters_of Tryz.func163 (by kernel_rfl) rfl) [rv, .int .i64 ((k : Int) + 1)] (by rfl) (fun u w' => u = (.agg #[.int .i64 i.op, .int .i64 i.sub, .int .i64 i.n, .int .i64 i.d.k, .int .i64 i.d.n, .int .i32 i.d.v, .int .i64 i.a.k, .int .i64 i.a.n, .int .i32 i.a.v, .int .i64 i.b.k, .int .i64 i.b.n, .int .i32 i.b.v, .int .i64 i.c.k, .int .i64 i.c.n, .int .i32 i.c.v]) /\ PS rb bb n1 N g (S.1.drop (cnt ⟨wd.data, f1, f2, f3, f4, f5, f6, f7⟩ 8)) hh vJ S.2 w w') ((HRI.out _).mono fun e w' he => ⟨_, he.1, rfl, HP6.out.on he.2⟩) ?_; rintro u W7 ⟨rfl, hp7⟩; have ci7 : W7.cell? ⟨bb, off, none⟩ = some vJ := (by rw [hp7.blk.cell (by omega), HB.out.i]); have ca7 : ∀ C, (W7.alloc (.cells C 61)).cell? ⟨bb, off, none⟩ = some vJ := (fun C => by rw [(hp7.on ((Below.refl _ _).alloc (Nat.le_refl _) _)).blk.cell (by omega), HB.out.i]); have hs7 := hp7.ch.size; have HP7 := lh hp7; clear hp7)
      | (refine step_append_own rfl _ _ 50 (by rfl) n1 61 i0 _ 15 120 Tryz.underlying50 hi0 hz0 hz1 hz2 rfl (by decide) vJ S.2.length (flatI S.2) (by rfl) (HP7.out.row.alloc _) ⟨W7.heap.size, 0, none⟩ 1 1 i.cells (by rfl) (by rfl) (row_new W7 #[.int .i64 i.op, .int .i64 i.sub, .int .i64 i.n, .int .i64 i.d.k, .int .i64 i.d.n, .int .i32 i.d.v, .int .i64 i.a.k, .int .i64 i.a.n, .int .i32 i.a.v, .int .i64 i.b.k, .int .i64 i.b.n, .int .i32 i.b.v, .int .i64 i.c.k, .int .i64 i.c.n, .int .i32 i.c.v] 61) (by simp [InstV.cells, Value.oneCell']) (by have := HLN.out; unfold maxLen; omega) (by have := HLN.out; omega) (by simp; omega) ?_; intro v' w8 hown' hgrow _; obtain ⟨gg, cap, rfl, _, _⟩ := hown'.form (by omega); have hp8 := (HP7.out.on ((Below.refl _ _).alloc (Nat.le_refl _) _)).grown hown' hgrow; have ci8 : w8.cell? ⟨bb, off, none⟩ = some vJ := (by rw [hp8.blk.cell (by omega), HB.out.i]); have cf8 := hp8.blk.frozen off; have HP8 := lh hp8; clear hp8 hown' hgrow)))
     all_goals
      go_wp2
      go_roundg x
      case measure => omega
      case rel => exact ⟨k + 1, by omega, by go_num, _, upd hh off (.slice (some ⟨gg, 0, none⟩) (S.2.length + 1) cap), lh (by rw [HS.out]; exact HP8.out.store off _), lh (HB.out.seti _)⟩
   . have he : (wd.toList == word.toList) = false := bs_ne hw
     rw [if_neg (fun e => hw (by cases wd; cases word; simp only at e; rw [e]))] at HS
     clear hw
     go_wp2_with (first | (go_at_call 87; (with_reducible refine (HF.out _).mono ?_); rintro e W1 ⟨rfl, hb1⟩; have HB1 := lh hb1; clear hb1))
     go_roundg x
     case measure => omega
     case rel => exact ⟨k + 1, by omega, by go_num, vJ, hh, lh (by rw [HS.out]; exact (HP.out.on HB1.out).on ((Below.refl _ _).alloc (Nat.le_refl _) _)), HB⟩
abbrev ArV := ByteArray × Int × Int × Int
abbrev LoV := Int × Int × Int
abbrev BlE := Value × List InstV × TermV
def arC (a : ArV) : List Value := [.string a.1, .int .i64 a.2.1, .int .i64 a.2.2.1, .int .i64 a.2.2.2]
def loC (l : LoV) : List Value := [.int .i64 l.1, .int .i64 l.2.1, .int .i64 l.2.2]
def TermV.cells (t : TermV) : List Value := [.int .i64 t.kind, .int .i64 t.sub, .int .i64 t.d.k, .int .i64 t.d.n, .int .i32 t.d.v, .int .i64 t.a.k, .int .i64 t.a.n, .int .i32 t.a.v, .int .i64 t.b.k, .int .i64 t.b.n, .int .i32 t.b.v, .int .i64 t.t0, .int .i64 t.t1]
def blC (e : BlE) : List Value := e.1 :: e.2.2.cells
def flatA (l : List ArV) : List Value := l.flatMap arC
def flatL (l : List LoV) : List Value := l.flatMap loC
def flatB (l : List BlE) : List Value := l.flatMap blC
theorem flatA_snoc (l : List ArV) (a : ArV) : flatA (l ++ [a]) = flatA l ++ arC a := by simp [flatA]
theorem flatL_snoc (l : List LoV) (a : LoV) : flatL (l ++ [a]) = flatL l ++ loC a := by simp [flatL]
theorem flatB_snoc (l : List BlE) (a : BlE) : flatB (l ++ [a]) = flatB l ++ blC a := by simp [flatB]
theorem flatB_len (l : List BlE) : (flatB l).length = l.length * 14 := by
 induction l with
 | nil => rfl
 | cons e l ih =>
  have : flatB (e :: l) = blC e ++ flatB l := by simp [flatB]
  rw [this, List.length_append, ih]
  simp [blC, TermV.cells]
  omega
structure RM (rb n0 n1 : Nat) (g : Nat -> Value) (qs : List ArV) (ls : List LoV) (init : List BlE) (last : Option BlE) (W : World) : Prop where
 row : W.rowIs rb 166 9 g
 arr : W.ownsRow n0 91 4 (g 5) qs.length (flatA qs)
 loops : W.ownsRow n0 85 3 (g 6) ls.length (flatL ls)
 blocks : W.ownsRow n0 55 14 (g 7) (init ++ last.toList).length (flatB (init ++ last.toList))
 old : ∀ e, e ∈ init -> W.ownsRow n0 61 15 e.1 e.2.1.length (flatI e.2.1) /\ ∀ k, e.1.ownBlock = some k -> k < n1
 new : ∀ e, last = some e -> W.ownsRow n1 61 15 e.1 e.2.1.length (flatI e.2.1)
 hn : n0 <= n1 /\ n1 <= W.heap.size
def Kept (S : TypeId -> Prop) (W W' : World) : Prop := ∀ (k : Nat) (C : Array Value) (T : TypeId) (fr : Nat × Nat), W.heap[k]? = some (Obj.cells C T fr) -> S T -> W'.heap[k]? = W.heap[k]?
theorem row_kept {W W' : World} {base e size n : Nat} {v : Value} {xs : List Value} {S : TypeId -> Prop} (h : W.ownsRow base e size v n xs) (hk : Kept S W W') (hS : S e) : W'.ownsRow base e size v n xs :=
 row_other (k := 0) h (fun g C fr hg => hk g C e fr hg hS)
theorem grow_kept {W W' : World} {base e size n : Nat} {v : Value} {xs : List Value} (h : W.ownsRow base e size v n xs) (hg : W.grownBy W' v.ownBlock) : Kept (. ≠ e) W W' := by
 intro k C T fr hk hT
 refine hg.block k (Array.getElem?_eq_some_iff.1 hk).1 (fun e1 => ?_)
 rcases h.2 with ⟨rfl, _⟩ | ⟨g, cap, cur, rfl, hbg, hgg, _⟩
 . cases e1
 . simp only [Value.ownBlock] at e1
   injection e1 with e1
   subst e1
   rw [hgg] at hk
   injection hk with hk
   injection hk with _ h2 _
   exact hT h2.symm
theorem RM.keep {rb n0 n1 : Nat} {g g' : Nat -> Value} {qs : List ArV} {ls : List LoV} {init : List BlE} {last : Option BlE} {W W' : World} (h : RM rb n0 n1 g qs ls init last W) (hr : W'.rowIs rb 166 9 g') (h5 : g' 5 = g 5) (h6 : g' 6 = g 6) (h7 : g' 7 = g 7)
 (hk : Kept (. ≠ 166) W W') (hs : W.heap.size <= W'.heap.size) : RM rb n0 n1 g' qs ls init last W' := by
 refine ⟨hr, ?_, ?_, ?_, ?_, ?_, ?_⟩
 . rw [h5]; exact row_kept h.arr hk (by decide)
 . rw [h6]; exact row_kept h.loops hk (by decide)
 . rw [h7]; exact row_kept h.blocks hk (by decide)
 . exact fun e he => ⟨row_kept (h.old e he).1 hk (by decide), (h.old e he).2⟩
 . exact fun e he => row_kept (h.new e he) hk (by decide)
 . have := h.hn; omega
theorem ch_kept {rb : Nat} {g : Nat -> Value} {W W' : World} (hr : W.rowIs rb 166 9 g) (h : Ch rb rb W W') : Kept (. ≠ 166) W W' := by
 intro k C T fr hk hT
 have hne : k ≠ rb := row_ne hr hk (fun e => hT e.symm)
 exact h.block k (Array.getElem?_eq_some_iff.1 hk).1 hne hne
theorem upd_ne (g : Nat -> Value) (i j : Nat) (v : Value) (h : j ≠ i) : upd g i v j = g j := by unfold upd; rw [if_neg h]
def EnvX (rb : Nat) (w0 : World) : Prop := ∃ w00 : World, EnvP w00 /\ Below w00.heap.size w00 w0 /\ w00.heap.size <= rb
theorem EnvX.at {rb : Nat} {w0 W : World} (h : EnvX rb w0) (hc : Ch rb rb w0 W) : ∃ w00 : World, EnvP w00 /\ Below w00.heap.size w00 W /\ w00.heap.size <= rb /\ w00.heap.size <= w0.heap.size := by
 obtain ⟨w00, a, b, c⟩ := h
 exact ⟨w00, a, b.trans (hc.below c c b.size), c, b.size⟩
theorem Ch.cut {a b : Nat} {w0 W W' : World} (h : Ch a a w0 W) (k : Ch a b W W') (hb : w0.heap.size <= b) : Ch a a w0 W' :=
 ⟨k.os.trans h.os, k.tape.trans h.tape, k.output.trans h.output, Nat.le_trans h.size k.size, fun i hi ha _ => (k.block i (Nat.lt_of_lt_of_le hi h.size) ha (by omega)).trans (h.block i hi ha ha)⟩
def RD (rb n0 n1 : Nat) (g : Nat -> Value) (qs : List ArV) (ls : List LoV) (init : List BlE) (last : Option BlE) (fs : List ByteArray) (w0 W : World) : Prop :=
 ∃ v', RM rb n0 n1 (upd g 8 v') qs ls init last W /\ FSl W v' fs /\ Ch rb rb w0 W /\ w0.heap.size <= n0
section
variable {rb n0 n1 : Nat} {g : Nat -> Value} {qs : List ArV} {ls : List LoV} {init : List BlE} {last : Option BlE} {fs : List ByteArray} {w0 W : World}
theorem RD.next {g' : Nat -> Value} {fs' : List ByteArray} {W' : World} {v' : Value} (h : RD rb n0 n1 g qs ls init last fs w0 W) (hr : W'.rowIs rb 166 9 (upd g' 8 v')) (hf : FSl W' v' fs') (h5 : g' 5 = g 5) (h6 : g' 6 = g 6) (h7 : g' 7 = g 7) (hc : Ch rb rb W W') : RD rb n0 n1 g' qs ls init last fs' w0 W' := by
 obtain ⟨v, h1, h2, h3, h4⟩ := h
 have hn := h1.hn
 refine ⟨v', h1.keep hr ?_ ?_ ?_ (ch_kept h1.row hc) hc.size, hf, h3.trans hc, h4⟩
 . rw [upd_ne _ _ _ _ (by decide), upd_ne _ _ _ _ (by decide), h5]
 . rw [upd_ne _ _ _ _ (by decide), upd_ne _ _ _ _ (by decide), h6]
 . rw [upd_ne _ _ _ _ (by decide), upd_ne _ _ _ _ (by decide), h7]
theorem RD.on {W' : World} (h : RD rb n0 n1 g qs ls init last fs w0 W) (hb : Below W.heap.size W W') : RD rb n0 n1 g qs ls init last fs w0 W' := by
 have h' := h
 obtain ⟨v, h1, h2, h3, h4⟩ := h
 exact h'.next (h1.row.of_block (hb.block rb h1.row.lt)) (h2.of_blocks (fun k C fr hk => (hb.block k (Array.getElem?_eq_some_iff.1 hk).1).trans hk)) rfl rfl rfl (Ch.of_below hb)
theorem RD.alloc (h : RD rb n0 n1 g qs ls init last fs w0 W) (o : Obj) : RD rb n0 n1 g qs ls init last fs w0 (W.alloc o) := h.on ((Below.refl _ _).alloc (Nat.le_refl _) _)
theorem RD.drew (h : RD rb n0 n1 g qs ls init last fs w0 W) : RD rb n0 n1 g qs ls init last fs w0 W.drew := h.on (below_drewN (Below.refl _ _) 1)
theorem RD.field (h : RD rb n0 n1 g qs ls init last fs w0 W) (hl : fs.length <= 1000000) : Calls Tryz.prog 138 #[.pointer (some ⟨rb, 0, none⟩)] W fun e w' => e = .returned (.string (fldV fs)) /\ RD rb n0 n1 g qs ls init last fs.tail w0 w' := by
 have h' := h
 obtain ⟨v, h1, h2, h3, h4⟩ := h
 refine (field_any rb _ fs W h1.row (by simpa [upd] using h2) hl).mono ?_
 rintro e w' ⟨rfl, v', h5, h6, h7⟩
 rw [upd_upd] at h5
 exact ⟨rfl, h'.next h5 h6 rfl rfl rfl h7⟩
theorem updN_upd (h : Nat -> Value) (o : Nat -> Nat) (fs : List ByteArray) (i : Nat) (v : Value) : ∀ n, (∀ j, j < n -> o j ≠ i) -> updN (upd h i v) o fs n = upd (updN h o fs n) i v
 | 0, _ => rfl
 | n + 1, ho => by
  rw [updN, updN_upd h o fs i v n (fun j hj => ho j (by omega)), updN, upd_comm _ _ _ _ _ (fun e => ho n (by omega) e.symm)]
theorem updN_out (h : Nat -> Value) (o : Nat -> Nat) (fs : List ByteArray) (i : Nat) : ∀ n, (∀ j, j < n -> o j ≠ i) -> updN h o fs n i = h i
 | 0, _ => rfl
 | n + 1, ho => by rw [updN, upd_ne _ _ _ _ (fun e => ho n (by omega) e.symm), updN_out h o fs i n (fun j hj => ho j (by omega))]
theorem RD.five (h : RD rb n0 n1 g qs ls init last fs w0 W) (hE : EnvX rb w0) (hl : fs.length <= 1000000) (hsz : ∀ s, s ∈ fs -> s.size <= 281474976710656) (A : Option Addr) (c : Nat) (hp : RPt W rb rb A 5 (fun j => j)) :
 Calls Tryz.prog 139 #[.pointer (some ⟨rb, 0, none⟩), .slice A 5 c] W fun e w' => (∃ v, e = .returned v) /\ RD rb n0 n1 (updN g (fun j => j) fs 5) qs ls init last (fs.drop 5) w0 w' := by
 have h' := h
 obtain ⟨v, h1, h2, h3, h4⟩ := h
 have hn := h1.hn
 obtain ⟨w00, q1, q2, q3, q4⟩ := hE.at h3
 refine (numbers_self rb _ (fun j => j) fs W A 5 c w00 (by decide) h1.row (by simpa [upd] using h2) hl hsz (fun j hj => by omega) hp q1 q2 q3).mono ?_
 rintro e w' ⟨he, v', h5, h6, h7⟩
 rw [updN_upd _ _ _ _ _ _ (fun j hj => by omega), upd_upd] at h5
 exact ⟨he, h'.next h5 h6 (updN_out _ _ _ _ _ (fun j hj => by omega)) (updN_out _ _ _ _ _ (fun j hj => by omega)) (updN_out _ _ _ _ _ (fun j hj => by omega)) h7⟩
theorem RD.three (h : RD rb n0 n1 g qs ls init last fs w0 W) (hE : EnvX rb w0) (hl : fs.length <= 1000000) (hsz : ∀ s, s ∈ fs -> s.size <= 281474976710656) (T m : Nat) (C : Array Value) (hC : C.size = m) (hT : T ≠ 9 /\ T ≠ 166) (o : Nat -> Nat) (ho : ∀ j, j < 3 -> o j < m) (W2 : World) (hW2 : Below (W.alloc (.cells C T)).heap.size (W.alloc (.cells C T)) W2) (A : Option Addr) (c : Nat) (hp : RPt W2 rb W.heap.size A 3 o) :
 Calls Tryz.prog 139 #[.pointer (some ⟨rb, 0, none⟩), .slice A 3 c] W2 fun e w' => (∃ v, e = .returned v) /\ RD rb n0 n1 g qs ls init last (fs.drop 3) w0 w' /\ w'.rowIs W.heap.size T m (updN (fun i => C.getD i undef) o fs 3) := by
 have hb0 : Below W.heap.size W W2 := ((Below.refl _ _).alloc (Nat.le_refl _) _).trans (hW2.mono (by simp))
 have h' := h.on hb0
 obtain ⟨v0, hm0, _, _, _⟩ := h
 obtain ⟨v, h1, h2, h3, h4⟩ := h'
 have hn := h1.hn
 have hrb := hm0.row.lt
 have hs0 : W.heap.size <= W2.heap.size := hb0.size
 obtain ⟨w00, q1, q2, q3, q4⟩ := hE.at h3
 have hw0 : w00.heap.size <= W.heap.size := by omega
 have hbox : W2.rowIs W.heap.size T m (fun i => C.getD i undef) := by
  subst hC
  have hk : W2.heap[W.heap.size]? = some (.cells C T (0, 0)) := (hW2.block _ (by simp)).trans (heap_alloc_new _ _)
  exact row_of_blk hk
 refine (numbers_other rb W.heap.size T m _ _ o fs W2 A 3 c w00 (by decide) h1.row hbox (by omega) hT.1 (by simpa [upd] using h2) hl hsz ho hp q1 q2 q3 hw0).mono ?_
 rintro e w' ⟨he, v', h5, h6, h7, h8⟩
 rw [upd_upd] at h5
 refine ⟨he, ⟨v', ?_, h6, h3.cut h8 (by have := hm0.hn; omega), h4⟩, h7⟩
 have kr : ∀ {base e size n : Nat} {v : Value} {xs : List Value}, W.ownsRow base e size v n xs -> e ≠ 166 -> w'.ownsRow base e size v n xs := by
  intro base e size n v xs hr he
  have hr2 : W2.ownsRow base e size v n xs := row_other (k := 0) hr (fun k C fr hk => hb0.block k (Array.getElem?_eq_some_iff.1 hk).1)
  refine ⟨hr2.1, ?_⟩
  rcases hr.2 with hnn | ⟨k, cap, cur, rfl, hbk, hkk, rest⟩
  . exact .inl hnn
  . have hlt := (Array.getElem?_eq_some_iff.1 hkk).1
    have hne : k ≠ rb := by
     rintro rfl
     obtain ⟨c', hh, _⟩ := hm0.row
     rw [hh] at hkk
     injection hkk with hkk
     injection hkk with _ h2 _
     exact he h2.symm
    exact .inr ⟨k, cap, cur, rfl, hbk, ((h8.block k (by omega) hne (by omega)).trans (hb0.block k hlt)).trans hkk, rest⟩
 have e5 : ∀ (u1 u2 : Value) (i : Nat), i ≠ 8 -> upd g 8 u1 i = upd g 8 u2 i := fun u1 u2 i hi => by rw [upd_ne _ _ _ _ hi, upd_ne _ _ _ _ hi]
 refine ⟨h5, ?_, ?_, ?_, ?_, ?_, ?_⟩
 . rw [e5 v' v0 5 (by decide)]; exact kr hm0.arr (by decide)
 . rw [e5 v' v0 6 (by decide)]; exact kr hm0.loops (by decide)
 . rw [e5 v' v0 7 (by decide)]; exact kr hm0.blocks (by decide)
 . exact fun e he => ⟨kr (hm0.old e he).1 (by decide), (hm0.old e he).2⟩
 . exact fun e he => kr (hm0.new e he) (by decide)
 . have := hm0.hn
   have := h8.size
   omega
end
end Go.Proofs.YtkncilgmlkeifaaGreatDoor
