import Derived.Test.YtkncilgmlkeifaaGreatDoorLmx
/-
  The reference's reader: the contract of line.
-/
set_option linter.unusedVariables false
set_option linter.unusedSimpArgs false
namespace Go.Proofs.YtkncilgmlkeifaaGreatDoor
open Go.ChangeShapes Go.WideShapes Go.ChangeAt Go.RowKit Go.Shelf
structure LnS (w0 W : World) (n0 n1 b bf : Nat) (c : CdV) (v5 v6 v7 : Value) (init : List BlE) (last : Option BlE) (v : Value) (fs : List ByteArray) (k : Nat) (W1 : World) : Prop where
 lx : LX w0 b n0 (c.n 0) (c.n 1) (c.n 2) (c.n 3) (c.n 4) v5 v6 v7 c.q c.l (init ++ last.toList) W1
 b4 : W1.heap[b + 1]? = some (.cells #[(0:Int), (0:Int), (0:Int), (0:Int), (0:Int), .slice none 0 0, .slice none 0 0, .slice none 0 0] 36 (0, 0))
 fd : FdK bf v fs k W1
 fl : FdL (bf + 1) bf v
 hb : b + 1 < bf /\ w0.heap.size <= b
 map : (init ++ last.toList).map (·.2) = c.b
 emp : last = none -> init = []
 old : ∀ e, e ∈ init -> ∀ k, e.1.ownBlock = some k -> k < n1
 new : ∀ e, last = some e -> W1.ownsRow n1 61 15 e.1 e.2.1.length (flatI e.2.1)
 hn : w0.heap.size <= n0 /\ n0 <= n1 /\ n1 <= b
theorem fdk_new {w : World} {v : Value} {fs : List ByteArray} (h : FSl w v fs) : FdK w.heap.size v fs 0 (w.alloc (.cells #[v, (0:Int)] 175)) :=
 ⟨heap_alloc_new w _, h.of_blocks (fun k C fr hk => (Below.heap_alloc _ _ _ (Array.getElem?_eq_some_iff.1 hk).1).trans hk)⟩
def strs13 : Array Value := #[.string ⟨#[]⟩, .string ⟨#[109, 111, 118]⟩, .string ⟨#[117, 110]⟩, .string ⟨#[98, 105, 110]⟩, .string ⟨#[115, 101, 108]⟩, .string ⟨#[105, 100]⟩, .string ⟨#[112, 97, 114, 97, 109]⟩, .string ⟨#[108, 111, 97, 100]⟩, .string ⟨#[115, 116, 111, 114, 101]⟩, .string ⟨#[97, 116, 111, 109]⟩, .string ⟨#[102, 101, 110, 99, 101]⟩, .string ⟨#[103, 101, 116]⟩, .string ⟨#[112, 117, 116]⟩]
def strs6 : Array Value := #[.string ⟨#[]⟩, .string ⟨#[106, 117, 109, 112]⟩, .string ⟨#[98, 114, 97, 110, 99, 104]⟩, .string ⟨#[98, 97, 114, 114, 105, 101, 114]⟩, .string ⟨#[99, 111, 108, 108, 101, 99, 116]⟩, .string ⟨#[101, 120, 105, 116]⟩]
theorem cutD_B (s : ByteArray) : cutD 32 s = (splitB s.data.toList).map bA := by unfold cutD; rw [splitD_B]
def z8C : Array Value := #[(0:Int), (0:Int), (0:Int), (0:Int), (0:Int), .slice none 0 0, .slice none 0 0, .slice none 0 0]
theorem lx_new {w0 W : World} {n0 n1 : Nat} {c : CdV} {v5 v6 v7 : Value} {init : List BlE} {last : Option BlE} (h : RcD w0 n0 n1 c v5 v6 v7 init last W) :
 LX w0 W.heap.size n0 (c.n 0) (c.n 1) (c.n 2) (c.n 3) (c.n 4) v5 v6 v7 c.q c.l (init ++ last.toList) ((W.alloc (.cells #[(c.n 0), (c.n 1), (c.n 2), (c.n 3), (c.n 4), v5, v6, v7] 36)).alloc (.cells z8C 36)) := by
 have hbw : Below W.heap.size W ((W.alloc (.cells #[(c.n 0), (c.n 1), (c.n 2), (c.n 3), (c.n 4), v5, v6, v7] 36)).alloc (.cells z8C 36)) := (bo _).alloc (by simp) _
 have kp : Kept (fun _ => True) W ((W.alloc (.cells #[(c.n 0), (c.n 1), (c.n 2), (c.n 3), (c.n 4), v5, v6, v7] 36)).alloc (.cells z8C 36)) := below_kept hbw
 have hw : w0.heap.size <= W.heap.size := h.below.size
 refine ⟨(Below.heap_alloc _ _ _ (by simp)).trans (heap_alloc_new W _), ⟨row_kept h.rc.arr kp trivial, row_kept h.rc.loops kp trivial, row_kept h.rc.blocks kp trivial, fun e he => row_kept (h.rc.insts e he) kp trivial⟩, h.below.trans (hbw.mono hw), h.hn.1, hw, ?_⟩
 simp
 have := h.hn
 omega
theorem LnS.on {w0 W : World} {n0 n1 b bf : Nat} {c : CdV} {v5 v6 v7 : Value} {init : List BlE} {last : Option BlE} {v : Value} {fs : List ByteArray} {k : Nat} {W1 W2 : World} (h : LnS w0 W n0 n1 b bf c v5 v6 v7 init last v fs k W1) (hb : Below W1.heap.size W1 W2) : LnS w0 W n0 n1 b bf c v5 v6 v7 init last v fs k W2 :=
 ⟨h.lx.on hb, (hb.block _ (Array.getElem?_eq_some_iff.1 h.b4).1).trans h.b4, h.fd.on hb, h.fl, h.hb, h.map, h.emp, h.old, fun e he => row_kept (h.new e he) (below_kept (S := fun _ => True) hb) trivial, h.hn⟩
theorem ln_start {w0 W w1 w2 : World} {n0 n1 : Nat} {c : CdV} {v5 v6 v7 v : Value} {init : List BlE} {last : Option BlE} {fs : List ByteArray} (h : RcD w0 n0 n1 c v5 v6 v7 init last W)
 (hb1 : Below ((W.alloc (.cells #[(c.n 0), (c.n 1), (c.n 2), (c.n 3), (c.n 4), v5, v6, v7] 36)).alloc (.cells z8C 36)).heap.size ((W.alloc (.cells #[(c.n 0), (c.n 1), (c.n 2), (c.n 3), (c.n 4), v5, v6, v7] 36)).alloc (.cells z8C 36)) w1)
 (hv : FSl w1 v fs) (hp : 0 < fs.length) (hd : FdK w1.heap.size v fs 1 w2 /\ Ch w1.heap.size w1.heap.size (w1.alloc (.cells #[v, (0:Int)] 175)) w2) :
 LnS w0 W n0 n1 W.heap.size w1.heap.size c v5 v6 v7 init last v fs 1 w2 := by
 have hx := lx_new h
 have hs1 := hb1.size
 simp only [World.size_alloc] at hs1
 have hw0 := h.below.size
 have hbA : Below w1.heap.size w1 (w1.alloc (.cells #[v, (0:Int)] 175)) := bo _
 have hx2 := (hx.on hb1).on hbA
 have hlx := hx2.ch hd.2 (heap_alloc_new w1 _) (by omega)
 have z4 : ((W.alloc (.cells #[(c.n 0), (c.n 1), (c.n 2), (c.n 3), (c.n 4), v5, v6, v7] 36)).alloc (.cells z8C 36)).heap[W.heap.size + 1]? = some (.cells z8C 36 (0, 0)) := by
  have := heap_alloc_new (W.alloc (.cells #[(c.n 0), (c.n 1), (c.n 2), (c.n 3), (c.n 4), v5, v6, v7] 36)) (.cells z8C 36)
  rwa [World.size_alloc] at this
 have z5 := (hb1.block _ (by simp)).trans z4
 have z6 := (hbA.block _ (by omega)).trans z5
 have z7 := (hd.2.block (W.heap.size + 1) (by simp; omega) (by omega) (by omega)).trans z6
 have hnw : ∀ e, last = some e -> w2.ownsRow n1 61 15 e.1 e.2.1.length (flatI e.2.1) := fun e he => by
  have hbw : Below W.heap.size W (w1.alloc (.cells #[v, (0:Int)] 175)) := ((((Below.refl W.heap.size W).alloc (Nat.le_refl _) _).alloc (by simp) _).trans (hb1.mono (by simp; omega))).trans (hbA.mono (by omega))
  have h1 := row_kept (h.new e he) (below_kept (S := fun _ => True) hbw) trivial
  refine row_blk h1 (fun k hk => ?_)
  have hlt := (h1.lt k hk).2
  have h2 := (h.new e he)
  have hk2 := (h2.lt k hk).2
  exact hd.2.block k hlt (by omega) (by omega)
 refine ⟨hlx, z7, hd.1, ⟨by omega, fun a n cc e => ?_⟩, ⟨by omega, hw0⟩, h.map, h.emp, h.old, hnw, h.hn⟩
 obtain ⟨A, c', e2, _, hrow⟩ := hv
 obtain ⟨fb, off, C, fr, hA, hh, _⟩ := hrow hp
 rw [e2, hA] at e
 injection e with e _ _
 injection e with e
 rw [<- e]
 have := (Array.getElem?_eq_some_iff.1 hh).1
 show fb < _
 omega
structure LnF (w0 : World) (n0 n1 b : Nat) (c : CdV) (v5 v6 v7 : Value) (init : List BlE) (last : Option BlE) (W1 : World) : Prop where
 lx : LX w0 b n0 (c.n 0) (c.n 1) (c.n 2) (c.n 3) (c.n 4) v5 v6 v7 c.q c.l (init ++ last.toList) W1
 b4 : W1.heap[b + 1]? = some (.cells z8C 36 (0, 0))
 map : (init ++ last.toList).map (·.2) = c.b
 emp : last = none -> init = []
 old : ∀ e, e ∈ init -> ∀ k, e.1.ownBlock = some k -> k < n1
 new : ∀ e, last = some e -> W1.ownsRow n1 61 15 e.1 e.2.1.length (flatI e.2.1)
 hn : w0.heap.size <= n0 /\ n0 <= n1 /\ n1 <= W1.heap.size
 hb : w0.heap.size <= b
theorem LnF.fin {w0 W1 : World} {n0 n1 b : Nat} {c : CdV} {v5 v6 v7 : Value} {init : List BlE} {last : Option BlE} (h : LnF w0 n0 n1 b c v5 v6 v7 init last W1) (x0 x1 x2 x3 x4 x5 x6 x7 : Value) :
 RcD w0 n0 n1 c v5 v6 v7 init last ((((((((W1.setCell ⟨b + 1, 0, none⟩ x0).setCell ⟨b + 1, 1, none⟩ x1).setCell ⟨b + 1, 2, none⟩ x2).setCell ⟨b + 1, 3, none⟩ x3).setCell ⟨b + 1, 4, none⟩ x4).setCell ⟨b + 1, 5, none⟩ x5).setCell ⟨b + 1, 6, none⟩ x6).setCell ⟨b + 1, 7, none⟩ x7) := by
 have hk := k36_store h.b4 x0 x1 x2 x3 x4 x5 x6 x7
 have hb := h.hb
 have hbw : Below w0.heap.size w0 ((((((((W1.setCell ⟨b + 1, 0, none⟩ x0).setCell ⟨b + 1, 1, none⟩ x1).setCell ⟨b + 1, 2, none⟩ x2).setCell ⟨b + 1, 3, none⟩ x3).setCell ⟨b + 1, 4, none⟩ x4).setCell ⟨b + 1, 5, none⟩ x5).setCell ⟨b + 1, 6, none⟩ x6).setCell ⟨b + 1, 7, none⟩ x7) :=
  (((((((h.lx.below.setCell (p := ⟨b + 1, 0, none⟩) (by show _ <= b + 1; omega) x0).setCell (p := ⟨b + 1, 1, none⟩) (by show _ <= b + 1; omega) x1).setCell (p := ⟨b + 1, 2, none⟩) (by show _ <= b + 1; omega) x2).setCell (p := ⟨b + 1, 3, none⟩) (by show _ <= b + 1; omega) x3).setCell (p := ⟨b + 1, 4, none⟩) (by show _ <= b + 1; omega) x4).setCell (p := ⟨b + 1, 5, none⟩) (by show _ <= b + 1; omega) x5).setCell (p := ⟨b + 1, 6, none⟩) (by show _ <= b + 1; omega) x6).setCell (p := ⟨b + 1, 7, none⟩) (by show _ <= b + 1; omega) x7
 exact ⟨h.lx.rows.k36 hk, h.map, h.emp, h.old, fun e he => row_kept (h.new e he) hk.1 (by decide), hbw, ⟨h.hn.1, h.hn.2.1, Nat.le_trans h.hn.2.2 hk.2⟩⟩
theorem LnS.fin {w0 W : World} {n0 n1 b bf : Nat} {c : CdV} {v5 v6 v7 : Value} {init : List BlE} {last : Option BlE} {v : Value} {fs : List ByteArray} {k : Nat} {W1 : World} (h : LnS w0 W n0 n1 b bf c v5 v6 v7 init last v fs k W1) : LnF w0 n0 n1 b c v5 v6 v7 init last W1 :=
 ⟨h.lx, h.b4, h.map, h.emp, h.old, h.new, ⟨h.hn.1, h.hn.2.1, by have := (Array.getElem?_eq_some_iff.1 h.b4).1; have := h.hn.2.2; omega⟩, h.hb.2⟩
theorem LnF.c {w0 W1 : World} {n0 n1 b : Nat} {c : CdV} {v5 v6 v7 : Value} {init : List BlE} {last : Option BlE} (h : LnF w0 n0 n1 b c v5 v6 v7 init last W1) : (∀ o, W1.cell? ⟨b, o, none⟩ = (#[(c.n 0), (c.n 1), (c.n 2), (c.n 3), (c.n 4), v5, v6, v7] : Array Value)[o]?) /\ (∀ o, W1.cell? ⟨b + 1, o, none⟩ = z8C[o]?) /\ (∀ o, W1.frozen? ⟨b + 1, o, none⟩ = false) :=
 ⟨h.lx.k, fun o => by simp [World.cell?, h.b4], fun o => by simp [World.frozen?, h.b4]⟩
theorem ops_at (V : World) (C : Array Value) (L : List ByteArray) (hC : C.toList = L.map Value.string) : ∀ j, j < L.length -> (V.alloc (.cells C 9)).cell? ⟨V.heap.size, j, none⟩ = some (.string (L.getD j ⟨#[]⟩)) := fun j hj => by
 rw [World.cell?_alloc_at _ _ _ _ rfl, <- Array.getElem?_toList, hC, List.getElem?_map, List.getElem?_eq_getElem hj, getD_of _ _ _ hj]
 rfl
theorem chb_kept {bf : Nat} {W W' : World} {C : Array Value} (hc : Ch bf bf W W') (hf : W.heap[bf]? = some (.cells C 175 (0, 0))) : Kept (. ≠ 175) W W' := fun k C' T fr hk hT => by
 have hne : k ≠ bf := fun e => by
  subst e
  rw [hf] at hk
  injection hk with hk
  injection hk with _ e _
  exact hT e.symm
 exact hc.block k (Array.getElem?_eq_some_iff.1 hk).1 hne hne
def setNc (c : CdV) (j : Nat) (x : Int) : CdV := { c with n := fun i => if i = j then x else c.n i }
section
variable {w0 W W1 W2 : World} {n0 n1 b bf k k' : Nat} {c : CdV} {v5 v6 v7 v : Value} {init : List BlE} {last : Option BlE} {fs : List ByteArray}
theorem LnS.num (h : LnS w0 W n0 n1 b bf c v5 v6 v7 init last v fs k W1) (hf : FdK bf v fs k' W2) (hc : Ch bf bf W1 W2) : LnS w0 W n0 n1 b bf c v5 v6 v7 init last v fs k' W2 := by
 have hb := h.hb
 refine ⟨h.lx.ch hc h.fd.1 (by omega), (hc.block _ (Array.getElem?_eq_some_iff.1 h.b4).1 (by omega) (by omega)).trans h.b4, hf, h.fl, h.hb, h.map, h.emp, h.old, fun e he => row_kept (h.new e he) (chb_kept hc h.fd.1) (by decide), h.hn⟩
theorem LnS.sn (h : LnS w0 W n0 n1 b bf c v5 v6 v7 init last v fs k W1) (j : Nat) (hj : j < 5) (x : Int) : LnS w0 W n0 n1 b bf (setNc c j x) v5 v6 v7 init last v fs k (W1.setCell ⟨b, j, none⟩ (.int .i64 x)) := by
 have hb := h.hb
 have ks := K36.set h.lx.box j (.int .i64 x)
 refine ⟨h.lx.sets j (.int .i64 x) ?_, (heap_setCell_other W1 ⟨b, j, none⟩ _ _ (by show b + 1 ≠ b; omega)).trans h.b4, ⟨(heap_setCell_other W1 ⟨b, j, none⟩ _ _ (by show bf ≠ b; omega)).trans h.fd.1, h.fd.2.of_blocks (fun i C fr hi => (ks.1 i C 9 fr hi (by decide)).trans hi)⟩, h.fl, h.hb, h.map, h.emp, h.old, fun e he => row_kept (h.new e he) ks.1 (by decide), h.hn⟩
 match j, hj with
 | 0, _ => rfl
 | 1, _ => rfl
 | 2, _ => rfl
 | 3, _ => rfl
 | 4, _ => rfl
end
theorem setNc5 (c : CdV) (fs : List ByteArray) : { c with n := fun j => if j < 5 then wholeV (fs.tail.getD j ⟨#[]⟩).data.toList else c.n j } = setNc (setNc (setNc (setNc (setNc c 0 (wholeV (fs.getD 1 ⟨#[]⟩).data.toList)) 1 (wholeV (fs.getD 2 ⟨#[]⟩).data.toList)) 2 (wholeV (fs.getD 3 ⟨#[]⟩).data.toList)) 3 (wholeV (fs.getD 4 ⟨#[]⟩).data.toList)) 4 (wholeV (fs.getD 5 ⟨#[]⟩).data.toList) := by
 show CdV.mk _ _ _ _ = CdV.mk _ _ _ _
 congr 1
 funext j
 match j with
 | 0 => simp [tail_getD, setNc]
 | 1 => simp [tail_getD, setNc]
 | 2 => simp [tail_getD, setNc]
 | 3 => simp [tail_getD, setNc]
 | 4 => simp [tail_getD, setNc]
 | j + 5 => simp [setNc, show ¬ j + 5 < 5 from by omega]
section
variable {w0 W W1 W2 W' : World} {n0 n1 b bf k k' : Nat} {c : CdV} {v5 v6 v7 v : Value} {init : List BlE} {last : Option BlE} {fs : List ByteArray}
theorem LnS.pushB (h : LnS w0 W n0 n1 b bf c v5 v6 v7 init last v fs k W1) {v' : Value} (hr : W'.ownsRow n0 55 14 v' ((init ++ last.toList).length + 1) (flatB (init ++ last.toList) ++ blC (.slice none 0 0, [], zeroT))) (hg : W1.grownBy W' v7.ownBlock) :
 LnF w0 n0 W1.heap.size b { c with b := c.b ++ [([], zeroT)] } v5 v6 v' (init ++ last.toList) (some (.slice none 0 0, [], zeroT)) (W'.setCell ⟨b, 7, none⟩ v') := by
 have hs := hg.size
 refine ⟨h.lx.pushB (x := (.slice none 0 0, [], zeroT)) ⟨rfl, rfl⟩ hr hg, (heap_setCell_other W' ⟨b, 7, none⟩ _ _ (by show b + 1 ≠ b; omega)).trans ((grow_kept h.lx.rows.blocks hg _ _ _ _ h.b4 (by decide)).trans h.b4), ?_, (fun e => nomatch e), fun e he k hk => ((h.lx.rows.insts e he).lt k hk).2, fun e he => ?_, ⟨h.hn.1, h.lx.hn.2.2, by simpa [World.setCell] using hs⟩, h.hb.2⟩
 . rw [List.map_append, h.map]
   rfl
 . injection he with he
   subst he
   exact World.ownsRow_nil _ _ _ _
theorem LnS.pushA (h : LnS w0 W n0 n1 b bf c v5 v6 v7 init last v fs k W1) {v' : Value} {x : ArV} (hr : W'.ownsRow n0 91 4 v' (c.q.length + 1) (flatA c.q ++ arC x)) (hg : W1.grownBy W' v5.ownBlock) :
 LnF w0 n0 n1 b { c with q := c.q ++ [x] } v' v6 v7 init last (W'.setCell ⟨b, 5, none⟩ v') := by
 have kg := grow_kept h.lx.rows.arr hg
 have ks := K36.set (h.lx.boxr h.lx.rows.arr hg (by decide)).1 5 v'
 have hF := h.fin.hn
 exact ⟨h.lx.push5 hr hg, (heap_setCell_other W' ⟨b, 5, none⟩ _ _ (by show b + 1 ≠ b; omega)).trans ((kg _ _ _ _ h.b4 (by decide)).trans h.b4), h.map, h.emp, h.old, fun e he => row_kept (row_kept (h.new e he) kg (by decide)) ks.1 (by decide), ⟨h.hn.1, h.hn.2.1, by have := hg.size; simp [World.setCell]; omega⟩, h.hb.2⟩
theorem LnS.pushL (h : LnS w0 W n0 n1 b bf c v5 v6 v7 init last v fs k W1) {v' : Value} {x : LoV} (hr : W'.ownsRow n0 85 3 v' (c.l.length + 1) (flatL c.l ++ loC x)) (hg : W1.grownBy W' v6.ownBlock) :
 LnF w0 n0 n1 b { c with l := c.l ++ [x] } v5 v' v7 init last (W'.setCell ⟨b, 6, none⟩ v') := by
 have kg := grow_kept h.lx.rows.loops hg
 have ks := K36.set (h.lx.boxr h.lx.rows.loops hg (by decide)).1 6 v'
 have hF := h.fin.hn
 exact ⟨h.lx.push6 hr hg, (heap_setCell_other W' ⟨b, 6, none⟩ _ _ (by show b + 1 ≠ b; omega)).trans ((kg _ _ _ _ h.b4 (by decide)).trans h.b4), h.map, h.emp, h.old, fun e he => row_kept (row_kept (h.new e he) kg (by decide)) ks.1 (by decide), ⟨h.hn.1, h.hn.2.1, by have := hg.size; simp [World.setCell]; omega⟩, h.hb.2⟩
theorem LnS.after7 (h : LnS w0 W n0 n1 b bf c v5 v6 v7 init last v fs k W1) (hg : W1.grownBy W' v7.ownBlock) : W'.cell? ⟨b, 7, none⟩ = some v7 /\ W'.frozen? ⟨b, 7, none⟩ = false := by
 have := (h.lx.boxr h.lx.rows.blocks hg (by decide)).1
 exact ⟨by simp [World.cell?, this], by simp [World.frozen?, this]⟩
theorem LnS.after5 (h : LnS w0 W n0 n1 b bf c v5 v6 v7 init last v fs k W1) (hg : W1.grownBy W' v5.ownBlock) : W'.cell? ⟨b, 5, none⟩ = some v5 /\ W'.frozen? ⟨b, 5, none⟩ = false := by
 have := (h.lx.boxr h.lx.rows.arr hg (by decide)).1
 exact ⟨by simp [World.cell?, this], by simp [World.frozen?, this]⟩
theorem LnS.after6 (h : LnS w0 W n0 n1 b bf c v5 v6 v7 init last v fs k W1) (hg : W1.grownBy W' v6.ownBlock) : W'.cell? ⟨b, 6, none⟩ = some v6 /\ W'.frozen? ⟨b, 6, none⟩ = false := by
 have := (h.lx.boxr h.lx.rows.loops hg (by decide)).1
 exact ⟨by simp [World.cell?, this], by simp [World.frozen?, this]⟩
structure LnB (w0 W : World) (n0 n1 b bf : Nat) (c : CdV) (v5 v6 v7 : Value) (init : List BlE) (last : Option BlE) (v : Value) (fs : List ByteArray) (bt T : Nat) (k : Nat) (C : Array Value) (W1 : World) : Prop where
 s : LnS w0 W n0 n1 b bf c v5 v6 v7 init last v fs k W1
 bx : W1.heap[bt]? = some (.cells C T (0, 0))
 hT : T ≠ 55 /\ T ≠ 61 /\ T ≠ 36 /\ T ≠ 175 /\ T ≠ 9
 hlt : bf < bt
 hx : ∀ i, (v5.ownBlock = some i \/ v6.ownBlock = some i) -> i < bt
theorem LnS.lnb (h : LnS w0 W n0 n1 b bf c v5 v6 v7 init last v fs k W1) (T : Nat) (C : Array Value) (hT : T ≠ 55 /\ T ≠ 61 /\ T ≠ 36 /\ T ≠ 175 /\ T ≠ 9) : LnB w0 W n0 n1 b bf c v5 v6 v7 init last v fs W1.heap.size T k C (W1.alloc (.cells C T)) :=
 ⟨h.on (bo _), heap_alloc_new _ _, hT, (Array.getElem?_eq_some_iff.1 h.fd.1).1, fun i hi => hi.elim (fun e => (h.lx.rows.arr.lt i e).2) (fun e => (h.lx.rows.loops.lt i e).2)⟩
theorem LnB.num {bt T : Nat} {C : Array Value} (h : LnB w0 W n0 n1 b bf c v5 v6 v7 init last v fs bt T k C W1) (hf : FdK bf v fs k' W2) (hc : Ch bf bf W1 W2) : LnB w0 W n0 n1 b bf c v5 v6 v7 init last v fs bt T k' C W2 := by
 have hlt := h.hlt
 exact ⟨h.s.num hf hc, (hc.block bt (Array.getElem?_eq_some_iff.1 h.bx).1 (by omega) (by omega)).trans h.bx, h.hT, h.hlt, h.hx⟩
theorem LnB.cc {bt T : Nat} {C : Array Value} (h : LnB w0 W n0 n1 b bf c v5 v6 v7 init last v fs bt T k C W1) (o : Nat) : W1.cell? ⟨bt, o, none⟩ = C[o]? := by simp [World.cell?, h.bx]
theorem LnB.f {bt T : Nat} {C : Array Value} (h : LnB w0 W n0 n1 b bf c v5 v6 v7 init last v fs bt T k C W1) (o : Nat) : W1.frozen? ⟨bt, o, none⟩ = false := by simp [World.frozen?, h.bx]
theorem LnB.set {bt T : Nat} {C : Array Value} (h : LnB w0 W n0 n1 b bf c v5 v6 v7 init last v fs bt T k C W1) (o : Nat) (x : Value) : LnB w0 W n0 n1 b bf c v5 v6 v7 init last v fs bt T k (C.setIfInBounds o x) (W1.setCell ⟨bt, o, none⟩ x) := by
 obtain ⟨hT1, hT2, hT3, hT4, hT5⟩ := h.hT
 have hlt := h.hlt
 have hb := h.s.hb
 have oth : ∀ i, i ≠ bt -> (W1.setCell ⟨bt, o, none⟩ x).heap[i]? = W1.heap[i]? := fun i hi => heap_setCell_other W1 ⟨bt, o, none⟩ i x hi
 have kp : Kept (. ≠ T) W1 (W1.setCell ⟨bt, o, none⟩ x) := fun i C' T' fr hi hT => oth i (fun e => by
  subst e
  rw [h.bx] at hi
  injection hi with hi
  injection hi with _ e _
  exact hT e.symm)
 have hs := h.s
 refine ⟨⟨⟨(oth b (by omega)).trans hs.lx.box, ⟨row_blk hs.lx.rows.arr (fun i hi => oth i (by have := h.hx i (.inl hi); omega)), row_blk hs.lx.rows.loops (fun i hi => oth i (by have := h.hx i (.inr hi); omega)), row_kept hs.lx.rows.blocks kp (Ne.symm hT1), fun e he => row_kept (hs.lx.rows.insts e he) kp (Ne.symm hT2)⟩, hs.lx.below.setCell (by show _ <= bt; omega) x, hs.lx.hn.1, hs.lx.hn.2.1, by simpa [World.setCell] using hs.lx.hn.2.2⟩, (oth _ (by omega)).trans hs.b4, ⟨(oth bf (by omega)).trans hs.fd.1, hs.fd.2.of_blocks (fun i C fr hi => (kp i C 9 fr hi (Ne.symm hT5)).trans hi)⟩, hs.fl, hs.hb, hs.map, hs.emp, hs.old, fun e he => row_kept (hs.new e he) kp (Ne.symm hT2), hs.hn⟩, heap_setCell_same W1 bt o _ T x h.bx, h.hT, h.hlt, h.hx⟩
end
section
variable {w0 W W1 W2 W' : World} {n0 n1 b bf k k' gB q7 : Nat} {c : CdV} {v5 v6 v7 v : Value} {init : List BlE} {last : Option BlE} {fs : List ByteArray} {vI : Value} {is : List InstV} {tt : TermV}
theorem FdL.up {B B' bf : Nat} {v : Value} (h : FdL B bf v) (hb : B <= B') : FdL B' bf v := ⟨Nat.lt_of_lt_of_le h.1 hb, fun a n c e => Nat.lt_of_lt_of_le (h.2 a n c e) hb⟩
theorem LnS.call2 (h : LnS w0 W n0 n1 b bf c v5 v6 v7 init last v fs k W1) (hc : Ch bf bf W1 W2) : LnF w0 n0 n1 b c v5 v6 v7 init last W2 := by
 have hb := h.hb
 have hF := h.fin.hn
 exact ⟨h.lx.ch hc h.fd.1 (by omega), (hc.block _ (Array.getElem?_eq_some_iff.1 h.b4).1 (by omega) (by omega)).trans h.b4, h.map, h.emp, h.old, fun e he => row_kept (h.new e he) (chb_kept hc h.fd.1) (by decide), ⟨h.hn.1, h.hn.2.1, Nat.le_trans hF.2.2 hc.size⟩, h.hb.2⟩
theorem LnF.on (h : LnF w0 n0 n1 b c v5 v6 v7 init last W1) (hb : Below W1.heap.size W1 W2) : LnF w0 n0 n1 b c v5 v6 v7 init last W2 :=
 ⟨h.lx.on hb, (hb.block _ (Array.getElem?_eq_some_iff.1 h.b4).1).trans h.b4, h.map, h.emp, h.old, fun e he => row_kept (h.new e he) (below_kept (S := fun _ => True) hb) trivial, ⟨h.hn.1, h.hn.2.1, Nat.le_trans h.hn.2.2 hb.size⟩, h.hb⟩
theorem blk_last {W : World} {n0 gB N q7 : Nat} {init : List BlE} {vI : Value} {is : List InstV} {tt : TermV} (hr : W.ownsRow n0 55 14 (.slice (some ⟨gB, 0, none⟩) N q7) N (flatB (init ++ [(vI, is, tt)]))) (hN : init.length + 1 = N) : W.cell? ⟨gB, init.length * 14, none⟩ = some vI /\ W.frozen? ⟨gB, init.length * 14, none⟩ = false := by
 refine ⟨?_, hr.frozenAt _⟩
 rw [hr.cellAt _ (by omega)]
 have := flat_get blC 14 (fun x => rfl) (init ++ [(vI, is, tt)]) init.length 0 (by simp) (by decide)
 rw [Nat.add_zero] at this
 unfold flatB
 rw [this, List.getElem_append_right (Nat.le_refl _)]
 simp [blC]
theorem lns_last (h : LnF w0 n0 n1 b c v5 v6 (.slice (some ⟨gB, 0, none⟩) (init.length + 1) q7) init (some (vI, is, tt)) W1) : W1.cell? ⟨b, 7, none⟩ = some (.slice (some ⟨gB, 0, none⟩) (init.length + 1) q7) /\ W1.cell? ⟨gB, init.length * 14, none⟩ = some vI /\ W1.frozen? ⟨gB, init.length * 14, none⟩ = false := by
 have hr := h.lx.rows.blocks
 simp only [Option.toList, List.length_append, List.length_cons, List.length_nil] at hr
 exact ⟨h.lx.k 7, blk_last hr rfl⟩
theorem lns_app (h : LnF w0 n0 n1 b c v5 v6 (.slice (some ⟨gB, 0, none⟩) (init.length + 1) q7) init (some (vI, is, tt)) W1) (iq : InstV) {v' : Value} (hr : W'.ownsRow n1 61 15 v' (is.length + 1) (flatI is ++ iq.cells)) (hg : W1.grownBy W' vI.ownBlock) :
 LnF w0 n0 n1 b { c with b := init.map (·.2) ++ [(is ++ [iq], tt)] } v5 v6 (.slice (some ⟨gB, 0, none⟩) (init.length + 1) q7) init (some (v', is ++ [iq], tt)) (W'.setCell ⟨gB, init.length * 14, none⟩ v') /\ W'.cell? ⟨b, 7, none⟩ = some (.slice (some ⟨gB, 0, none⟩) (init.length + 1) q7) /\ W'.cell? ⟨gB, init.length * 14, none⟩ = some vI /\ W'.frozen? ⟨gB, init.length * 14, none⟩ = false := by
 have hnew := h.new _ rfl
 obtain ⟨hlx, hnw⟩ := h.lx.appI (e := (vI, is, tt)) (by simp) h.hn.2.1 h.old hnew hr hg
 have kg := grow_kept hnew hg
 have hbl := row_kept h.lx.rows.blocks kg (by decide)
 simp only [Option.toList, List.length_append, List.length_cons, List.length_nil] at hbl
 have hst := hbl.stored (init.length * 14) v'
 have ks := grow_kept hbl hst.2
 have b4' := (kg _ _ _ _ h.b4 (by decide)).trans h.b4
 have bx' := (kg _ _ _ _ h.lx.box (by decide)).trans h.lx.box
 have hsz := hg.size
 have hn := h.hn
 refine ⟨⟨hlx, (ks _ _ _ _ b4' (by decide)).trans b4', ?_, (fun e => nomatch e), h.old, fun e he => ?_, ⟨hn.1, hn.2.1, ?_⟩, h.hb⟩, ?_, blk_last hbl rfl⟩
 . simp [Option.toList]
 . injection he with he
   subst he
   exact hnw
 . simp [World.setCell]
   omega
 . simp [World.cell?, bx']
theorem findV_at (w : ByteArray) : ∀ (l : List ByteArray) (k : Int), findV w l k = -1 \/ ∃ j : Nat, j < l.length /\ findV w l k = k + j /\ l.getD j ⟨#[]⟩ = w
 | [], k => .inl rfl
 | x :: l, k => by
  unfold findV
  by_cases hx : x = w
  . rw [if_pos hx]
    exact .inr ⟨0, by simp, by simp, hx⟩
  . rw [if_neg hx]
    rcases findV_at w l (k + 1) with h | ⟨j, hj, e, hw⟩
    . exact .inl h
    . exact .inr ⟨j + 1, by simpa using hj, by rw [e]; omega, by simpa using hw⟩
theorem opWs_k : ∀ j : Nat, j < 13 -> 1 <= j -> ¬ 0 < kindQ (opWs.getD j ⟨#[]⟩) := by decide +kernel
theorem opQ_range {wd : ByteArray} (h : 0 < opQ wd) : (1 <= opQ wd /\ opQ wd <= 12) /\ ¬ 0 < kindQ wd := by
 rcases findV_at wd opWs 0 with h1 | ⟨j, hj, e, hw⟩
 . have : opQ wd = -1 := h1
   omega
 . have e2 : opQ wd = 0 + j := e
   have hj2 : j < 13 := hj
   rw [<- hw]
   refine ⟨by rw [hw]; omega, opWs_k j hj2 (by omega)⟩
theorem kindQ_range {wd : ByteArray} (h : 0 < kindQ wd) : 1 <= kindQ wd /\ kindQ wd <= 5 := by
 rcases findV_at wd kindWs 0 with h1 | ⟨j, hj, e, hw⟩
 . have : kindQ wd = -1 := h1
   omega
 . have e2 : kindQ wd = 0 + j := e
   have hj2 : j < 6 := hj
   omega
theorem lns_end (h : LnF w0 n0 n1 b c v5 v6 (.slice (some ⟨gB, 0, none⟩) (init.length + 1) q7) init (some (vI, is, tt)) W1) (t : TermV) :
 LnF w0 n0 n1 b { c with b := init.map (·.2) ++ [(is, t)] } v5 v6 (.slice (some ⟨gB, 0, none⟩) (init.length + 1) q7) init (some (vI, is, t)) (W1.setCells gB (init.length * 14 + 1) t.cells) := by
 have hr := h.lx.rows.blocks
 have hnew := h.new _ rfl
 have hx : LX w0 b n0 (c.n 0) (c.n 1) (c.n 2) (c.n 3) (c.n 4) v5 v6 (.slice (some ⟨gB, 0, none⟩) (init.length + 1) q7) c.q c.l (init ++ (vI, is, t) :: []) (W1.setCells gB (init.length * 14 + 1) t.cells) := LX.storeT t (es1 := init) (es2 := []) (e := (vI, is, tt)) h.lx (by simp)
 simp only [Option.toList, List.length_append, List.length_cons, List.length_nil] at hr
 obtain ⟨_, hg⟩ := setN_row t.cells (init.length * 14 + 1) W1 _ hr
 rw [setN_eq] at hg
 have ks := grow_kept hr hg
 have hsz := hg.size
 generalize W1.setCells gB (init.length * 14 + 1) t.cells = W9 at hx ks hsz ⊢
 have b4' := (ks _ _ _ _ h.b4 (by decide)).trans h.b4
 have hnw := row_kept hnew ks (by decide)
 have hmap : (init ++ (some (vI, is, t)).toList).map (·.2) = init.map (·.2) ++ [(is, t)] := by simp [Option.toList]
 exact ⟨hx, b4', hmap, (fun e => nomatch e), h.old, fun e he => (Option.some.inj he) ▸ hnw, ⟨h.hn.1, h.hn.2.1, Nat.le_trans h.hn.2.2 hsz⟩, h.hb⟩
theorem lns_there (h : LnF w0 n0 n1 b c v5 v6 (.slice (some ⟨gB, 0, none⟩) (init.length + 1) q7) init (some (vI, is, tt)) W1) : W1.there gB (init.length * 14 + 1) 13 := by
 have hr := h.lx.rows.blocks
 simp only [Option.toList, List.length_append, List.length_cons, List.length_nil] at hr
 intro j hj
 refine ⟨?_, hr.frozenAt _⟩
 rw [hr.cellAt _ (by omega), List.getElem?_eq_getElem (by rw [flatB_len, List.length_append]; simp; omega)]
 rfl
end
set_option maxRecDepth 100000 in
set_option maxHeartbeats 16000000 in
theorem refline_any (w0 W : World) (n0 n1 : Nat) (c : CdV) (v5 v6 v7 : Value) (init : List BlE) (last : Option BlE) (s : ByteArray) (h : RcD w0 n0 n1 c v5 v6 v7 init last W) (hs : s.size <= 100000) (hsm : Small c 1000000) :
 Calls Tryz.prog 74 #[.agg #[(c.n 0), (c.n 1), (c.n 2), (c.n 3), (c.n 4), v5, v6, v7], .string s] W fun e w' => ∃ (u5 u6 u7 : Value), e = .returned (.agg #[.int .i64 ((lineQ c (cutD 32 s)).n 0), .int .i64 ((lineQ c (cutD 32 s)).n 1), .int .i64 ((lineQ c (cutD 32 s)).n 2), .int .i64 ((lineQ c (cutD 32 s)).n 3), .int .i64 ((lineQ c (cutD 32 s)).n 4), u5, u6, u7]) /\ ∃ (init' : List BlE) (last' : Option BlE) (n1' : Nat), RcD w0 n0 n1' (lineQ c (cutD 32 s)) u5 u6 u7 init' last' w' := by
 have HC := lh (fun V => show Calls Tryz.prog 73 #[.string s, .int .u8 32] V (fun e w' => ∃ v, e = .returned v /\ FSl w' v (cutD 32 s) /\ Below V.heap.size V w') from cutD_any s 32 V (by omega))
 have HR := lh h
 have HX := lh (lx_new h)
 unfold z8C at HX
 have hfl : (cutD 32 s).length <= 1000000 := by
  unfold cutD
  have := splitD_len 32 s.data.toList
  have e : s.data.toList.length = s.size := Array.length_toList
  rw [List.length_map]
  omega
 have hfp : 0 < (cutD 32 s).length := by
  unfold cutD
  rw [List.length_map, splitD_B]
  exact List.length_pos_iff.2 (splitB_ne _)
 have hfs2 : ∀ f, f ∈ cutD 32 s -> f.size <= 1000000 := by
  intro f hf
  rw [cutD_B] at hf
  obtain ⟨x, hx, rfl⟩ := List.mem_map.1 hf
  have h1 := (splitB_size s.data.toList).2 x hx
  have e : s.data.toList.length = s.size := Array.length_toList
  have h2 : (bA x).size = x.length := by simp [bA, ByteArray.size]
  omega
 obtain ⟨fs, hfs⟩ : ∃ fs, cutD 32 s = fs := ⟨_, rfl⟩
 rw [hfs] at HC hfl hfp hfs2 ⊢
 have HN := lh (fun (bf : Nat) (v : Value) (V : World) (hf : FdK bf v fs 0 V) => next_r bf v fs 0 V hf hfl (by decide))
 obtain ⟨wd, hwd⟩ : ∃ wd, fs.getD 0 ⟨#[]⟩ = wd := ⟨_, rfl⟩
 rw [hwd] at HN
 have HF1 := lh (fun (V : World) => find_r V.heap.size 13 opWs wd (V.alloc (.cells #[.string ⟨#[]⟩, .string ⟨#[109, 111, 118]⟩, .string ⟨#[117, 110]⟩, .string ⟨#[98, 105, 110]⟩, .string ⟨#[115, 101, 108]⟩, .string ⟨#[105, 100]⟩, .string ⟨#[112, 97, 114, 97, 109]⟩, .string ⟨#[108, 111, 97, 100]⟩, .string ⟨#[115, 116, 111, 114, 101]⟩, .string ⟨#[97, 116, 111, 109]⟩, .string ⟨#[102, 101, 110, 99, 101]⟩, .string ⟨#[103, 101, 116]⟩, .string ⟨#[112, 117, 116]⟩] 9)) (by decide) (ops_at V _ opWs rfl))
 have HF2 := lh (fun (V : World) (b : Nat) (hb : b = V.heap.size) => find_r b 6 kindWs wd (V.alloc (.cells #[.string ⟨#[]⟩, .string ⟨#[106, 117, 109, 112]⟩, .string ⟨#[98, 114, 97, 110, 99, 104]⟩, .string ⟨#[98, 97, 114, 114, 105, 101, 114]⟩, .string ⟨#[99, 111, 108, 108, 101, 99, 116]⟩, .string ⟨#[101, 120, 105, 116]⟩] 9)) (by decide) (hb ▸ ops_at V _ kindWs rfl))
 rw [show findV wd opWs 0 = opQ wd from rfl, show opWs.length = 13 from rfl] at HF1
 rw [show findV wd kindWs 0 = kindQ wd from rfl, show kindWs.length = 6 from rfl] at HF2
 obtain ⟨A5, q5, rfl, _⟩ := rar_of h.rc.arr
 obtain ⟨A6, q6, rfl, _⟩ := rlo_of h.rc.loops
 obtain ⟨A7, q7, e7, _⟩ := rbl_of h.rc.blocks (fun e he => by obtain ⟨A, c, hv, _⟩ := rin_of (h.rc.insts e he); exact ⟨A, c, hv⟩)
 obtain ⟨nb, hnb⟩ : ∃ nb, (init ++ last.toList).length = nb := ⟨_, rfl⟩
 rw [hnb] at e7
 subst e7
 have HNB := lh hnb
 clear hnb
 obtain ⟨C, hC⟩ : ∃ C, lineQ c fs = C := ⟨_, rfl⟩
 rw [hC]
 unfold lineQ at hC
 rw [show fldV fs = wd from hwd] at hC
 clear h hs
 go_enter Tryz.func74, Tryz.ntmps74
 go_upto_region 5 with (first
  | (go_at_call 73; (with_reducible refine (HC.out _).mono ?_); rintro e w1 ⟨v, rfl, ⟨A, cc, rfl, hcc, hrow⟩, hb1⟩; have HV := lh (show FSl w1 (.slice A fs.length cc) fs from ⟨A, cc, rfl, hcc, hrow⟩); have HB1 := lh hb1; clear hcc hrow hb1)
  | (go_at_call 109; (with_reducible refine (HN.out _ _ _ (fdk_new HV.out)).mono ?_); rintro e w2 ⟨rfl, hf2, hc2⟩; have HD := lh (And.intro hf2 hc2); clear hf2 hc2)
  | (go_at_call 110; (with_reducible first | refine (HF1.out _).mono ?_ | refine (HF2.out _ _ (by simp)).mono ?_); rintro e w3 ⟨rfl, rfl⟩))
 have hnB : nb <= 1000000 := by
  have h1 := HNB.out
  have h2 := hsm.b
  rw [<- HR.out.map, List.length_map] at h2
  omega
 have HS := lh ((ln_start HR.out HB1.out HV.out hfp HD.out).on ((bo (.cells strs13 9)).alloc (by simp) (.cells strs6 9)))
 unfold strs13 strs6 at HS
 clear HR HX HB1 HV HD HC HN HF1 HF2
 have hcl := hfl
 generalize ((w2.alloc (Obj.cells #[.string ⟨#[]⟩, .string ⟨#[109, 111, 118]⟩, .string ⟨#[117, 110]⟩, .string ⟨#[98, 105, 110]⟩, .string ⟨#[115, 101, 108]⟩, .string ⟨#[105, 100]⟩, .string ⟨#[112, 97, 114, 97, 109]⟩, .string ⟨#[108, 111, 97, 100]⟩, .string ⟨#[115, 116, 111, 114, 101]⟩, .string ⟨#[97, 116, 111, 109]⟩, .string ⟨#[102, 101, 110, 99, 101]⟩, .string ⟨#[103, 101, 116]⟩, .string ⟨#[112, 117, 116]⟩] 9)).alloc (Obj.cells #[.string ⟨#[]⟩, .string ⟨#[106, 117, 109, 112]⟩, .string ⟨#[98, 114, 97, 110, 99, 104]⟩, .string ⟨#[98, 97, 114, 114, 105, 101, 114]⟩, .string ⟨#[99, 111, 108, 108, 101, 99, 116]⟩, .string ⟨#[101, 120, 105, 116]⟩] 9)) = V at HS ⊢
 generalize W.heap.size = b at HS ⊢
 generalize w1.heap.size = bf at HS ⊢
 by_cases g1 : wd = ⟨#[99, 111, 100, 101]⟩
 . subst g1
   rw [if_pos rfl, setNc5] at hC
   have ho : opQ ⟨#[99, 111, 100, 101]⟩ = -1 := by decide +kernel
   have hk : kindQ ⟨#[99, 111, 100, 101]⟩ = -1 := by decide +kernel
   rw [ho, hk]
   obtain ⟨x0, hx0⟩ : ∃ x, wholeV (fs.getD 1 ⟨#[]⟩).data.toList = x := ⟨_, rfl⟩
   have HN0 := lh (fun (V : World) (hf : FdK bf (.slice A fs.length cc) fs 1 V) => number_r bf _ fs 1 V hf hfl (by decide) hfs2)
   rw [hx0] at HN0 hC
   obtain ⟨x1, hx1⟩ : ∃ x, wholeV (fs.getD 2 ⟨#[]⟩).data.toList = x := ⟨_, rfl⟩
   have HN1 := lh (fun (V : World) (hf : FdK bf (.slice A fs.length cc) fs 2 V) => number_r bf _ fs 2 V hf hfl (by decide) hfs2)
   rw [hx1] at HN1 hC
   obtain ⟨x2, hx2⟩ : ∃ x, wholeV (fs.getD 3 ⟨#[]⟩).data.toList = x := ⟨_, rfl⟩
   have HN2 := lh (fun (V : World) (hf : FdK bf (.slice A fs.length cc) fs 3 V) => number_r bf _ fs 3 V hf hfl (by decide) hfs2)
   rw [hx2] at HN2 hC
   obtain ⟨x3, hx3⟩ : ∃ x, wholeV (fs.getD 4 ⟨#[]⟩).data.toList = x := ⟨_, rfl⟩
   have HN3 := lh (fun (V : World) (hf : FdK bf (.slice A fs.length cc) fs 4 V) => number_r bf _ fs 4 V hf hfl (by decide) hfs2)
   rw [hx3] at HN3 hC
   obtain ⟨x4, hx4⟩ : ∃ x, wholeV (fs.getD 5 ⟨#[]⟩).data.toList = x := ⟨_, rfl⟩
   have HN4 := lh (fun (V : World) (hf : FdK bf (.slice A fs.length cc) fs 5 V) => number_r bf _ fs 5 V hf hfl (by decide) hfs2)
   rw [hx4] at HN4 hC
   clear hx0 hx1 hx2 hx3 hx4
   go_upto_region 7 with (go_at_call 111; (with_reducible refine (HN0.out _ HS.out.fd).mono ?_); rintro e w2 ⟨rfl, hf2, hc2⟩; have HQ := lh (HS.out.num hf2 hc2); clear hf2 hc2; have z := HQ.out.lx.fr; have q := HQ.out.lx.k)
   have HS := lh (HQ.out.sn 0 (by decide) x0)
   clear HQ z q
   generalize w2.setCell ⟨b, 0, none⟩ (.int .i64 x0) = V at HS ⊢
   go_upto_region 8 with (go_at_call 111; (with_reducible refine (HN1.out _ HS.out.fd).mono ?_); rintro e w2 ⟨rfl, hf2, hc2⟩; have HQ := lh (HS.out.num hf2 hc2); clear hf2 hc2; have z := HQ.out.lx.fr; have q := HQ.out.lx.k)
   have HS := lh (HQ.out.sn 1 (by decide) x1)
   clear HQ z q
   generalize w2.setCell ⟨b, 1, none⟩ (.int .i64 x1) = V at HS ⊢
   go_upto_region 9 with (go_at_call 111; (with_reducible refine (HN2.out _ HS.out.fd).mono ?_); rintro e w2 ⟨rfl, hf2, hc2⟩; have HQ := lh (HS.out.num hf2 hc2); clear hf2 hc2; have z := HQ.out.lx.fr; have q := HQ.out.lx.k)
   have HS := lh (HQ.out.sn 2 (by decide) x2)
   clear HQ z q
   generalize w2.setCell ⟨b, 2, none⟩ (.int .i64 x2) = V at HS ⊢
   go_upto_region 10 with (go_at_call 111; (with_reducible refine (HN3.out _ HS.out.fd).mono ?_); rintro e w2 ⟨rfl, hf2, hc2⟩; have HQ := lh (HS.out.num hf2 hc2); clear hf2 hc2; have z := HQ.out.lx.fr; have q := HQ.out.lx.k)
   have HS := lh (HQ.out.sn 3 (by decide) x3)
   clear HQ z q
   generalize w2.setCell ⟨b, 3, none⟩ (.int .i64 x3) = V at HS ⊢
   go_upto_region 11 with (go_at_call 111; (with_reducible refine (HN4.out _ HS.out.fd).mono ?_); rintro e w2 ⟨rfl, hf2, hc2⟩; have HQ := lh (HS.out.num hf2 hc2); clear hf2 hc2; have z := HQ.out.lx.fr; have q := HQ.out.lx.k)
   have HS := lh (HQ.out.sn 4 (by decide) x4)
   clear HQ z q
   generalize w2.setCell ⟨b, 4, none⟩ (.int .i64 x4) = V at HS ⊢
   rw [hC] at HS
   have HF := lh HS.out.fin
   obtain ⟨kb, k4, z4⟩ := HF.out.c
   unfold z8C at k4
   go_wp2
   refine bodyPost_ret (v := .agg #[(C.n 0), (C.n 1), (C.n 2), (C.n 3), (C.n 4), .slice A5 c.q.length q5, .slice A6 c.l.length q6, .slice A7 nb q7]) (by simp [results, Tryz.results74, go_sem, k4]) rfl ⟨_, _, _, rfl, _, _, _, HF.out.fin _ _ _ _ _ _ _ _⟩
 have f1 := bs_ne' (l := [99, 111, 100, 101]) g1
 rw [if_neg g1] at hC
 by_cases g2 : wd = ⟨#[97, 114, 114, 97, 121]⟩
 . subst g2
   rw [if_pos rfl] at hC
   have ho : opQ ⟨#[97, 114, 114, 97, 121]⟩ = -1 := by decide +kernel
   have hk : kindQ ⟨#[97, 114, 114, 97, 121]⟩ = -1 := by decide +kernel
   rw [ho, hk]
   obtain ⟨i0, hi0, hz0, hz1, hz2⟩ := info_parts infoArr
   have hq := hsm.q
   rw [show fldV fs.tail = fs.tail.getD 0 ⟨#[]⟩ from rfl] at hC
   simp only [tail_getD] at hC
   obtain ⟨nm, hnm⟩ : ∃ nm, fs.getD 1 ⟨#[]⟩ = nm := ⟨_, rfl⟩
   have HX := lh (fun (V : World) (hf : FdK bf (.slice A fs.length cc) fs 1 V) => next_r bf _ fs 1 V hf hfl (by decide))
   rw [hnm] at HX hC
   obtain ⟨x0, hx0⟩ : ∃ x, wholeV (fs.getD 2 ⟨#[]⟩).data.toList = x := ⟨_, rfl⟩
   have HN0 := lh (fun (V : World) (hf : FdK bf (.slice A fs.length cc) fs 2 V) => number_r bf _ fs 2 V hf hfl (by decide) hfs2)
   rw [hx0] at HN0 hC
   obtain ⟨x1, hx1⟩ : ∃ x, wholeV (fs.getD 3 ⟨#[]⟩).data.toList = x := ⟨_, rfl⟩
   have HN1 := lh (fun (V : World) (hf : FdK bf (.slice A fs.length cc) fs 3 V) => number_r bf _ fs 3 V hf hfl (by decide) hfs2)
   rw [hx1] at HN1 hC
   obtain ⟨x2, hx2⟩ : ∃ x, wholeV (fs.getD 4 ⟨#[]⟩).data.toList = x := ⟨_, rfl⟩
   have HN2 := lh (fun (V : World) (hf : FdK bf (.slice A fs.length cc) fs 4 V) => number_r bf _ fs 4 V hf hfl (by decide) hfs2)
   rw [hx2] at HN2 hC
   clear hx0 hx1 hx2
   go_upto_region 13 with (go_at_call 109; (with_reducible refine (HX.out _ HS.out.fd).mono ?_); rintro e w2 ⟨rfl, hf2, hc2⟩; have HQ := lh (HS.out.num hf2 hc2); clear hf2 hc2)
   have HS := lh (HQ.out.lnb 91 #[.string nm, (0:Int), (0:Int), (0:Int)] (by decide))
   clear HQ
   generalize w2.alloc (.cells #[.string nm, (0:Int), (0:Int), (0:Int)] 91) = V at HS ⊢
   generalize w2.heap.size = bt at HS ⊢
   go_upto_region 14 with (go_at_call 111; (with_reducible refine (HN0.out _ HS.out.s.fd).mono ?_); rintro e w2 ⟨rfl, hf2, hc2⟩; have HQ := lh (HS.out.num hf2 hc2); clear hf2 hc2; have z := HQ.out.f; have q := HQ.out.cc)
   have HS := lh (HQ.out.set 1 (.int .i64 x0))
   simp only [List.setIfInBounds_toArray, List.set_cons_zero, List.set_cons_succ] at HS
   clear HQ z q
   generalize w2.setCell ⟨bt, 1, none⟩ (.int .i64 x0) = V at HS ⊢
   go_upto_region 15 with (go_at_call 111; (with_reducible refine (HN1.out _ HS.out.s.fd).mono ?_); rintro e w2 ⟨rfl, hf2, hc2⟩; have HQ := lh (HS.out.num hf2 hc2); clear hf2 hc2; have z := HQ.out.f; have q := HQ.out.cc)
   have HS := lh (HQ.out.set 2 (.int .i64 x1))
   simp only [List.setIfInBounds_toArray, List.set_cons_zero, List.set_cons_succ] at HS
   clear HQ z q
   generalize w2.setCell ⟨bt, 2, none⟩ (.int .i64 x1) = V at HS ⊢
   go_upto_region 16 with (go_at_call 111; (with_reducible refine (HN2.out _ HS.out.s.fd).mono ?_); rintro e w2 ⟨rfl, hf2, hc2⟩; have HQ := lh (HS.out.num hf2 hc2); clear hf2 hc2; have z := HQ.out.f; have q := HQ.out.cc)
   have HS := lh (HQ.out.set 3 (.int .i64 x2))
   simp only [List.setIfInBounds_toArray, List.set_cons_zero, List.set_cons_succ] at HS
   clear HQ z q
   generalize w2.setCell ⟨bt, 3, none⟩ (.int .i64 x2) = V at HS ⊢
   have HROW := lh (show ∀ o, (V.alloc o).ownsRow n0 91 4 (.slice A5 c.q.length q5) c.q.length (flatA c.q) from fun o => (HS.out.s.on (bo o)).lx.rows.arr)
   have kx := HS.out.cc
   have kb := HS.out.s.lx.k
   have ca7 := fun o => (HS.out.s.on (bo o)).lx.k
   go_upto_region 17 with (at_builtin; (refine wpList_append_own _ rfl _ _ 32 rfl n0 91 i0 (.agg #[.string ByteArray.empty, (0:Int), (0:Int), (0:Int)]) 4 40 Tryz.underlying32 hi0 hz0 hz1 hz2 rfl (by decide) (.slice A5 c.q.length q5) c.q.length (flatA c.q) rfl (HROW.out _) ⟨V.heap.size, 0, none⟩ 1 1 (arC (nm, x0, x1, x2)) rfl rfl (row_new V #[.string nm, x0, x1, x2] 91) (by simp [arC, Value.oneCell']) (by unfold maxLen; omega) (by omega) (by have := HS.out.s.lx.hn.2.2; simp; omega) ?_); intro v' w8 hown' hgrow _; obtain ⟨gg, cap, rfl, _, _⟩ := hown'.form (by omega); obtain ⟨cc8, cf8⟩ := (HS.out.s.on (bo _)).after5 hgrow; have HP8 := lh ((HS.out.s.on (bo _)).pushA (x := (nm, x0, x1, x2)) hown' hgrow); clear hown' hgrow)
   subst hC
   have HF := HP8
   clear kb ca7 kx
   obtain ⟨kb, k4, z4⟩ := HF.out.c
   unfold z8C at k4
   go_wp2
   refine bodyPost_ret (v := .agg #[(c.n 0), (c.n 1), (c.n 2), (c.n 3), (c.n 4), .slice (some ⟨gg, 0, none⟩) (c.q.length + 1) cap, .slice A6 c.l.length q6, .slice A7 nb q7]) (by simp [results, Tryz.results74, go_sem, k4]) rfl ⟨_, _, _, rfl, _, _, _, HF.out.fin _ _ _ _ _ _ _ _⟩
 have f2 := bs_ne' (l := [97, 114, 114, 97, 121]) g2
 rw [if_neg g2] at hC
 by_cases g3 : wd = ⟨#[108, 111, 111, 112]⟩
 . subst g3
   rw [if_pos rfl] at hC
   have ho : opQ ⟨#[108, 111, 111, 112]⟩ = -1 := by decide +kernel
   have hk : kindQ ⟨#[108, 111, 111, 112]⟩ = -1 := by decide +kernel
   rw [ho, hk]
   obtain ⟨i0, hi0, hz0, hz1, hz2⟩ := info_parts infoLoop
   have hq := hsm.l
   simp only [tail_getD] at hC
   obtain ⟨x0, hx0⟩ : ∃ x, wholeV (fs.getD 1 ⟨#[]⟩).data.toList = x := ⟨_, rfl⟩
   have HN0 := lh (fun (V : World) (hf : FdK bf (.slice A fs.length cc) fs 1 V) => number_r bf _ fs 1 V hf hfl (by decide) hfs2)
   rw [hx0] at HN0 hC
   obtain ⟨x1, hx1⟩ : ∃ x, wholeV (fs.getD 2 ⟨#[]⟩).data.toList = x := ⟨_, rfl⟩
   have HN1 := lh (fun (V : World) (hf : FdK bf (.slice A fs.length cc) fs 2 V) => number_r bf _ fs 2 V hf hfl (by decide) hfs2)
   rw [hx1] at HN1 hC
   obtain ⟨x2, hx2⟩ : ∃ x, wholeV (fs.getD 3 ⟨#[]⟩).data.toList = x := ⟨_, rfl⟩
   have HN2 := lh (fun (V : World) (hf : FdK bf (.slice A fs.length cc) fs 3 V) => number_r bf _ fs 3 V hf hfl (by decide) hfs2)
   rw [hx2] at HN2 hC
   clear hx0 hx1 hx2
   go_upto_region 19 with (go_at_call 111; (with_reducible refine (HN0.out _ HS.out.fd).mono ?_); rintro e w2 ⟨rfl, hf2, hc2⟩; have HQ := lh (HS.out.num hf2 hc2); clear hf2 hc2)
   have HS := lh (HQ.out.lnb 85 #[x0, (0:Int), (0:Int)] (by decide))
   clear HQ
   generalize w2.alloc (.cells #[x0, (0:Int), (0:Int)] 85) = V at HS ⊢
   generalize w2.heap.size = bt at HS ⊢
   go_upto_region 20 with (go_at_call 111; (with_reducible refine (HN1.out _ HS.out.s.fd).mono ?_); rintro e w2 ⟨rfl, hf2, hc2⟩; have HQ := lh (HS.out.num hf2 hc2); clear hf2 hc2; have z := HQ.out.f; have q := HQ.out.cc)
   have HS := lh (HQ.out.set 1 (.int .i64 x1))
   simp only [List.setIfInBounds_toArray, List.set_cons_zero, List.set_cons_succ] at HS
   clear HQ z q
   generalize w2.setCell ⟨bt, 1, none⟩ (.int .i64 x1) = V at HS ⊢
   go_upto_region 21 with (go_at_call 111; (with_reducible refine (HN2.out _ HS.out.s.fd).mono ?_); rintro e w2 ⟨rfl, hf2, hc2⟩; have HQ := lh (HS.out.num hf2 hc2); clear hf2 hc2; have z := HQ.out.f; have q := HQ.out.cc)
   have HS := lh (HQ.out.set 2 (.int .i64 x2))
   simp only [List.setIfInBounds_toArray, List.set_cons_zero, List.set_cons_succ] at HS
   clear HQ z q
   generalize w2.setCell ⟨bt, 2, none⟩ (.int .i64 x2) = V at HS ⊢
   have HROW := lh (show ∀ o, (V.alloc o).ownsRow n0 85 3 (.slice A6 c.l.length q6) c.l.length (flatL c.l) from fun o => (HS.out.s.on (bo o)).lx.rows.loops)
   have kx := HS.out.cc
   have kb := HS.out.s.lx.k
   have ca7 := fun o => (HS.out.s.on (bo o)).lx.k
   go_upto_region 22 with (at_builtin; (refine wpList_append_own _ rfl _ _ 33 rfl n0 85 i0 (.agg #[(0:Int), (0:Int), (0:Int)]) 3 24 Tryz.underlying33 hi0 hz0 hz1 hz2 rfl (by decide) (.slice A6 c.l.length q6) c.l.length (flatL c.l) rfl (HROW.out _) ⟨V.heap.size, 0, none⟩ 1 1 (loC (x0, x1, x2)) rfl rfl (row_new V #[x0, x1, x2] 85) (by simp [loC, Value.oneCell']) (by unfold maxLen; omega) (by omega) (by have := HS.out.s.lx.hn.2.2; simp; omega) ?_); intro v' w8 hown' hgrow _; obtain ⟨gg, cap, rfl, _, _⟩ := hown'.form (by omega); obtain ⟨cc8, cf8⟩ := (HS.out.s.on (bo _)).after6 hgrow; have HP8 := lh ((HS.out.s.on (bo _)).pushL (x := (x0, x1, x2)) hown' hgrow); clear hown' hgrow)
   subst hC
   have HF := HP8
   clear kb ca7 kx
   obtain ⟨kb, k4, z4⟩ := HF.out.c
   unfold z8C at k4
   go_wp2
   refine bodyPost_ret (v := .agg #[(c.n 0), (c.n 1), (c.n 2), (c.n 3), (c.n 4), .slice A5 c.q.length q5, .slice (some ⟨gg, 0, none⟩) (c.l.length + 1) cap, .slice A7 nb q7]) (by simp [results, Tryz.results74, go_sem, k4]) rfl ⟨_, _, _, rfl, _, _, _, HF.out.fin _ _ _ _ _ _ _ _⟩
 have f3 := bs_ne' (l := [108, 111, 111, 112]) g3
 rw [if_neg g3] at hC
 by_cases g4 : wd = ⟨#[98, 108, 111, 99, 107]⟩
 . subst g4
   rw [if_pos rfl] at hC
   have ho : opQ ⟨#[98, 108, 111, 99, 107]⟩ = -1 := by decide +kernel
   have hk : kindQ ⟨#[98, 108, 111, 99, 107]⟩ = -1 := by decide +kernel
   rw [ho, hk]
   obtain ⟨i0, hi0, hz0, hz1, hz2⟩ := info_parts infoBlk
   have HROW := lh (show ∀ o, (V.alloc o).ownsRow n0 55 14 (.slice A7 nb q7) nb (flatB (init ++ last.toList)) from fun o => by have := (HS.out.on (bo o)).lx.rows.blocks; rwa [HNB.out] at this)
   have c7 := HS.out.lx.k 7
   have ca7 := fun o => (HS.out.on (bo o)).lx.k 7
   go_upto_region 24 with (at_builtin; (refine wpList_append_own _ rfl _ _ 34 rfl n0 55 i0 (.agg #[.slice none 0 0, (0:Int), (0:Int), (0:Int), (0:Int), .int .i32 0, (0:Int), (0:Int), .int .i32 0, (0:Int), (0:Int), .int .i32 0, (0:Int), (0:Int)]) 14 128 Tryz.underlying34 hi0 hz0 hz1 hz2 rfl (by decide) (.slice A7 nb q7) nb (flatB (init ++ last.toList)) rfl (HROW.out _) ⟨V.heap.size, 0, none⟩ 1 1 (blC (.slice none 0 0, [], zeroT)) rfl rfl (row_new V #[.slice none 0 0, (0:Int), (0:Int), (0:Int), (0:Int), .int .i32 0, (0:Int), (0:Int), .int .i32 0, (0:Int), (0:Int), .int .i32 0, (0:Int), (0:Int)] 55) (by simp [blC, TermV.cells, zeroT, noOpd, Value.oneCell']) (by unfold maxLen; omega) (by omega) (by have := HS.out.lx.hn.2.2; simp; omega) ?_); intro v' w8 hown' hgrow _; obtain ⟨gg, cap, rfl, _, _⟩ := hown'.form (by omega); obtain ⟨cc8, cf8⟩ := (HS.out.on (bo _)).after7 hgrow; have HP8 := lh ((HS.out.on (bo _)).pushB (by rw [HNB.out]; exact hown') hgrow); clear hown' hgrow)
   subst hC
   have HF := HP8
   obtain ⟨kb, k4, z4⟩ := HF.out.c
   unfold z8C at k4
   go_wp2
   refine bodyPost_ret (v := .agg #[(c.n 0), (c.n 1), (c.n 2), (c.n 3), (c.n 4), .slice A5 c.q.length q5, .slice A6 c.l.length q6, .slice (some ⟨gg, 0, none⟩) (nb + 1) cap]) (by simp [results, Tryz.results74, go_sem, k4]) rfl ⟨_, _, _, rfl, _, _, _, HF.out.fin _ _ _ _ _ _ _ _⟩
 have f4 := bs_ne' (l := [98, 108, 111, 99, 107]) g4
 rw [if_neg g4] at hC
 cases last with
 | none =>
  have hi := HS.out.emp rfl
  subst hi
  have hb0 : c.b = [] := HS.out.map.symm
  obtain rfl : nb = 0 := HNB.out.symm
  rw [hb0] at hC
  replace hC : c = C := hC
  subst hC
  have HF := lh HS.out.fin
  obtain ⟨kb, k4, z4⟩ := HF.out.c
  unfold z8C at k4
  by_cases ho : (0 : Int) < opQ wd
  . by_cases hk : (0 : Int) < kindQ wd
    . go_wp2
      refine bodyPost_ret (v := .agg #[(c.n 0), (c.n 1), (c.n 2), (c.n 3), (c.n 4), .slice A5 c.q.length q5, .slice A6 c.l.length q6, .slice A7 0 q7]) (by simp [results, Tryz.results74, go_sem, k4]) rfl ⟨_, _, _, rfl, _, _, _, HF.out.fin _ _ _ _ _ _ _ _⟩
    . go_wp2
      refine bodyPost_ret (v := .agg #[(c.n 0), (c.n 1), (c.n 2), (c.n 3), (c.n 4), .slice A5 c.q.length q5, .slice A6 c.l.length q6, .slice A7 0 q7]) (by simp [results, Tryz.results74, go_sem, k4]) rfl ⟨_, _, _, rfl, _, _, _, HF.out.fin _ _ _ _ _ _ _ _⟩
  . by_cases hk : (0 : Int) < kindQ wd
    . go_wp2
      refine bodyPost_ret (v := .agg #[(c.n 0), (c.n 1), (c.n 2), (c.n 3), (c.n 4), .slice A5 c.q.length q5, .slice A6 c.l.length q6, .slice A7 0 q7]) (by simp [results, Tryz.results74, go_sem, k4]) rfl ⟨_, _, _, rfl, _, _, _, HF.out.fin _ _ _ _ _ _ _ _⟩
    . go_wp2
      refine bodyPost_ret (v := .agg #[(c.n 0), (c.n 1), (c.n 2), (c.n 3), (c.n 4), .slice A5 c.q.length q5, .slice A6 c.l.length q6, .slice A7 0 q7]) (by simp [results, Tryz.results74, go_sem, k4]) rfl ⟨_, _, _, rfl, _, _, _, HF.out.fin _ _ _ _ _ _ _ _⟩
 | some e0 =>
  obtain ⟨vI, is, tt⟩ := e0
  obtain rfl : nb = init.length + 1 := by have := HNB.out; simpa using this.symm
  have hmap : c.b = init.map (·.2) ++ [(is, tt)] := by rw [<- HS.out.map]; simp [Option.toList]
  rw [hmap, List.getLast?_concat] at hC
  simp only [List.dropLast_concat] at hC
  obtain ⟨gB, cB, hgB, -⟩ := HS.out.lx.rows.blocks.form (by simp)
  obtain ⟨rfl, rfl⟩ : A7 = some ⟨gB, 0, none⟩ /\ q7 = cB := by
   injection hgB with e1 e2 e3
   exact ⟨e1, e3⟩
  clear hgB
  have hil : is.length <= 1000000 := by
   have := hsm.i (is, tt) (by rw [hmap]; simp)
   exact this
  have hin : init.length <= 1000000 := by
   have := hsm.b
   rw [hmap, List.length_append, List.length_map] at this
   omega
  by_cases ho : (0 : Int) < opQ wd
  . rw [if_pos ho] at hC
    obtain ⟨hop, hkq⟩ := opQ_range ho
    obtain ⟨i0, hi0, hz0, hz1, hz2⟩ := info_parts infoInst
    obtain ⟨iq, hiq⟩ : ∃ iq, instQ (opQ wd) fs.tail = iq := ⟨_, rfl⟩
    have HI := lh (fun (V : World) (hf : FdK bf (.slice A fs.length cc) fs 1 V) (hL : FdL V.heap.size bf (.slice A fs.length cc)) => inst_any bf _ fs V (opQ wd) hop hf hL hfl hfs2)
    rw [hiq] at HI hC
    simp only [InstV.val] at HI
    have HSd := lh (HS.out.on (show Below V.heap.size V V.drew from ⟨rfl, rfl, rfl, Nat.le_refl _, fun _ _ => rfl⟩))
    have HK0 := lh (lns_last HSd.out.fin)
    obtain ⟨k7, kI, kf⟩ := lns_last HS.out.fin
    have kb := HS.out.lx.k
    have hx0 : 0 <= (init.length : Int) := by omega
    have hx1 : (init.length : Int) < (init.length : Int) + 1 := by omega
    have hx2 : IntKind.i64.wrap (init.length : Int) = (init.length : Int) := IntWalk.i64_in _ (by omega)
    go_upto_region 26 with fail
    refine wp_region_held_drew (S := (fun w' => w'.cell? ⟨b, 7, none⟩ = some (.slice (some ⟨gB, 0, none⟩) (init.length + 1) q7))) (by kernel_rfl) ?_ (fun hHeld => ?_)
    . (try dsimp only); (first | exact HK0.out.1 | exact HK1.out.1 | exact (HK2.out _).1 | exact HK3.out.1 | exact (lns_last HA.out.1).1)
    refine tk 0 ?_
    refine tk 1 ?_
    refine tk 2 ?_
    refine tk 3 ?_
    refine tk 4 ?_
    refine tk 5 ?_
    refine tk 6 ?_
    refine tk 7 ?_
    refine tk 9 ?_
    refine tk 10 ?_
    refine wpAnyH_ready (rs := [8, 11]) (by kernel_rfl) (by simp) ?_
    refine ax (fun K hK => ?_) ?_
    . (first | (have q2 := (fun o => (HK2.out o).2.1); have q1 := HK1.out.2.1; go_simp) | (have q0 := HK0.out.2.1; go_simp))
      refine hK.out _ _ ?_ (fun hHeld => ?_)
      . (try dsimp only); (first | exact HK0.out.1 | exact HK1.out.1 | exact (HK2.out _).1 | exact HK3.out.1 | exact (lns_last HA.out.1).1)
      clear hK K
      try simp only [pe]
      refine am 11 (fun K hK => ?_) ?_
      . (go_simp; go_at_call 112; refine (HI.out _ HSd.out.fd (HSd.out.fl.up (by have := HSd.out.fd.lt; omega))).mono ?_; rintro e w5 ⟨rfl, hc5⟩; have HS5 := lh (HSd.out.call2 hc5); have HK1 := lh (lns_last HS5.out); have HK2 := lh (fun o => lns_last (HS5.out.on (bo o))); clear hc5)
        refine hK.out _ _ ?_ (fun hHeld => ?_)
        . (try dsimp only); (first | exact HK0.out.1 | exact HK1.out.1 | exact (HK2.out _).1 | exact HK3.out.1 | exact (lns_last HA.out.1).1)
        clear hK K
        try simp only [pe]
        refine am 12 (fun K hK => ?_) ?_
        . go_simp
          refine hK.out _ _ ?_ (fun hHeld => ?_)
          . (try dsimp only); (first | exact HK0.out.1 | exact HK1.out.1 | exact (HK2.out _).1 | exact HK3.out.1 | exact (lns_last HA.out.1).1)
          clear hK K
          try simp only [pe]
          refine am 13 (fun K hK => ?_) ?_
          . (refine step_append_own rfl _ _ 50 (by rfl) n1 61 i0 _ 15 120 Tryz.underlying50 hi0 hz0 hz1 hz2 rfl (by decide) vI is.length (flatI is) (by rfl) ((HS5.out.on (bo _)).new _ rfl) ⟨w5.heap.size, 0, none⟩ 1 1 [.int .i64 iq.op, .int .i64 iq.sub, .int .i64 iq.n, .int .i64 iq.d.k, .int .i64 iq.d.n, .int .i32 iq.d.v, .int .i64 iq.a.k, .int .i64 iq.a.n, .int .i32 iq.a.v, .int .i64 iq.b.k, .int .i64 iq.b.n, .int .i32 iq.b.v, .int .i64 iq.c.k, .int .i64 iq.c.n, .int .i32 iq.c.v] (by rfl) (by rfl) (row_new w5 #[iq.op, iq.sub, iq.n, iq.d.k, iq.d.n, .int .i32 iq.d.v, iq.a.k, iq.a.n, .int .i32 iq.a.v, iq.b.k, iq.b.n, .int .i32 iq.b.v, iq.c.k, iq.c.n, .int .i32 iq.c.v] 61) (by simp [Value.oneCell']) (by unfold maxLen; omega) (by omega) (by have := HS5.out.hn.2.2; simp; omega) ?_; intro v' w8 hown' hgrow _; obtain ⟨gg, cap, rfl, _, _⟩ := hown'.form (by omega); have HA := lh (lns_app (HS5.out.on (bo _)) iq hown' hgrow); have HK3 := lh HA.out.2; clear hown' hgrow; obtain ⟨q1, q2, q3⟩ := HK3.out)
            refine hK.out _ _ ?_ (fun hHeld => ?_)
            . (try dsimp only); (first | exact HK0.out.1 | exact HK1.out.1 | exact (HK2.out _).1 | exact HK3.out.1 | exact (lns_last HA.out.1).1)
            clear hK K
            try simp only [pe]
            refine tk 14 ?_
            refine tk 15 ?_
            refine am 16 (fun K hK => ?_) ?_
            . (obtain ⟨q1, q2, q3⟩ := HK3.out; go_simp)
              refine hK.out _ _ ?_ (fun hHeld => ?_)
              . (try dsimp only); (first | exact HK0.out.1 | exact HK1.out.1 | exact (HK2.out _).1 | exact HK3.out.1 | exact (lns_last HA.out.1).1)
              clear hK K
              try simp only [pe]
              refine wpAnyH_done (by kernel_rfl) ?_ _
              subst hC
              have HF := lh HA.out.1
              obtain ⟨kb', k4, z4⟩ := HF.out.c
              unfold z8C at k4
              go_wp2
              refine bodyPost_ret (v := .agg #[(c.n 0), (c.n 1), (c.n 2), (c.n 3), (c.n 4), .slice A5 c.q.length q5, .slice A6 c.l.length q6, .slice (some ⟨gB, 0, none⟩) (init.length + 1) q7]) (by simp [results, Tryz.results74, go_sem, k4]) rfl ⟨_, _, _, rfl, _, _, _, HF.out.fin _ _ _ _ _ _ _ _⟩
            exact AllReadyH.nil
          exact AllReadyH.nil
        exact AllReadyH.nil
      exact AllReadyH.nil
    refine ax (fun K hK => ?_) ?_
    . (go_simp; go_at_call 112; refine (HI.out _ HSd.out.fd (HSd.out.fl.up (by have := HSd.out.fd.lt; omega))).mono ?_; rintro e w5 ⟨rfl, hc5⟩; have HS5 := lh (HSd.out.call2 hc5); have HK1 := lh (lns_last HS5.out); have HK2 := lh (fun o => lns_last (HS5.out.on (bo o))); clear hc5)
      refine hK.out _ _ ?_ (fun hHeld => ?_)
      . (try dsimp only); (first | exact HK0.out.1 | exact HK1.out.1 | exact (HK2.out _).1 | exact HK3.out.1 | exact (lns_last HA.out.1).1)
      clear hK K
      try simp only [pe]
      refine wpAnyH_ready (rs := [8, 12]) (by kernel_rfl) (by simp) ?_
      refine ax (fun K hK => ?_) ?_
      . (first | (have q2 := (fun o => (HK2.out o).2.1); have q1 := HK1.out.2.1; go_simp) | (have q0 := HK0.out.2.1; go_simp))
        refine hK.out _ _ ?_ (fun hHeld => ?_)
        . (try dsimp only); (first | exact HK0.out.1 | exact HK1.out.1 | exact (HK2.out _).1 | exact HK3.out.1 | exact (lns_last HA.out.1).1)
        clear hK K
        try simp only [pe]
        refine am 12 (fun K hK => ?_) ?_
        . go_simp
          refine hK.out _ _ ?_ (fun hHeld => ?_)
          . (try dsimp only); (first | exact HK0.out.1 | exact HK1.out.1 | exact (HK2.out _).1 | exact HK3.out.1 | exact (lns_last HA.out.1).1)
          clear hK K
          try simp only [pe]
          refine am 13 (fun K hK => ?_) ?_
          . (refine step_append_own rfl _ _ 50 (by rfl) n1 61 i0 _ 15 120 Tryz.underlying50 hi0 hz0 hz1 hz2 rfl (by decide) vI is.length (flatI is) (by rfl) ((HS5.out.on (bo _)).new _ rfl) ⟨w5.heap.size, 0, none⟩ 1 1 [.int .i64 iq.op, .int .i64 iq.sub, .int .i64 iq.n, .int .i64 iq.d.k, .int .i64 iq.d.n, .int .i32 iq.d.v, .int .i64 iq.a.k, .int .i64 iq.a.n, .int .i32 iq.a.v, .int .i64 iq.b.k, .int .i64 iq.b.n, .int .i32 iq.b.v, .int .i64 iq.c.k, .int .i64 iq.c.n, .int .i32 iq.c.v] (by rfl) (by rfl) (row_new w5 #[iq.op, iq.sub, iq.n, iq.d.k, iq.d.n, .int .i32 iq.d.v, iq.a.k, iq.a.n, .int .i32 iq.a.v, iq.b.k, iq.b.n, .int .i32 iq.b.v, iq.c.k, iq.c.n, .int .i32 iq.c.v] 61) (by simp [Value.oneCell']) (by unfold maxLen; omega) (by omega) (by have := HS5.out.hn.2.2; simp; omega) ?_; intro v' w8 hown' hgrow _; obtain ⟨gg, cap, rfl, _, _⟩ := hown'.form (by omega); have HA := lh (lns_app (HS5.out.on (bo _)) iq hown' hgrow); have HK3 := lh HA.out.2; clear hown' hgrow; obtain ⟨q1, q2, q3⟩ := HK3.out)
            refine hK.out _ _ ?_ (fun hHeld => ?_)
            . (try dsimp only); (first | exact HK0.out.1 | exact HK1.out.1 | exact (HK2.out _).1 | exact HK3.out.1 | exact (lns_last HA.out.1).1)
            clear hK K
            try simp only [pe]
            refine tk 14 ?_
            refine tk 15 ?_
            refine am 16 (fun K hK => ?_) ?_
            . (obtain ⟨q1, q2, q3⟩ := HK3.out; go_simp)
              refine hK.out _ _ ?_ (fun hHeld => ?_)
              . (try dsimp only); (first | exact HK0.out.1 | exact HK1.out.1 | exact (HK2.out _).1 | exact HK3.out.1 | exact (lns_last HA.out.1).1)
              clear hK K
              try simp only [pe]
              refine wpAnyH_done (by kernel_rfl) ?_ _
              subst hC
              have HF := lh HA.out.1
              obtain ⟨kb', k4, z4⟩ := HF.out.c
              unfold z8C at k4
              go_wp2
              refine bodyPost_ret (v := .agg #[(c.n 0), (c.n 1), (c.n 2), (c.n 3), (c.n 4), .slice A5 c.q.length q5, .slice A6 c.l.length q6, .slice (some ⟨gB, 0, none⟩) (init.length + 1) q7]) (by simp [results, Tryz.results74, go_sem, k4]) rfl ⟨_, _, _, rfl, _, _, _, HF.out.fin _ _ _ _ _ _ _ _⟩
            exact AllReadyH.nil
          exact AllReadyH.nil
        exact AllReadyH.nil
      refine ax (fun K hK => ?_) ?_
      . go_simp
        refine hK.out _ _ ?_ (fun hHeld => ?_)
        . (try dsimp only); (first | exact HK0.out.1 | exact HK1.out.1 | exact (HK2.out _).1 | exact HK3.out.1 | exact (lns_last HA.out.1).1)
        clear hK K
        try simp only [pe]
        refine am 8 (fun K hK => ?_) ?_
        . (first | (have q2 := (fun o => (HK2.out o).2.1); have q1 := HK1.out.2.1; go_simp) | (have q0 := HK0.out.2.1; go_simp))
          refine hK.out _ _ ?_ (fun hHeld => ?_)
          . (try dsimp only); (first | exact HK0.out.1 | exact HK1.out.1 | exact (HK2.out _).1 | exact HK3.out.1 | exact (lns_last HA.out.1).1)
          clear hK K
          try simp only [pe]
          refine am 13 (fun K hK => ?_) ?_
          . (refine step_append_own rfl _ _ 50 (by rfl) n1 61 i0 _ 15 120 Tryz.underlying50 hi0 hz0 hz1 hz2 rfl (by decide) vI is.length (flatI is) (by rfl) ((HS5.out.on (bo _)).new _ rfl) ⟨w5.heap.size, 0, none⟩ 1 1 [.int .i64 iq.op, .int .i64 iq.sub, .int .i64 iq.n, .int .i64 iq.d.k, .int .i64 iq.d.n, .int .i32 iq.d.v, .int .i64 iq.a.k, .int .i64 iq.a.n, .int .i32 iq.a.v, .int .i64 iq.b.k, .int .i64 iq.b.n, .int .i32 iq.b.v, .int .i64 iq.c.k, .int .i64 iq.c.n, .int .i32 iq.c.v] (by rfl) (by rfl) (row_new w5 #[iq.op, iq.sub, iq.n, iq.d.k, iq.d.n, .int .i32 iq.d.v, iq.a.k, iq.a.n, .int .i32 iq.a.v, iq.b.k, iq.b.n, .int .i32 iq.b.v, iq.c.k, iq.c.n, .int .i32 iq.c.v] 61) (by simp [Value.oneCell']) (by unfold maxLen; omega) (by omega) (by have := HS5.out.hn.2.2; simp; omega) ?_; intro v' w8 hown' hgrow _; obtain ⟨gg, cap, rfl, _, _⟩ := hown'.form (by omega); have HA := lh (lns_app (HS5.out.on (bo _)) iq hown' hgrow); have HK3 := lh HA.out.2; clear hown' hgrow; obtain ⟨q1, q2, q3⟩ := HK3.out)
            refine hK.out _ _ ?_ (fun hHeld => ?_)
            . (try dsimp only); (first | exact HK0.out.1 | exact HK1.out.1 | exact (HK2.out _).1 | exact HK3.out.1 | exact (lns_last HA.out.1).1)
            clear hK K
            try simp only [pe]
            refine tk 14 ?_
            refine tk 15 ?_
            refine am 16 (fun K hK => ?_) ?_
            . (obtain ⟨q1, q2, q3⟩ := HK3.out; go_simp)
              refine hK.out _ _ ?_ (fun hHeld => ?_)
              . (try dsimp only); (first | exact HK0.out.1 | exact HK1.out.1 | exact (HK2.out _).1 | exact HK3.out.1 | exact (lns_last HA.out.1).1)
              clear hK K
              try simp only [pe]
              refine wpAnyH_done (by kernel_rfl) ?_ _
              subst hC
              have HF := lh HA.out.1
              obtain ⟨kb', k4, z4⟩ := HF.out.c
              unfold z8C at k4
              go_wp2
              refine bodyPost_ret (v := .agg #[(c.n 0), (c.n 1), (c.n 2), (c.n 3), (c.n 4), .slice A5 c.q.length q5, .slice A6 c.l.length q6, .slice (some ⟨gB, 0, none⟩) (init.length + 1) q7]) (by simp [results, Tryz.results74, go_sem, k4]) rfl ⟨_, _, _, rfl, _, _, _, HF.out.fin _ _ _ _ _ _ _ _⟩
            exact AllReadyH.nil
          exact AllReadyH.nil
        exact AllReadyH.nil
      exact AllReadyH.nil
    exact AllReadyH.nil
  . rw [if_neg ho] at hC
    by_cases hk : (0 : Int) < kindQ wd
    . rw [if_pos hk] at hC
      have hkr := kindQ_range hk
      obtain ⟨tq, htq⟩ : ∃ tq, endQ (kindQ wd) fs.tail = tq := ⟨_, rfl⟩
      have HE := lh (fun (V : World) (hf : FdK bf (.slice A fs.length cc) fs 1 V) (hL : FdL V.heap.size bf (.slice A fs.length cc)) => end_any bf _ fs V (kindQ wd) hkr hf hL hfl hfs2)
      rw [htq] at HE hC
      simp only [TermV.val] at HE
      have HSd := lh (HS.out.on (show Below V.heap.size V V.drew from ⟨rfl, rfl, rfl, Nat.le_refl _, fun _ _ => rfl⟩))
      have HK0 := lh (lns_last HSd.out.fin)
      obtain ⟨k7, kI, kf⟩ := lns_last HS.out.fin
      have kb := HS.out.lx.k
      have hx0 : 0 <= (init.length : Int) := by omega
      have hx1 : (init.length : Int) < (init.length : Int) + 1 := by omega
      have hx2 : IntKind.i64.wrap (init.length : Int) = (init.length : Int) := IntWalk.i64_in _ (by omega)
      go_upto_region 28 with fail
      refine wp_region_held_drew (S := (fun w' => w'.cell? ⟨b, 7, none⟩ = some (.slice (some ⟨gB, 0, none⟩) (init.length + 1) q7))) (by kernel_rfl) ?_ (fun hHeld => ?_)
      . (try dsimp only); (first | exact HK0.out.1 | exact HK1.out.1 | exact (lns_last HA.out).1)
      refine tk 0 ?_
      refine tk 1 ?_
      refine tk 2 ?_
      refine tk 3 ?_
      refine tk 6 ?_
      refine tk 7 ?_
      refine wpAnyH_ready (rs := [4, 8]) (by kernel_rfl) (by simp) ?_
      refine ax (fun K hK => ?_) ?_
      . go_simp
        refine hK.out _ _ ?_ (fun hHeld => ?_)
        . (try dsimp only); (first | exact HK0.out.1 | exact HK1.out.1 | exact (lns_last HA.out).1)
        clear hK K
        try simp only [pe]
        refine tk 5 ?_
        refine am 8 (fun K hK => ?_) ?_
        . (go_simp; go_at_call 113; refine (HE.out _ HSd.out.fd (HSd.out.fl.up (by have := HSd.out.fd.lt; omega))).mono ?_; rintro e w5 ⟨rfl, hc5⟩; have HS5 := lh (HSd.out.call2 hc5); have HK1 := lh (lns_last HS5.out); clear hc5)
          refine hK.out _ _ ?_ (fun hHeld => ?_)
          . (try dsimp only); (first | exact HK0.out.1 | exact HK1.out.1 | exact (lns_last HA.out).1)
          clear hK K
          try simp only [pe]
          refine tk 9 ?_
          refine tk 10 ?_
          refine am 11 (fun K hK => ?_) ?_
          . (refine step_store_mid rfl 53 _ _ rfl gB (init.length * 14 + 1) #[tq.kind, tq.sub, tq.d.k, tq.d.n, .int .i32 tq.d.v, tq.a.k, tq.a.n, .int .i32 tq.a.v, tq.b.k, tq.b.n, .int .i32 tq.b.v, tq.t0, tq.t1] (by rfl) (by rfl) (fun j hj => lns_there HS5.out j hj) (by kernel_rfl) (by simp [Value.oneCell']) ?_; have HA := lh (show LnF w0 n0 n1 b _ _ _ _ _ _ (w5.setCells gB (init.length * 14 + 1) (#[tq.kind, tq.sub, tq.d.k, tq.d.n, .int .i32 tq.d.v, tq.a.k, tq.a.n, .int .i32 tq.a.v, tq.b.k, tq.b.n, .int .i32 tq.b.v, tq.t0, tq.t1] : Array Value).toList) from lns_end HS5.out tq); generalize w5.setCells gB (init.length * 14 + 1) (#[tq.kind, tq.sub, tq.d.k, tq.d.n, .int .i32 tq.d.v, tq.a.k, tq.a.n, .int .i32 tq.a.v, tq.b.k, tq.b.n, .int .i32 tq.b.v, tq.t0, tq.t1] : Array Value).toList = W9 at HA ⊢)
            refine hK.out _ _ ?_ (fun hHeld => ?_)
            . (try dsimp only); (first | exact HK0.out.1 | exact HK1.out.1 | exact (lns_last HA.out).1)
            clear hK K
            try simp only [pe]
            refine wpAnyH_done (by kernel_rfl) ?_ _
            subst hC
            have HF := lh HA.out
            obtain ⟨kb', k4, z4⟩ := HF.out.c
            unfold z8C at k4
            go_wp2
            refine bodyPost_ret (v := .agg #[(c.n 0), (c.n 1), (c.n 2), (c.n 3), (c.n 4), .slice A5 c.q.length q5, .slice A6 c.l.length q6, .slice (some ⟨gB, 0, none⟩) (init.length + 1) q7]) (by simp [results, Tryz.results74, go_sem, k4]) rfl ⟨_, _, _, rfl, _, _, _, HF.out.fin _ _ _ _ _ _ _ _⟩
          exact AllReadyH.nil
        exact AllReadyH.nil
      refine ax (fun K hK => ?_) ?_
      . (go_simp; go_at_call 113; refine (HE.out _ HSd.out.fd (HSd.out.fl.up (by have := HSd.out.fd.lt; omega))).mono ?_; rintro e w5 ⟨rfl, hc5⟩; have HS5 := lh (HSd.out.call2 hc5); have HK1 := lh (lns_last HS5.out); clear hc5)
        refine hK.out _ _ ?_ (fun hHeld => ?_)
        . (try dsimp only); (first | exact HK0.out.1 | exact HK1.out.1 | exact (lns_last HA.out).1)
        clear hK K
        try simp only [pe]
        refine am 4 (fun K hK => ?_) ?_
        . go_simp
          refine hK.out _ _ ?_ (fun hHeld => ?_)
          . (try dsimp only); (first | exact HK0.out.1 | exact HK1.out.1 | exact (lns_last HA.out).1)
          clear hK K
          try simp only [pe]
          refine tk 5 ?_
          refine tk 9 ?_
          refine tk 10 ?_
          refine am 11 (fun K hK => ?_) ?_
          . (refine step_store_mid rfl 53 _ _ rfl gB (init.length * 14 + 1) #[tq.kind, tq.sub, tq.d.k, tq.d.n, .int .i32 tq.d.v, tq.a.k, tq.a.n, .int .i32 tq.a.v, tq.b.k, tq.b.n, .int .i32 tq.b.v, tq.t0, tq.t1] (by rfl) (by rfl) (fun j hj => lns_there HS5.out j hj) (by kernel_rfl) (by simp [Value.oneCell']) ?_; have HA := lh (show LnF w0 n0 n1 b _ _ _ _ _ _ (w5.setCells gB (init.length * 14 + 1) (#[tq.kind, tq.sub, tq.d.k, tq.d.n, .int .i32 tq.d.v, tq.a.k, tq.a.n, .int .i32 tq.a.v, tq.b.k, tq.b.n, .int .i32 tq.b.v, tq.t0, tq.t1] : Array Value).toList) from lns_end HS5.out tq); generalize w5.setCells gB (init.length * 14 + 1) (#[tq.kind, tq.sub, tq.d.k, tq.d.n, .int .i32 tq.d.v, tq.a.k, tq.a.n, .int .i32 tq.a.v, tq.b.k, tq.b.n, .int .i32 tq.b.v, tq.t0, tq.t1] : Array Value).toList = W9 at HA ⊢)
            refine hK.out _ _ ?_ (fun hHeld => ?_)
            . (try dsimp only); (first | exact HK0.out.1 | exact HK1.out.1 | exact (lns_last HA.out).1)
            clear hK K
            try simp only [pe]
            refine wpAnyH_done (by kernel_rfl) ?_ _
            subst hC
            have HF := lh HA.out
            obtain ⟨kb', k4, z4⟩ := HF.out.c
            unfold z8C at k4
            go_wp2
            refine bodyPost_ret (v := .agg #[(c.n 0), (c.n 1), (c.n 2), (c.n 3), (c.n 4), .slice A5 c.q.length q5, .slice A6 c.l.length q6, .slice (some ⟨gB, 0, none⟩) (init.length + 1) q7]) (by simp [results, Tryz.results74, go_sem, k4]) rfl ⟨_, _, _, rfl, _, _, _, HF.out.fin _ _ _ _ _ _ _ _⟩
          exact AllReadyH.nil
        exact AllReadyH.nil
      exact AllReadyH.nil
    . rw [if_neg hk] at hC
      replace hC : c = C := by
       rw [<- hC]
      subst hC
      have HF := lh HS.out.fin
      obtain ⟨kb, k4, z4⟩ := HF.out.c
      unfold z8C at k4
      go_wp2
      refine bodyPost_ret (v := .agg #[(c.n 0), (c.n 1), (c.n 2), (c.n 3), (c.n 4), .slice A5 c.q.length q5, .slice A6 c.l.length q6, .slice (some ⟨gB, 0, none⟩) (init.length + 1) q7]) (by simp [results, Tryz.results74, go_sem, k4]) rfl ⟨_, _, _, rfl, _, _, _, HF.out.fin _ _ _ _ _ _ _ _⟩
end Go.Proofs.YtkncilgmlkeifaaGreatDoor
