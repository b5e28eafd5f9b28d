import Derived.Lib.IndexBytes
import Derived.RangeFuncNested
import Derived.RangeFuncBox
import Derived.RangeFuncCalls
/-
  The lines of a text, each with its line feed: plain words.
-/
set_option linter.unusedVariables false
set_option linter.unusedSimpArgs false
namespace Go.Proofs.YtkncilgmlkeifaaGreatDoor
def linesL : List UInt8 -> List (List UInt8)
 | [] => []
 | c :: r => if c = 10 then [c] :: linesL r else match linesL r with
  | [] => [[c]]
  | x :: xs => (c :: x) :: xs
theorem ixb_cons (c : UInt8) (r : List UInt8) : (c = 10 /\ Lib.indexByte (c :: r) 10 = 0) \/ (c ≠ 10 /\ Lib.indexByte r 10 = -1 /\ Lib.indexByte (c :: r) 10 = -1) \/ (c ≠ 10 /\ 0 <= Lib.indexByte r 10 /\ Lib.indexByte (c :: r) 10 = Lib.indexByte r 10 + 1) := by
 have h := Lib.indexByte_ge r 10
 by_cases hc : c = 10
 . exact .inl ⟨hc, by rw [Lib.indexByte, if_pos (by simpa using hc)]⟩
 . by_cases hr : Lib.indexByte r 10 = -1
   . exact .inr (.inl ⟨hc, hr, by rw [Lib.indexByte, if_neg (by simpa using hc), if_pos (by simpa using hr)]⟩)
   . exact .inr (.inr ⟨hc, by omega, by rw [Lib.indexByte, if_neg (by simpa using hc), if_neg (by simpa using hr)]⟩)
theorem linesL_none : ∀ {l : List UInt8}, l ≠ [] -> Lib.indexByte l 10 = -1 -> linesL l = [l]
 | [], h, _ => absurd rfl h
 | c :: r, _, h => by
  rcases ixb_cons c r with ⟨h1, h2⟩ | ⟨h1, h2, h3⟩ | ⟨h1, h2, h3⟩
  . omega
  . cases r with
    | nil => rw [linesL, if_neg h1]; rfl
    | cons d r =>
     rw [linesL, if_neg h1, linesL_none (by simp) h2]
  . omega
theorem linesL_some : ∀ {l : List UInt8} {k : Nat}, Lib.indexByte l 10 = (k : Int) -> k < l.length /\ linesL l = l.take (k + 1) :: linesL (l.drop (k + 1))
 | [], k, h => by
  rw [Lib.indexByte] at h
  omega
 | c :: r, k, h => by
  rcases ixb_cons c r with ⟨h1, h2⟩ | ⟨h1, h2, h3⟩ | ⟨h1, h2, h3⟩
  . have : k = 0 := by omega
    subst this
    exact ⟨by simp, by rw [linesL, if_pos h1]; rfl⟩
  . omega
  . obtain ⟨j, hj⟩ : ∃ j : Nat, Lib.indexByte r 10 = (j : Int) := ⟨(Lib.indexByte r 10).toNat, by omega⟩
    obtain ⟨a, b⟩ := linesL_some hj
    have : k = j + 1 := by omega
    subst this
    refine ⟨by simp; omega, ?_⟩
    rw [linesL, if_neg h1, b]
    rfl
theorem linesL_size : ∀ (l : List UInt8), (linesL l).length <= l.length /\ ∀ x, x ∈ linesL l -> x.length <= l.length
 | [] => ⟨by simp [linesL], by simp [linesL]⟩
 | c :: r => by
  obtain ⟨h1, h2⟩ := linesL_size r
  by_cases hc : c = 10
  . rw [linesL, if_pos hc]
    refine ⟨by simp; omega, fun x hx => ?_⟩
    rcases List.mem_cons.1 hx with rfl | hx
    . simp
    . have := h2 x hx
      simp; omega
  . rw [linesL, if_neg hc]
    cases e : linesL r with
    | nil =>
     refine ⟨by simp, fun x hx => ?_⟩
     rw [List.mem_singleton] at hx
     subst hx
     simp
    | cons y ys =>
     rw [e] at h1 h2
     refine ⟨by simp at h1 ⊢; omega, fun x hx => ?_⟩
     rcases List.mem_cons.1 hx with rfl | hx
     . have := h2 y (by simp)
       simp; omega
     . have := h2 x (List.mem_cons_of_mem _ hx)
       simp; omega
def lineN (s : ByteArray) (k : Nat) : ByteArray := ⟨((linesL s.data.toList).getD k []).toArray⟩
def nLines (s : ByteArray) : Nat := (linesL s.data.toList).length
theorem nLines_le (s : ByteArray) : nLines s <= s.size := by
 have := (linesL_size s.data.toList).1
 rw [<- Lib.size_eq] at this
 exact this
theorem lineN_size (s : ByteArray) (k : Nat) : (lineN s k).size <= s.size := by
 show (Array.size _) <= _
 by_cases h : k < (linesL s.data.toList).length
 . have := (linesL_size s.data.toList).2 _ (List.getElem_mem h)
   rw [<- Lib.size_eq] at this
   rw [List.getD_eq_getElem?_getD, List.getElem?_eq_getElem h]
   simpa using this
 . rw [List.getD_eq_getElem?_getD, List.getElem?_eq_none (by omega)]
   simp
def AtLine (s t : ByteArray) (k : Nat) : Prop := linesL t.data.toList = (linesL s.data.toList).drop k /\ k <= nLines s
theorem AtLine.start (s : ByteArray) : AtLine s s 0 := ⟨rfl, Nat.zero_le _⟩
theorem AtLine.done {s t : ByteArray} {k : Nat} (h : AtLine s t k) (h0 : t.size = 0) : k = nLines s := by
 obtain ⟨h1, h2⟩ := h
 have e : t.data.toList = [] := by
  apply List.eq_nil_of_length_eq_zero
  rw [<- Lib.size_eq]; exact h0
 rw [e] at h1
 have := congrArg List.length h1
 simp [linesL] at this
 unfold nLines at *
 omega
theorem drop_cons {α : Type} {l : List α} {k : Nat} {x : α} {xs : List α} (d : α) (h : l.drop k = x :: xs) : k < l.length /\ l.getD k d = x /\ l.drop (k + 1) = xs := by
 have hk : k < l.length := by
  rcases Nat.lt_or_ge k l.length with h' | h'
  . exact h'
  . rw [List.drop_eq_nil_of_le h'] at h; cases h
 rw [List.drop_eq_getElem_cons hk] at h
 injection h with h1 h2
 exact ⟨hk, by rw [List.getD_eq_getElem?_getD, List.getElem?_eq_getElem hk]; exact h1, h2⟩
theorem AtLine.some {s t : ByteArray} {k j : Nat} (h : AtLine s t k) (hj : Lib.indexByte t.data.toList 10 = (j : Int)) :
 j < t.size /\ k < nLines s /\ lineN s k = t.extract 0 (j + 1) /\ AtLine s (t.extract (j + 1) t.size) (k + 1) := by
 obtain ⟨h1, h2⟩ := h
 obtain ⟨a, b⟩ := linesL_some hj
 rw [b] at h1
 obtain ⟨c1, c2, c3⟩ := drop_cons [] h1.symm
 refine ⟨by rw [Lib.size_eq]; exact a, c1, ?_, ?_, c1⟩
 . have e : lineN s k = ⟨(t.data.toList.take (j + 1)).toArray⟩ := by unfold lineN; rw [c2]
   have e2 := Lib.extract_data t 0 (j + 1)
   rw [e]
   cases hx : t.extract 0 (j + 1) with
   | mk d =>
    rw [hx] at e2
    simp at e2
    rw [<- e2]
 . rw [Lib.extract_to_end, c3]
theorem AtLine.none {s t : ByteArray} {k : Nat} (h : AtLine s t k) (h0 : 0 < t.size) (hj : Lib.indexByte t.data.toList 10 = -1) :
 k < nLines s /\ lineN s k = t /\ AtLine s ⟨#[]⟩ (k + 1) := by
 obtain ⟨h1, h2⟩ := h
 rw [linesL_none (fun e => by rw [Lib.size_eq, e] at h0; simp at h0) hj] at h1
 obtain ⟨c1, c2, c3⟩ := drop_cons [] h1.symm
 refine ⟨c1, ?_, ?_, c1⟩
 . unfold lineN
   rw [c2]
 . rw [c3]
   rfl
end Go.Proofs.YtkncilgmlkeifaaGreatDoor
/-
  A range over an iterator that keeps its place in a box of its own: the statement's law.
-/
namespace Go.Proofs.YtkncilgmlkeifaaGreatDoor
open Go.RowKit
structure AbidesBox (b : Nat) (t : TypeId) (J : Nat -> World -> Prop) : Prop where
 calm : ∀ k A B, J k A -> A.grownBy B none -> J k B
 store : ∀ k A v u, J k A -> Boxed A b t v -> J k (A.setCell ⟨b, 0, none⟩ u)
def GivesBox (F : Fence) (n : Nat) (P : Program) (g b : Nat) (t : TypeId) (v0 : Value) (enc : Nat -> Value) (N : Nat) : Prop :=
 ∀ (l : Nat) (J : Nat -> World -> Prop) (W : World), AbidesBox b t J ->
  (∀ k A, J k A -> k < N -> YieldAt F (n - 1) P l #[enc k] A fun e B => e = .returned (.bool true) /\ J (k + 1) B /\ B.heap[b]? = A.heap[b]?) ->
  J 0 W -> Boxed W b t v0 -> CallsIn F n P g #[.func (.yield l) #[] #[], .pointer (some ⟨b, 0, none⟩)] W fun e W' => (∃ v, e = .returned v) /\ J N W'
def boxPost (B b : Nat) (J : World -> Prop) (W : World) : Exit -> Act -> World -> Prop
 | .normal, _, W' => (∀ k, B <= k -> k < B + 2 -> W'.heap[k]? = W.heap[k]?) /\ W'.heap[b]? = W.heap[b]? /\ J W'
 | _, _, _ => False
theorem putObj_at {W : World} {l b : Nat} (h : b ≠ l) (o : Obj) : (W.putObj l o).heap[b]? = W.heap[b]? := World.putObj_heap_other h
theorem other_row {W : World} {b l : Nat} {t : TypeId} {v u : Value} {o : Obj} (hb : Boxed W b t v) (hl : W.heap[l]? = some o) (ho : o.isCells = false) : (W.setCell ⟨b, 0, none⟩ u).heap[l]? = some o := by
 refine (Below.heap_setCell W ⟨b, 0, none⟩ u l ?_).trans hl
 rintro rfl
 have := (show W.heap[l]? = _ from hb).symm.trans hl
 cases this
 cases ho
variable {F : Fence} {n : Nat} {P : Program}
theorem range_box {g : Operand} {ps : Array Tmp} {assign body : Code} {Q : Exit -> Act -> World -> Prop} {a : Act} {w : World} {gf b N : Nat} {t : TypeId} {v0 : Value} {enc : Nat -> Value}
 (hro : F.round = none) (h1 : 1 <= n) (hg : a.eval g = .func (.func gf) #[] #[.pointer (some ⟨b, 0, none⟩)]) (hF : F.fn gf) (eg : ∀ args w, (callFunc gf args).run P w = .ok (.enter gf args) w)
 (hseq : GivesBox F (n - 1) P gf b t v0 enc N) (hps : ps.size = 1) (hbox : Boxed w b t v0)
 (I : Nat -> World -> Prop) (hI : OwnFrom w.heap.size I) (hIs : ∀ k A v u, I k A -> Boxed A b t v -> I k (A.setCell ⟨b, 0, none⟩ u)) (h0 : ∀ o, I 0 ((w.alloc (.deferred (some []))).alloc o)) (a₁ : Nat -> Act)
 (hassign : ∀ (l k : Nat) (W : World) (K : Act -> World -> Prop), K (a₁ k) W ->
  assign.wpIn (F.inRound l) (n - 1 - 1) P (Exit.then K (fun _ _ _ => False)) { tmps := (ps.zip #[enc k]).foldl (fun t (p, v) => t.setIfInBounds p v) a.tmps, defers := [] } W)
 (hbody : ∀ (l k : Nat) (W : World), I k W -> k < N -> body.wpIn (F.inRound l) (n - 1 - 1) P (boxPost w.heap.size b (I (k + 1)) W) (a₁ k) W)
 (hdone : ∀ (D : Nat) (W : World), w.heap.size <= D -> I N W -> W.heap[D]? = some (.deferred (some [])) -> Q .normal { a with defers := { target := .collected D, args := #[] } :: a.defers } W) :
 (Code.rangeFunc g ps assign body).wpIn F n P Q a w := by
 have hbl := hbox.lt
 refine wpIn_rangeFunc fun fn hfn => ?_
 rw [hro]
 let rc : LoopState -> Loop := fun st => { state := st, pending := none, fn := fn, tmps := a.tmps, params := ps, assign := assign, body := body, defers := w.heap.size }
 let D0 := w.heap.size
 let W1 := (w.alloc (.deferred (some []))).alloc (.loop (rc .ready))
 have s1 : (w.alloc (.deferred (some []))).heap.size = D0 + 1 := World.size_alloc _ _
 have l1 : W1.heap[D0 + 1]? = some (.loop (rc .ready)) := by rw [<- s1]; exact World.alloc_heap_new _ _
 have d1 : W1.heap[D0]? = some (.deferred (some [])) := (Below.heap_alloc _ _ _ (by rw [s1]; omega)).trans (World.alloc_heap_new w _)
 have b1 : Boxed W1 b t v0 := (hbox.alloc _).alloc _
 let J : Nat -> World -> Prop := fun k W => I k W /\ W.heap[D0 + 1]? = some (.loop (rc .ready)) /\ W.heap[D0]? = some (.deferred (some []))
 have hJ : AbidesBox b t J := by
  refine ⟨fun k A B h hgr => ⟨hI k A B none h.1 hgr (fun r e => by cases e), ?_, ?_⟩, fun k A v u h hv => ⟨hIs k A v u h.1 hv, other_row hv h.2.1 rfl, other_row hv h.2.2 rfl⟩⟩
  . exact (hgr.block _ (Array.getElem?_eq_some_iff.1 h.2.1).1 (by simp)).trans h.2.1
  . exact (hgr.block _ (Array.getElem?_eq_some_iff.1 h.2.2).1 (by simp)).trans h.2.2
 refine ⟨D0 + 1, [{ target := .collected D0, args := #[] }], W1, { target := .fn (.func gf) #[.pointer (some ⟨b, 0, none⟩)], args := #[.func (.yield (D0 + 1)) #[] #[]] }, W1, gf,
  #[.func (.yield (D0 + 1)) #[] #[]] ++ #[.pointer (some ⟨b, 0, none⟩)], W1, run_enterLoop_outer _ _ _ _ _, ?_, ?_, ?_, fun _ => h1, ?_⟩
 . simp only [resolve, hg]
   simp [go_sem]
 . intro f' hf'
   simp [Target.leads] at hf'
   subst hf'
   exact hF
 . simp [invoke, go_sem, eg]
 refine (hseq (D0 + 1) J W1 hJ ?_ ⟨h0 _, l1, d1⟩ b1).mono ?_
 . -- one round
   rintro k A ⟨hi, hl, hd⟩ hk
   have hlt : D0 + 1 < A.heap.size := (Array.getElem?_eq_some_iff.1 hl).1
   have hy := run_yield (P := P) (args := #[enc k]) hl (by show 1 = ps.size; rw [hps])
   refine ⟨fn, _, assign, body, hy, roundIn_of_wpIn hfn (hassign _ k A _ ⟨_, run_beginRound hl rfl, ?_⟩)⟩
   let B := A.putObj (D0 + 1) (.loop (rc .busy))
   have hlB : B.heap[D0 + 1]? = some (.loop (rc .busy)) := World.putObj_heap_same hlt
   have hdB : B.heap[D0]? = some (.deferred (some [])) := (putObj_at (by omega) _).trans hd
   have hbB : B.heap[b]? = A.heap[b]? := putObj_at (by omega) _
   refine wpIn_mono (hbody _ k B (hI.putObj _ hi (by omega) hl rfl) hk) ?_
   rintro e a3 C hC
   cases e with
   | normal =>
    obtain ⟨hkf, hbC, hiC⟩ := hC
    have hlC := (hkf (D0 + 1) (show w.heap.size <= D0 + 1 by omega) (show D0 + 1 < w.heap.size + 2 by omega)).trans hlB
    have hdC := (hkf D0 (Nat.le_refl _) (show D0 < w.heap.size + 2 by omega)).trans hdB
    refine ⟨_, _, run_endRound none hlC, rfl, ⟨hI.putObj _ hiC (by omega) hlC rfl, World.putObj_heap_same (Array.getElem?_eq_some_iff.1 hlC).1, (putObj_at (by omega) _).trans hdC⟩, ?_⟩
    exact (putObj_at (by omega) _).trans (hbC.trans hbB)
   | ret => exact hC.elim
   | exit id => exact hC.elim
   | goto t => exact hC.elim
   | panic ch => exact hC.elim
   | outgrown => exact hC.elim
 . rintro e W2 ⟨⟨v, rfl⟩, hi, hl, hd⟩
   exact ⟨none, _, run_endLoop hl (by simp [rc]), hdone D0 _ (Nat.le_refl _) (hI.putObj _ hi (by omega) hl rfl) ((putObj_at (by omega) _).trans hd)⟩
end Go.Proofs.YtkncilgmlkeifaaGreatDoor
