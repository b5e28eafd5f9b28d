/-
  Package code: the reader: what it holds between lines.
-/
import Derived.Test.YtkncilgmlkeifaaGreatDoorPrw
set_option linter.unusedVariables false
set_option linter.unusedSimpArgs false
namespace Go.Proofs.YtkncilgmlkeifaaGreatDoor
open Go.ChangeShapes Go.WideShapes Go.ChangeAt Go.RowKit Go.Shelf

abbrev ArV := ByteArray × Int × Int × Int
abbrev LoV := Int × Int × Int
abbrev BlE := Value × List InstV × TermV
def arC (a : ArV) : List Value := [.string a.1, .int .i64 a.2.1, .int .i64 a.2.2.1, .int .i64 a.2.2.2]
def loC (l : LoV) : List Value := [.int .i64 l.1, .int .i64 l.2.1, .int .i64 l.2.2]
def TermV.cells (t : TermV) : List Value := [.int .i64 t.kind, .int .i64 t.sub, .int .i64 t.d.k, .int .i64 t.d.n, .int .i32 t.d.v, .int .i64 t.a.k, .int .i64 t.a.n, .int .i32 t.a.v, .int .i64 t.b.k, .int .i64 t.b.n, .int .i32 t.b.v, .int .i64 t.t0, .int .i64 t.t1]
def blC (e : BlE) : List Value := e.1 :: e.2.2.cells
def flatA (l : List ArV) : List Value := l.flatMap arC
def flatL (l : List LoV) : List Value := l.flatMap loC
def flatB (l : List BlE) : List Value := l.flatMap blC
theorem flatA_snoc (l : List ArV) (a : ArV) : flatA (l ++ [a]) = flatA l ++ arC a := by simp [flatA]
theorem flatL_snoc (l : List LoV) (a : LoV) : flatL (l ++ [a]) = flatL l ++ loC a := by simp [flatL]
theorem flatB_snoc (l : List BlE) (a : BlE) : flatB (l ++ [a]) = flatB l ++ blC a := by simp [flatB]
theorem flatB_len (l : List BlE) : (flatB l).length = l.length * 14 := by
  induction l with
  | nil => rfl
  | cons e l ih =>
    have : flatB (e :: l) = blC e ++ flatB l := by simp [flatB]
    rw [this, List.length_append, ih]
    simp [blC, TermV.cells]
    omega
structure RM (rb n0 n1 : Nat) (g : Nat → Value) (qs : List ArV) (ls : List LoV) (init : List BlE) (last : Option BlE) (W : World) : Prop where
  row : W.rowIs rb 166 9 g
  arr : W.ownsRow n0 91 4 (g 5) qs.length (flatA qs)
  loops : W.ownsRow n0 85 3 (g 6) ls.length (flatL ls)
  blocks : W.ownsRow n0 55 14 (g 7) (init ++ last.toList).length (flatB (init ++ last.toList))
  old : ∀ e, e ∈ init → W.ownsRow n0 61 15 e.1 e.2.1.length (flatI e.2.1) ∧ ∀ k, e.1.ownBlock = some k → k < n1
  new : ∀ e, last = some e → W.ownsRow n1 61 15 e.1 e.2.1.length (flatI e.2.1)
  hn : n0 ≤ n1 ∧ n1 ≤ W.heap.size
/-- The blocks of these kinds stay. -/
def Kept (S : TypeId → Prop) (W W' : World) : Prop := ∀ (k : Nat) (C : Array Value) (T : TypeId) (fr : Nat × Nat), W.heap[k]? = some (Obj.cells C T fr) → S T → W'.heap[k]? = W.heap[k]?
theorem row_kept {W W' : World} {base e size n : Nat} {v : Value} {xs : List Value} {S : TypeId → Prop} (h : W.ownsRow base e size v n xs) (hk : Kept S W W') (hS : S e) : W'.ownsRow base e size v n xs :=
  row_other (k := 0) h (fun g C fr hg => hk g C e fr hg hS)
theorem grow_kept {W W' : World} {base e size n : Nat} {v : Value} {xs : List Value} (h : W.ownsRow base e size v n xs) (hg : W.grownBy W' v.ownBlock) : Kept (· ≠ e) W W' := by
  intro k C T fr hk hT
  refine hg.block k (Array.getElem?_eq_some_iff.1 hk).1 (fun e1 => ?_)
  rcases h.2 with ⟨rfl, _⟩ | ⟨g, cap, cur, rfl, hbg, hgg, _⟩
  · cases e1
  · simp only [Value.ownBlock] at e1
    injection e1 with e1
    subst e1
    rw [hgg] at hk
    injection hk with hk
    injection hk with _ h2 _
    exact hT h2.symm
theorem RM.keep {rb n0 n1 : Nat} {g g' : Nat → Value} {qs : List ArV} {ls : List LoV} {init : List BlE} {last : Option BlE} {W W' : World} (h : RM rb n0 n1 g qs ls init last W) (hr : W'.rowIs rb 166 9 g') (h5 : g' 5 = g 5) (h6 : g' 6 = g 6) (h7 : g' 7 = g 7)
    (hk : Kept (· ≠ 166) W W') (hs : W.heap.size ≤ W'.heap.size) : RM rb n0 n1 g' qs ls init last W' := by
  refine ⟨hr, ?_, ?_, ?_, ?_, ?_, ?_⟩
  · rw [h5]; exact row_kept h.arr hk (by decide)
  · rw [h6]; exact row_kept h.loops hk (by decide)
  · rw [h7]; exact row_kept h.blocks hk (by decide)
  · exact fun e he => ⟨row_kept (h.old e he).1 hk (by decide), (h.old e he).2⟩
  · exact fun e he => row_kept (h.new e he) hk (by decide)
  · have := h.hn; omega
theorem ch_kept {rb : Nat} {g : Nat → Value} {W W' : World} (hr : W.rowIs rb 166 9 g) (h : Ch rb rb W W') : Kept (· ≠ 166) W W' := by
  intro k C T fr hk hT
  have hne : k ≠ rb := row_ne hr hk (fun e => hT e.symm)
  exact h.block k (Array.getElem?_eq_some_iff.1 hk).1 hne hne
theorem upd_ne (g : Nat → Value) (i j : Nat) (v : Value) (h : j ≠ i) : upd g i v j = g j := by unfold upd; rw [if_neg h]
/-- The library's variables, in a part of the world that the reader does not change. -/
def EnvX (rb : Nat) (w0 : World) : Prop := ∃ w00 : World, EnvP w00 ∧ Below w00.heap.size w00 w0 ∧ w00.heap.size ≤ rb
theorem EnvX.at {rb : Nat} {w0 W : World} (h : EnvX rb w0) (hc : Ch rb rb w0 W) : ∃ w00 : World, EnvP w00 ∧ Below w00.heap.size w00 W ∧ w00.heap.size ≤ rb ∧ w00.heap.size ≤ w0.heap.size := by
  obtain ⟨w00, a, b, c⟩ := h
  exact ⟨w00, a, b.trans (hc.below c c b.size), c, b.size⟩
theorem Ch.cut {a b : Nat} {w0 W W' : World} (h : Ch a a w0 W) (k : Ch a b W W') (hb : w0.heap.size ≤ b) : Ch a a w0 W' :=
  ⟨k.os.trans h.os, k.tape.trans h.tape, k.output.trans h.output, Nat.le_trans h.size k.size, fun i hi ha _ => (k.block i (Nat.lt_of_lt_of_le hi h.size) ha (by omega)).trans (h.block i hi ha ha)⟩
/-- The reader, its fields, and that of what was there only the reader is changed. -/
def RD (rb n0 n1 : Nat) (g : Nat → Value) (qs : List ArV) (ls : List LoV) (init : List BlE) (last : Option BlE) (fs : List ByteArray) (w0 W : World) : Prop :=
  ∃ v', RM rb n0 n1 (upd g 8 v') qs ls init last W ∧ FSl W v' fs ∧ Ch rb rb w0 W ∧ w0.heap.size ≤ n0
section
variable {rb n0 n1 : Nat} {g : Nat → Value} {qs : List ArV} {ls : List LoV} {init : List BlE} {last : Option BlE} {fs : List ByteArray} {w0 W : World}
theorem RD.next {g' : Nat → Value} {fs' : List ByteArray} {W' : World} {v' : Value} (h : RD rb n0 n1 g qs ls init last fs w0 W) (hr : W'.rowIs rb 166 9 (upd g' 8 v')) (hf : FSl W' v' fs') (h5 : g' 5 = g 5) (h6 : g' 6 = g 6) (h7 : g' 7 = g 7) (hc : Ch rb rb W W') : RD rb n0 n1 g' qs ls init last fs' w0 W' := by
  obtain ⟨v, h1, h2, h3, h4⟩ := h
  have hn := h1.hn
  refine ⟨v', h1.keep hr ?_ ?_ ?_ (ch_kept h1.row hc) hc.size, hf, h3.trans hc, h4⟩
  · rw [upd_ne _ _ _ _ (by decide), upd_ne _ _ _ _ (by decide), h5]
  · rw [upd_ne _ _ _ _ (by decide), upd_ne _ _ _ _ (by decide), h6]
  · rw [upd_ne _ _ _ _ (by decide), upd_ne _ _ _ _ (by decide), h7]
theorem RD.on {W' : World} (h : RD rb n0 n1 g qs ls init last fs w0 W) (hb : Below W.heap.size W W') : RD rb n0 n1 g qs ls init last fs w0 W' := by
  have h' := h
  obtain ⟨v, h1, h2, h3, h4⟩ := h
  exact h'.next (h1.row.of_block (hb.block rb h1.row.lt)) (h2.of_blocks (fun k C fr hk => (hb.block k (Array.getElem?_eq_some_iff.1 hk).1).trans hk)) rfl rfl rfl (Ch.of_below hb)
theorem RD.alloc (h : RD rb n0 n1 g qs ls init last fs w0 W) (o : Obj) : RD rb n0 n1 g qs ls init last fs w0 (W.alloc o) := h.on ((Below.refl _ _).alloc (Nat.le_refl _) _)
theorem RD.drew (h : RD rb n0 n1 g qs ls init last fs w0 W) : RD rb n0 n1 g qs ls init last fs w0 W.drew := h.on (below_drewN (Below.refl _ _) 1)
theorem RD.field (h : RD rb n0 n1 g qs ls init last fs w0 W) (hl : fs.length ≤ 1000000) : Calls Tryz.prog 138 #[.pointer (some ⟨rb, 0, none⟩)] W fun e w' => e = .returned (.string (fldV fs)) ∧ RD rb n0 n1 g qs ls init last fs.tail w0 w' := by
  have h' := h
  obtain ⟨v, h1, h2, h3, h4⟩ := h
  refine (field_any rb _ fs W h1.row (by simpa [upd] using h2) hl).mono ?_
  rintro e w' ⟨rfl, v', h5, h6, h7⟩
  rw [upd_upd] at h5
  exact ⟨rfl, h'.next h5 h6 rfl rfl rfl h7⟩
theorem updN_upd (h : Nat → Value) (o : Nat → Nat) (fs : List ByteArray) (i : Nat) (v : Value) : ∀ n, (∀ j, j < n → o j ≠ i) → updN (upd h i v) o fs n = upd (updN h o fs n) i v
  | 0, _ => rfl
  | n + 1, ho => by
    rw [updN, updN_upd h o fs i v n (fun j hj => ho j (by omega)), updN, upd_comm _ _ _ _ _ (fun e => ho n (by omega) e.symm)]
theorem updN_out (h : Nat → Value) (o : Nat → Nat) (fs : List ByteArray) (i : Nat) : ∀ n, (∀ j, j < n → o j ≠ i) → updN h o fs n i = h i
  | 0, _ => rfl
  | n + 1, ho => by rw [updN, upd_ne _ _ _ _ (fun e => ho n (by omega) e.symm), updN_out h o fs i n (fun j hj => ho j (by omega))]
theorem RD.five (h : RD rb n0 n1 g qs ls init last fs w0 W) (hE : EnvX rb w0) (hl : fs.length ≤ 1000000) (hsz : ∀ s, s ∈ fs → s.size ≤ 281474976710656) (A : Option Addr) (c : Nat) (hp : RPt W rb rb A 5 (fun j => j)) :
    Calls Tryz.prog 139 #[.pointer (some ⟨rb, 0, none⟩), .slice A 5 c] W fun e w' => (∃ v, e = .returned v) ∧ RD rb n0 n1 (updN g (fun j => j) fs 5) qs ls init last (fs.drop 5) w0 w' := by
  have h' := h
  obtain ⟨v, h1, h2, h3, h4⟩ := h
  have hn := h1.hn
  obtain ⟨w00, q1, q2, q3, q4⟩ := hE.at h3
  refine (numbers_self rb _ (fun j => j) fs W A 5 c w00 (by decide) h1.row (by simpa [upd] using h2) hl hsz (fun j hj => by omega) hp q1 q2 q3).mono ?_
  rintro e w' ⟨he, v', h5, h6, h7⟩
  rw [updN_upd _ _ _ _ _ _ (fun j hj => by omega), upd_upd] at h5
  exact ⟨he, h'.next h5 h6 (updN_out _ _ _ _ _ (fun j hj => by omega)) (updN_out _ _ _ _ _ (fun j hj => by omega)) (updN_out _ _ _ _ _ (fun j hj => by omega)) h7⟩
/-- Three numbers into a new box. -/
theorem RD.three (h : RD rb n0 n1 g qs ls init last fs w0 W) (hE : EnvX rb w0) (hl : fs.length ≤ 1000000) (hsz : ∀ s, s ∈ fs → s.size ≤ 281474976710656) (T m : Nat) (C : Array Value) (hC : C.size = m) (hT : T ≠ 9 ∧ T ≠ 166) (o : Nat → Nat) (ho : ∀ j, j < 3 → o j < m) (W2 : World) (hW2 : Below (W.alloc (.cells C T)).heap.size (W.alloc (.cells C T)) W2) (A : Option Addr) (c : Nat) (hp : RPt W2 rb W.heap.size A 3 o) :
    Calls Tryz.prog 139 #[.pointer (some ⟨rb, 0, none⟩), .slice A 3 c] W2 fun e w' => (∃ v, e = .returned v) ∧ RD rb n0 n1 g qs ls init last (fs.drop 3) w0 w' ∧ w'.rowIs W.heap.size T m (updN (fun i => C.getD i undef) o fs 3) := by
  have hb0 : Below W.heap.size W W2 := ((Below.refl _ _).alloc (Nat.le_refl _) _).trans (hW2.mono (by simp))
  have h' := h.on hb0
  obtain ⟨v0, hm0, _, _, _⟩ := h
  obtain ⟨v, h1, h2, h3, h4⟩ := h'
  have hn := h1.hn
  have hrb := hm0.row.lt
  have hs0 : W.heap.size ≤ W2.heap.size := hb0.size
  obtain ⟨w00, q1, q2, q3, q4⟩ := hE.at h3
  have hw0 : w00.heap.size ≤ W.heap.size := by omega
  have hbox : W2.rowIs W.heap.size T m (fun i => C.getD i undef) := by
    subst hC
    have hk : W2.heap[W.heap.size]? = some (.cells C T (0, 0)) := (hW2.block _ (by simp)).trans (heap_alloc_new _ _)
    exact row_of_blk hk
  refine (numbers_other rb W.heap.size T m _ _ o fs W2 A 3 c w00 (by decide) h1.row hbox (by omega) hT.1 (by simpa [upd] using h2) hl hsz ho hp q1 q2 q3 hw0).mono ?_
  rintro e w' ⟨he, v', h5, h6, h7, h8⟩
  rw [upd_upd] at h5
  refine ⟨he, ⟨v', ?_, h6, h3.cut h8 (by have := hm0.hn; omega), h4⟩, h7⟩
  have kr : ∀ {base e size n : Nat} {v : Value} {xs : List Value}, W.ownsRow base e size v n xs → e ≠ 166 → w'.ownsRow base e size v n xs := by
    intro base e size n v xs hr he
    have hr2 : W2.ownsRow base e size v n xs := row_other (k := 0) hr (fun k C fr hk => hb0.block k (Array.getElem?_eq_some_iff.1 hk).1)
    refine ⟨hr2.1, ?_⟩
    rcases hr.2 with hnn | ⟨k, cap, cur, rfl, hbk, hkk, rest⟩
    · exact .inl hnn
    · have hlt := (Array.getElem?_eq_some_iff.1 hkk).1
      have hne : k ≠ rb := by
        rintro rfl
        obtain ⟨c', hh, _⟩ := hm0.row
        rw [hh] at hkk
        injection hkk with hkk
        injection hkk with _ h2 _
        exact he h2.symm
      exact .inr ⟨k, cap, cur, rfl, hbk, ((h8.block k (by omega) hne (by omega)).trans (hb0.block k hlt)).trans hkk, rest⟩
  have e5 : ∀ (u1 u2 : Value) (i : Nat), i ≠ 8 → upd g 8 u1 i = upd g 8 u2 i := fun u1 u2 i hi => by rw [upd_ne _ _ _ _ hi, upd_ne _ _ _ _ hi]
  refine ⟨h5, ?_, ?_, ?_, ?_, ?_, ?_⟩
  · rw [e5 v' v0 5 (by decide)]; exact kr hm0.arr (by decide)
  · rw [e5 v' v0 6 (by decide)]; exact kr hm0.loops (by decide)
  · rw [e5 v' v0 7 (by decide)]; exact kr hm0.blocks (by decide)
  · exact fun e he => ⟨kr (hm0.old e he).1 (by decide), (hm0.old e he).2⟩
  · exact fun e he => kr (hm0.new e he) (by decide)
  · have := hm0.hn
    have := h8.size
    omega
end
end Go.Proofs.YtkncilgmlkeifaaGreatDoor
