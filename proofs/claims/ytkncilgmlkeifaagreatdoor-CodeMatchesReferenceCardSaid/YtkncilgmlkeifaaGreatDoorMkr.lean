/-
  The reference: the maker of codes: what it holds, and its smallest functions (next, reg, val).
-/
import Derived.Test.YtkncilgmlkeifaaGreatDoorLnp
import Derived.Test.YtkncilgmlkeifaaGreatDoorNeq
import Derived.Laws.OwnMore
set_option linter.unusedVariables false
set_option linter.unusedSimpArgs false
set_option maxRecDepth 100000
set_option maxHeartbeats 4000000
namespace Go.Proofs.YtkncilgmlkeifaaGreatDoor
open Go.ChangeShapes Go.WideShapes Go.ChangeAt Go.RowKit Go.Shelf
structure MX (rb n0 n1 : Nat) (g : Nat -> Value) (qs : List ArV) (ls : List LoV) (init : List BlE) (last : Option BlE) (N : Nat) (xs : List Value) (W : World) : Prop where
 row : W.rowIs rb 126 10 g
 arr : W.ownsRow n0 91 4 (g 7) qs.length (flatA qs)
 loops : W.ownsRow n0 85 3 (g 8) ls.length (flatL ls)
 blocks : W.ownsRow n0 55 14 (g 9) N xs
 old : ∀ e, e ∈ init -> W.ownsRow n0 61 15 e.1 e.2.1.length (flatI e.2.1) /\ ∀ k, e.1.ownBlock = some k -> k < n1
 new : ∀ e, last = some e -> W.ownsRow n1 61 15 e.1 e.2.1.length (flatI e.2.1)
 hn : n0 <= n1 /\ n1 <= W.heap.size
theorem below_kept {S : TypeId -> Prop} {W W' : World} (h : Below W.heap.size W W') : Kept S W W' := fun k C T fr hk _ => h.block k (Array.getElem?_eq_some_iff.1 hk).1
theorem mset_kept {W : World} {rb T n : Nat} {f : Nat -> Value} (hr : W.rowIs rb T n f) (o : Nat) (u : Value) : Kept (. ≠ T) W (W.setCell ⟨rb, o, none⟩ u) :=
 fun k C T' fr hk hT => Below.heap_setCell W ⟨rb, o, none⟩ u k (row_ne hr hk (fun e => hT e.symm))
theorem row_blk {W W' : World} {base e size n : Nat} {v : Value} {xs : List Value} (h : W.ownsRow base e size v n xs) (hk : ∀ k, v.ownBlock = some k -> W'.heap[k]? = W.heap[k]?) : W'.ownsRow base e size v n xs := by
 refine ⟨h.1, ?_⟩
 rcases h.2 with hnn | ⟨k, cap, cur, rfl, hbk, hkk, rest⟩
 . exact .inl hnn
 . exact .inr ⟨k, cap, cur, rfl, hbk, (hk k rfl).trans hkk, rest⟩
section
variable {rb n0 n1 N : Nat} {g g' : Nat -> Value} {qs : List ArV} {ls : List LoV} {init : List BlE} {last : Option BlE} {xs : List Value} {W W' : World}
theorem MX.keepS {S : TypeId -> Prop} (h : MX rb n0 n1 g qs ls init last N xs W) (hr : W'.rowIs rb 126 10 g') (h7 : g' 7 = g 7) (h8 : g' 8 = g 8) (h9 : g' 9 = g 9) (hk : Kept S W W') (hS : S 91 /\ S 85 /\ S 55 /\ S 61) (hs : W.heap.size <= W'.heap.size) : MX rb n0 n1 g' qs ls init last N xs W' := by
 refine ⟨hr, ?_, ?_, ?_, ?_, ?_, ?_⟩
 . rw [h7]; exact row_kept h.arr hk hS.1
 . rw [h8]; exact row_kept h.loops hk hS.2.1
 . rw [h9]; exact row_kept h.blocks hk hS.2.2.1
 . exact fun e he => ⟨row_kept (h.old e he).1 hk hS.2.2.2, (h.old e he).2⟩
 . exact fun e he => row_kept (h.new e he) hk hS.2.2.2
 . have := h.hn; omega
theorem MX.keep (h : MX rb n0 n1 g qs ls init last N xs W) (hr : W'.rowIs rb 126 10 g') (h7 : g' 7 = g 7) (h8 : g' 8 = g 8) (h9 : g' 9 = g 9) (hk : Kept (. ≠ 126) W W') (hs : W.heap.size <= W'.heap.size) : MX rb n0 n1 g' qs ls init last N xs W' :=
 h.keepS hr h7 h8 h9 hk (by decide) hs
theorem MX.box {b : Nat} {C : Array Value} {fr : Nat × Nat} (h : MX rb n0 n1 g qs ls init last N xs W) (hb : W.heap[b]? = some (.cells C 27 fr)) (o : Nat) (u : Value) : MX rb n0 n1 g qs ls init last N xs (W.setCell ⟨b, o, none⟩ u) := by
 refine h.keepS (S := (. ≠ 27)) (h.row.setOther (a := ⟨b, o, none⟩) (fun e => (row_ne h.row hb (by decide)) e.symm) u) rfl rfl rfl ?_ (by decide) (by simp [World.setCell])
 intro k C' T fr' hk hT
 refine Below.heap_setCell W ⟨b, o, none⟩ u k ?_
 rintro rfl
 rw [hb] at hk
 injection hk with hk
 injection hk with _ h2 _
 exact hT h2.symm
theorem MX.on (h : MX rb n0 n1 g qs ls init last N xs W) (hb : Below W.heap.size W W') : MX rb n0 n1 g qs ls init last N xs W' :=
 h.keep (h.row.of_block (hb.block rb h.row.lt)) rfl rfl rfl (below_kept hb) hb.size
theorem MX.set (h : MX rb n0 n1 g qs ls init last N xs W) (o : Nat) (ho : o ≠ 7 /\ o ≠ 8 /\ o ≠ 9) (u : Value) : MX rb n0 n1 (upd g o u) qs ls init last N xs (W.setCell ⟨rb, o, none⟩ u) :=
 h.keep (h.row.set o u) (upd_ne _ _ _ _ (by omega)) (upd_ne _ _ _ _ (by omega)) (upd_ne _ _ _ _ (by omega)) (mset_kept h.row o u) (by simp [World.setCell])
theorem MX.store {gB cap : Nat} (h : MX rb n0 n1 g qs ls init last N xs W) (h9 : g 9 = .slice (some ⟨gB, 0, none⟩) N cap) (j : Nat) (u : Value) : MX rb n0 n1 g qs ls init last N (xs.set j u) (W.setCell ⟨gB, j, none⟩ u) := by
 have hb := h.blocks
 rw [h9] at hb
 obtain ⟨hst, hgr⟩ := hb.stored j u
 have hk : Kept (. ≠ 55) W (W.setCell ⟨gB, j, none⟩ u) := grow_kept hb hgr
 refine ⟨?_, row_kept h.arr hk (by decide), row_kept h.loops hk (by decide), by rw [h9]; exact hst, fun e he => ⟨row_kept (h.old e he).1 hk (by decide), (h.old e he).2⟩, fun e he => row_kept (h.new e he) hk (by decide), ?_⟩
 . obtain ⟨c, hc, _⟩ := id h.row
   exact h.row.of_block (hk _ _ _ _ hc (by decide))
 . have := h.hn; have := hgr.size; omega
theorem MX.pushB {v : Value} (h : MX rb n0 n1 g qs ls init last N (flatB (init ++ last.toList)) W) (hr : W'.ownsRow n0 55 14 v (N + 1) (flatB (init ++ last.toList) ++ blC (.slice none 0 0, [], zeroT))) (hg : W.grownBy W' (g 9).ownBlock) :
 MX rb n0 W'.heap.size (upd g 9 v) qs ls (init ++ last.toList) (some (.slice none 0 0, [], zeroT)) (N + 1) (flatB (init ++ last.toList ++ [(.slice none 0 0, [], zeroT)])) (W'.setCell ⟨rb, 9, none⟩ v) := by
 have hrow := row_grow h.row h.blocks hg (by decide)
 have hk := grow_kept h.blocks hg
 have hs := mset_kept hrow 9 v
 have hn := h.hn
 have hgs := hg.size
 refine ⟨hrow.set 9 v, ?_, ?_, ?_, ?_, ?_, ?_⟩
 . rw [upd_ne _ _ _ _ (by decide)]; exact row_kept (row_kept h.arr hk (by decide)) hs (by decide)
 . rw [upd_ne _ _ _ _ (by decide)]; exact row_kept (row_kept h.loops hk (by decide)) hs (by decide)
 . rw [show upd g 9 v 9 = v from by simp [upd], flatB_snoc]
   exact row_kept hr hs (by decide)
 . intro e he
   rw [List.mem_append] at he
   have hold : W.ownsRow n0 61 15 e.1 e.2.1.length (flatI e.2.1) := by
    rcases he with he | he
    . exact (h.old e he).1
    . have : last = some e := by cases last with
       | none => cases he
       | some x => simp [Option.toList] at he; rw [he]
      exact (h.new e this).mono (by omega)
   exact ⟨row_kept (row_kept hold hk (by decide)) hs (by decide), fun k hk2 => Nat.lt_of_lt_of_le (hold.lt k hk2).2 hgs⟩
 . intro e he
   injection he with he
   subst he
   exact World.ownsRow_nil _ _ _ _
 . simp [World.setCell]; omega
theorem MX.pushL {v : Value} {a : LoV} (h : MX rb n0 n1 g qs ls init last N xs W) (hr : W'.ownsRow n0 85 3 v (ls.length + 1) (flatL ls ++ loC a)) (hg : W.grownBy W' (g 8).ownBlock) :
 MX rb n0 n1 (upd g 8 v) qs (ls ++ [a]) init last N xs (W'.setCell ⟨rb, 8, none⟩ v) := by
 have hrow := row_grow h.row h.loops hg (by decide)
 have hk := grow_kept h.loops hg
 have hs := mset_kept hrow 8 v
 have hn := h.hn
 have hgs := hg.size
 refine ⟨hrow.set 8 v, ?_, ?_, ?_, ?_, ?_, ?_⟩
 . rw [upd_ne _ _ _ _ (by decide)]; exact row_kept (row_kept h.arr hk (by decide)) hs (by decide)
 . rw [show upd g 8 v 8 = v from by simp [upd], flatL_snoc, List.length_append]
   exact row_kept hr hs (by decide)
 . rw [upd_ne _ _ _ _ (by decide)]; exact row_kept (row_kept h.blocks hk (by decide)) hs (by decide)
 . exact fun e he => ⟨row_kept (row_kept (h.old e he).1 hk (by decide)) hs (by decide), (h.old e he).2⟩
 . exact fun e he => row_kept (row_kept (h.new e he) hk (by decide)) hs (by decide)
 . simp [World.setCell]; omega
theorem MX.grown {e : BlE} {v : Value} {is : List InstV} {t : TermV} (h : MX rb n0 n1 g qs ls init (some e) N xs W) (hr : W'.ownsRow n1 61 15 v is.length (flatI is)) (hg : W.grownBy W' e.1.ownBlock) :
 MX rb n0 n1 g qs ls init (some (v, is, t)) N xs W' := by
 have hnew := h.new e rfl
 have hk := grow_kept hnew hg
 have hn := h.hn
 have hgs := hg.size
 refine ⟨row_grow h.row hnew hg (by decide), row_kept h.arr hk (by decide), row_kept h.loops hk (by decide), row_kept h.blocks hk (by decide), fun e' he' => ⟨row_blk (h.old e' he').1 (fun k hk2 => ?_), (h.old e' he').2⟩, ?_, by omega⟩
 . have h1 := (h.old e' he').2 k hk2
   refine hg.block k (by omega) (fun e1 => ?_)
   have := (hnew.lt k e1.symm).1
   omega
 . intro e' he'
   injection he' with he'
   subst he'
   exact hr
end
theorem flatB_set0 (init : List BlE) (e : BlE) (v : Value) (is : List InstV) : (flatB (init ++ [e])).set (init.length * 14) v = flatB (init ++ [(v, is, e.2.2)]) := by
 rw [flatB_snoc, flatB_snoc, List.set_append_right _ _ (by rw [flatB_len]; exact Nat.le_refl _), flatB_len, Nat.sub_self]
 rfl
def setT (xs : List Value) (o : Nat) (t : TermV) : List Value :=
 ((((((((((((xs.set (o + 1) (.int .i64 t.kind)).set (o + 2) (.int .i64 t.sub)).set (o + 3) (.int .i64 t.d.k)).set (o + 4) (.int .i64 t.d.n)).set (o + 5) (.int .i32 t.d.v)).set (o + 6) (.int .i64 t.a.k)).set (o + 7) (.int .i64 t.a.n)).set (o + 8) (.int .i32 t.a.v)).set (o + 9) (.int .i64 t.b.k)).set (o + 10) (.int .i64 t.b.n)).set (o + 11) (.int .i32 t.b.v)).set (o + 12) (.int .i64 t.t0)).set (o + 13) (.int .i64 t.t1)
theorem flatB_setT (init : List BlE) (e : BlE) (t : TermV) : setT (flatB (init ++ [e])) (init.length * 14) t = flatB (init ++ [(e.1, e.2.1, t)]) := by
 have hs : ∀ (ys : List Value) (j : Nat) (u : Value), (flatB init ++ ys).set (init.length * 14 + j) u = flatB init ++ ys.set j u := fun ys j u => by
  rw [List.set_append_right _ _ (by rw [flatB_len]; omega), flatB_len, Nat.add_sub_cancel_left]
 rw [flatB_snoc, flatB_snoc]
 unfold setT
 rw [hs, hs, hs, hs, hs, hs, hs, hs, hs, hs, hs, hs, hs]
 rfl
section
variable {rb n0 n1 N : Nat} {g : Nat -> Value} {qs : List ArV} {ls : List LoV} {init : List BlE} {last : Option BlE} {xs : List Value} {W : World}
theorem MX.storeT {gB cap : Nat} (h : MX rb n0 n1 g qs ls init last N xs W) (h9 : g 9 = .slice (some ⟨gB, 0, none⟩) N cap) (o : Nat) (t : TermV) : MX rb n0 n1 g qs ls init last N (setT xs o t)
 (((((((((((((W.setCell ⟨gB, o + 1, none⟩ (.int .i64 t.kind)).setCell ⟨gB, o + 1 + 1, none⟩ (.int .i64 t.sub)).setCell ⟨gB, o + 1 + 2, none⟩ (.int .i64 t.d.k)).setCell ⟨gB, o + 1 + 3, none⟩ (.int .i64 t.d.n)).setCell ⟨gB, o + 1 + 4, none⟩ (.int .i32 t.d.v)).setCell ⟨gB, o + 1 + 5, none⟩ (.int .i64 t.a.k)).setCell ⟨gB, o + 1 + 6, none⟩ (.int .i64 t.a.n)).setCell ⟨gB, o + 1 + 7, none⟩ (.int .i32 t.a.v)).setCell ⟨gB, o + 1 + 8, none⟩ (.int .i64 t.b.k)).setCell ⟨gB, o + 1 + 9, none⟩ (.int .i64 t.b.n)).setCell ⟨gB, o + 1 + 10, none⟩ (.int .i32 t.b.v)).setCell ⟨gB, o + 1 + 11, none⟩ (.int .i64 t.t0)).setCell ⟨gB, o + 1 + 12, none⟩ (.int .i64 t.t1)) :=
 ((((((((((((h.store h9 (o + 1) _).store h9 (o + 2) _).store h9 (o + 3) _).store h9 (o + 4) _).store h9 (o + 5) _).store h9 (o + 6) _).store h9 (o + 7) _).store h9 (o + 8) _).store h9 (o + 9) _).store h9 (o + 10) _).store h9 (o + 11) _).store h9 (o + 12) _).store h9 (o + 13) _
end
abbrev BlV := List InstV × TermV
def RBy (w : World) (A : Option Addr) (n : Nat) (f : Nat -> Int) : Prop :=
 0 < n -> ∃ b off, A = some ⟨b, off, none⟩ /\ b < w.heap.size /\ ∀ j, j < n -> w.cell? ⟨b, off + j, none⟩ = some (.int .u8 (f j)) /\ 0 <= f j /\ f j <= 255
def MT (rb n0 : Nat) (L : Value × Value) (K : Nat) (num : Nat -> Int) (qs : List ArV) (ls : List LoV) (init : List BlV) (last : Option BlV) (w0 W : World) : Prop :=
 ∃ n1 g I La, MX rb n0 n1 g qs ls I La (I ++ La.toList).length (flatB (I ++ La.toList)) W /\ I.map (·.2) = init /\ La.map (·.2) = last /\ (g 0 = L.1 /\ g 7 = L.2) /\ (∃ k : Nat, g 1 = .int .i64 k /\ k <= K) /\ (∀ j, j < 5 -> g (2 + j) = .int .i64 (num j)) /\ Below w0.heap.size w0 W /\ w0.heap.size <= rb /\ w0.heap.size <= n0
section
variable {rb n0 K : Nat} {L : Value × Value} {num : Nat -> Int} {qs : List ArV} {ls : List LoV} {init : List BlV} {last : Option BlV} {w0 W W' : World}
theorem MT.on (h : MT rb n0 L K num qs ls init last w0 W) (hb : Below W.heap.size W W') : MT rb n0 L K num qs ls init last w0 W' := by
 obtain ⟨n1, g, I, La, h1, h2, h3, h4, h5, h6, h7, h8, h9⟩ := h
 exact ⟨n1, g, I, La, h1.on hb, h2, h3, h4, h5, h6, h7.trans (hb.mono h7.size), h8, h9⟩
theorem MT.alloc (h : MT rb n0 L K num qs ls init last w0 W) (o : Obj) : MT rb n0 L K num qs ls init last w0 (W.alloc o) := h.on ((Below.refl _ _).alloc (Nat.le_refl _) _)
theorem MT.drew (h : MT rb n0 L K num qs ls init last w0 W) : MT rb n0 L K num qs ls init last w0 W.drew := h.on (below_drewN (Below.refl _ _) 1)
theorem MT.le {K' : Nat} (h : MT rb n0 L K num qs ls init last w0 W) (hK : K <= K') : MT rb n0 L K' num qs ls init last w0 W := by
 obtain ⟨n1, g, I, La, h1, h2, h3, h4, ⟨k, h5, hk⟩, h6, h7, h8, h9⟩ := h
 exact ⟨n1, g, I, La, h1, h2, h3, h4, ⟨k, h5, by omega⟩, h6, h7, h8, h9⟩
theorem MT.drewN (h : MT rb n0 L K num qs ls init last w0 W) (k : Nat) : MT rb n0 L K num qs ls init last w0 (W.drewN k) := h.on (below_drewN (Below.refl _ _) k)
theorem MT.setNew (h : MT rb n0 L K num qs ls init last w0 W) (hb : Below W.heap.size W W') (a : Addr) (ha : W.heap.size <= a.block) (u : Value) : MT rb n0 L K num qs ls init last w0 (W'.setCell a u) := h.on (hb.setCell ha u)
end
def KM (W W' : World) : Prop := Kept (fun T => T ≠ 126 /\ T ≠ 55 /\ T ≠ 61 /\ T ≠ 85) W W' /\ W.heap.size <= W'.heap.size
theorem KM.of {W W' : World} (h : Below W.heap.size W W') : KM W W' := ⟨below_kept h, h.size⟩
theorem KM.trans {W W1 W2 : World} (h : KM W W1) (k : KM W1 W2) : KM W W2 :=
 ⟨fun b C T fr hb hT => by have h1 := h.1 b C T fr hb hT; exact (k.1 b C T fr (h1.trans hb) hT).trans h1, Nat.le_trans h.2 k.2⟩
theorem KM.setNew {W W' : World} (h : KM W W') {a : Addr} (ha : W.heap.size <= a.block) (u : Value) : KM W (W'.setCell a u) :=
 ⟨fun b C T fr hb hT => (Below.heap_setCell W' a u b (by have := (Array.getElem?_eq_some_iff.1 hb).1; omega)).trans (h.1 b C T fr hb hT), by simpa [World.setCell] using h.2⟩
theorem KM.set3 {W W' : World} (h : KM W W') (x y z : Value) : KM W (((W'.setCell ⟨W.heap.size, 0, none⟩ x).setCell ⟨W.heap.size, 1, none⟩ y).setCell ⟨W.heap.size, 2, none⟩ z) :=
 ((h.setNew (Nat.le_refl _) x).setNew (Nat.le_refl _) y).setNew (Nat.le_refl _) z
theorem KM.drewN {W W' : World} (h : KM W W') (k : Nat) : KM W (W'.drewN k) := h.trans (KM.of (below_drewN (Below.refl _ _) k))
def BxO (b : Nat) (W : World) : Prop := ∃ x y z : Int, W.heap[b]? = some (.cells #[x, y, .int .i32 z] 27 (0, 0))
theorem BxO.on {b : Nat} {W W' : World} (h : BxO b W) (k : KM W W') : BxO b W' := by
 obtain ⟨x, y, z, h⟩ := h
 exact ⟨x, y, z, (k.1 b _ 27 _ h (by decide)).trans h⟩
theorem BxO.new (W : World) (x y z : Int) : BxO W.heap.size (W.alloc (.cells #[x, y, .int .i32 z] 27)) := ⟨x, y, z, heap_alloc_new _ _⟩
theorem BxO.facts {b : Nat} {W : World} (h : BxO b W) : (∃ x, W.cell? ⟨b, 0, none⟩ = some (.int .i64 x)) /\ (∃ x, W.cell? ⟨b, 1, none⟩ = some (.int .i64 x)) /\ (∃ x, W.cell? ⟨b, 2, none⟩ = some (.int .i32 x)) /\ ∀ o, W.frozen? ⟨b, o, none⟩ = false := by
 obtain ⟨x, y, z, h⟩ := h
 exact ⟨⟨x, cell_blk h (i := 0) rfl⟩, ⟨y, cell_blk h (i := 1) rfl⟩, ⟨z, cell_blk h (i := 2) rfl⟩, fun o => frozen_of_row W b o _ _ h⟩
section
variable {rb n0 K : Nat} {L : Value × Value} {num : Nat -> Int} {qs : List ArV} {ls : List LoV} {init : List BlV} {last : Option BlV} {w0 W : World}
theorem MT.box {b : Nat} {C : Array Value} {fr : Nat × Nat} (h : MT rb n0 L K num qs ls init last w0 W) (hb : W.heap[b]? = some (.cells C 27 fr)) (h0 : w0.heap.size <= b) (o : Nat) (u : Value) : MT rb n0 L K num qs ls init last w0 (W.setCell ⟨b, o, none⟩ u) := by
 obtain ⟨n1, g, I, La, h1, h2, h3, h4, h5, h6, h7, h8, h9⟩ := h
 exact ⟨n1, g, I, La, h1.box hb o u, h2, h3, h4, h5, h6, h7.setCell h0 u, h8, h9⟩
theorem MT.box3 {b : Nat} (h : MT rb n0 L K num qs ls init last w0 W) (hb : BxO b W) (h0 : w0.heap.size <= b) (x y z : Int) : MT rb n0 L K num qs ls init last w0 (((W.setCell ⟨b, 0, none⟩ (.int .i64 x)).setCell ⟨b, 1, none⟩ (.int .i64 y)).setCell ⟨b, 2, none⟩ (.int .i32 z)) := by
 obtain ⟨x0, y0, z0, hb⟩ := hb
 have k1 := heap_setCell_same W b 0 _ 27 (.int .i64 x) hb
 have k2 := heap_setCell_same _ b 1 _ 27 (.int .i64 y) k1
 exact ((h.box hb h0 0 _).box k1 h0 1 _).box k2 h0 2 _
theorem BxO.set3 {b : Nat} (hb : BxO b W) (x y z : Int) : BxO b (((W.setCell ⟨b, 0, none⟩ (.int .i64 x)).setCell ⟨b, 1, none⟩ (.int .i64 y)).setCell ⟨b, 2, none⟩ (.int .i32 z)) := by
 obtain ⟨x0, y0, z0, hb⟩ := hb
 have k1 := heap_setCell_same W b 0 _ 27 (.int .i64 x) hb
 have k2 := heap_setCell_same _ b 1 _ 27 (.int .i64 y) k1
 have k3 := heap_setCell_same _ b 2 _ 27 (.int .i32 z) k2
 exact ⟨x, y, z, k3⟩
end
section
variable (rb n0 K : Nat) (num : Nat -> Int) (qs : List ArV) (ls : List LoV) (init : List BlV) (last : Option BlV) (w0 W : World) (A : Option Addr) (n c : Nat) (f : Nat -> Int) (AV : Value)
theorem next_any (h : MT rb n0 (.slice A n c, AV) K num qs ls init last w0 W) (hn : n <= 9223372036854775807) (hK : K <= 1000000) (hB : RBy w0 A n f) :
 Calls Tryz.prog 65 #[.pointer (some ⟨rb, 0, none⟩)] W fun e w' => (∃ x : Int, e = .returned (.int .i64 x) /\ 0 <= x /\ x <= 255) /\ MT rb n0 (.slice A n c, AV) (K + 1) num qs ls init last w0 w' /\ KM W w' := by
 obtain ⟨n1, g, I, La, h1, h2, h3, h4, ⟨k, h5, hk⟩, h6, h7, h8, h9⟩ := h
 have hfin : MT rb n0 (.slice A n c, AV) (K + 1) num qs ls init last w0 (W.setCell ⟨rb, 1, none⟩ (.int .i64 ((k : Int) + 1))) := by
  refine ⟨n1, _, I, La, h1.set 1 (by decide) _, h2, h3, ?_, ⟨k + 1, ?_, by omega⟩, fun j hj => ?_, h7.setCell h8 _, h8, h9⟩
  . rw [upd_ne _ _ _ _ (by decide), upd_ne _ _ _ _ (by decide)]; exact h4
  . simp [upd]
  . rw [upd_ne _ _ _ _ (by omega)]; exact h6 j hj
 have hkm : KM W (W.setCell ⟨rb, 1, none⟩ (.int .i64 ((k : Int) + 1))) := ⟨fun b C T fr hb hT => mset_kept h1.row 1 _ b C T fr hb hT.1, by simp [World.setCell]⟩
 have c0 : W.cell? ⟨rb, 0, none⟩ = some (.slice A n c) := by rw [h1.row.cell (by decide), h4.1]
 have c1 : W.cell? ⟨rb, 1, none⟩ = some (.int .i64 (k : Int)) := by rw [h1.row.cell (by decide), h5]
 have f1 := h1.row.frozen 1
 have d0 : (W.setCell ⟨rb, 1, none⟩ (.int .i64 ((k : Int) + 1))).cell? ⟨rb, 0, none⟩ = some (.slice A n c) := by rw [(h1.row.set 1 _).cell (by decide)]; simp [h4.1]
 have d1 : (W.setCell ⟨rb, 1, none⟩ (.int .i64 ((k : Int) + 1))).cell? ⟨rb, 1, none⟩ = some (.int .i64 ((k : Int) + 1)) := by rw [(h1.row.set 1 _).cell (by decide)]; simp
 have hw : IntKind.i64.wrap ((k : Int) + 1) = (k : Int) + 1 := IntWalk.i64_in _ (by omega)
 by_cases hkn : k + 1 <= n
 . obtain ⟨b, off, rfl, hb, hcl⟩ := hB (by omega)
   obtain ⟨dc, dl, du⟩ := hcl k (by omega)
   have hne : b ≠ rb := by omega
   have d2 : (W.setCell ⟨rb, 1, none⟩ (.int .i64 ((k : Int) + 1))).cell? ⟨b, off + k, none⟩ = some (.int .u8 (f k)) := by
    rw [World.cell?_setCell_far _ _ _ _ (fun e => hne e.symm), <- dc]
    exact World.cell?_of_block (h7.block b hb)
   have hgt : decide ((n : Int) < (k : Int) + 1) = false := by simp; omega
   have hw2 : IntKind.i64.wrap ((k : Int) + 1 - 1) = (k : Int) := by rw [show (k : Int) + 1 - 1 = (k : Int) from by omega]; exact IntWalk.i64_in _ (by omega)
   have HF := lh (And.intro hfin hkm)
   clear hfin hkm hcl hB h7 h1 dc
   go_enter Tryz.func65, Tryz.ntmps65
   go_wp2
   go_quiet (fail)
   go_wp2
   go_quiet (fail)
   go_wp2
   exact bodyPost_ret (v := .int .i64 (f k)) (by simp [results, Tryz.results65, go_sem]) rfl ⟨⟨_, rfl, dl, du⟩, (HF.out.1.drewN _).drewN _, (HF.out.2.drewN _).drewN _⟩
 . have hgt : decide ((n : Int) < (k : Int) + 1) = true := by simp; omega
   have HF := lh (And.intro hfin hkm)
   clear hfin hkm hB h7 h1
   go_enter Tryz.func65, Tryz.ntmps65
   go_wp2
   go_quiet (fail)
   go_wp2
   exact bodyPost_ret (v := .int .i64 0) (by simp [results, Tryz.results65, go_sem]) rfl ⟨⟨_, rfl, by decide, by decide⟩, HF.out.1.drewN _, HF.out.2.drewN _⟩
def ROk (o : OpdV) : Prop := o.k = 2 /\ o.v = 0 /\ 0 <= o.n /\ o.n <= 5
def VOk (o : OpdV) : Prop := (o.k = 1 /\ o.n = 0 /\ -20 <= o.v /\ o.v <= 65) \/ ROk o
def OpdV.val (o : OpdV) : Value := .agg #[o.k, o.n, .int .i32 o.v]
theorem reg_any (h : MT rb n0 (.slice A n c, AV) K num qs ls init last w0 W) (hn : n <= 9223372036854775807) (hK : K <= 1000000) (hB : RBy w0 A n f) :
 Calls Tryz.prog 70 #[.pointer (some ⟨rb, 0, none⟩)] W fun e w' => (∃ x : Int, e = .returned (.agg #[(2:Int), x, .int .i32 0]) /\ 0 <= x /\ x <= 5) /\ MT rb n0 (.slice A n c, AV) (K + 1) num qs ls init last w0 w' /\ KM W w' := by
 have h0 : w0.heap.size <= W.heap.size := by obtain ⟨_, _, _, _, _, _, _, _, _, _, h7, _⟩ := h; exact h7.size
 have HA := lh (fun o => KM.of ((Below.refl W.heap.size W).alloc (Nat.le_refl _) o))
 have HB0 := lh (BxO.new W 0 0 0)
 have HN := lh (fun o => next_any rb n0 K num qs ls init last w0 (W.alloc o) A n c f AV (h.alloc o) hn hK hB)
 clear h hB
 go_enter Tryz.func70, Tryz.ntmps70
 go_wp2_with (first
  | (go_at_call 65; (with_reducible refine (HN.out _).mono ?_); rintro e W1 ⟨⟨x, rfl, x0, x1⟩, h1, k1⟩; have H1 := lh h1; have HX1 := lh (HB0.out.on k1); have HK1 := lh ((HA.out _).trans k1); clear h1 k1)
  | (go_at_call 40; (with_reducible refine (Reg_any _ _).mono ?_); rintro e W2 ⟨rfl, hb⟩; have H2 := lh (H1.out.on hb); have HX2 := lh (HX1.out.on (KM.of hb)); have HK2 := lh (HK1.out.trans (KM.of hb)); obtain ⟨⟨_, c0⟩, ⟨_, c1⟩, ⟨_, c2⟩, cf⟩ := HX2.out.facts; clear hb))
 exact bodyPost_ret (v := .agg #[(2:Int), .int .i64 (x % 6), .int .i32 0]) (by simp [results, Tryz.results70, go_sem, c0, c1, c2]) rfl ⟨⟨_, rfl, by omega, by omega⟩, H2.out.box3 HX2.out h0 2 (x % 6) 0, HK2.out.set3 _ _ _⟩
theorem val_any (h : MT rb n0 (.slice A n c, AV) K num qs ls init last w0 W) (hn : n <= 9223372036854775807) (hK : K <= 1000000) (hB : RBy w0 A n f) :
 Calls Tryz.prog 71 #[.pointer (some ⟨rb, 0, none⟩)] W fun e w' => (∃ o : OpdV, e = .returned (.agg #[o.k, o.n, .int .i32 o.v]) /\ VOk o) /\ MT rb n0 (.slice A n c, AV) (K + 1) num qs ls init last w0 w' /\ KM W w' := by
 have h0 : w0.heap.size <= W.heap.size := by obtain ⟨_, _, _, _, _, _, _, _, _, _, h7, _⟩ := h; exact h7.size
 have HA := lh (fun o => KM.of ((Below.refl W.heap.size W).alloc (Nat.le_refl _) o))
 have HB0 := lh (BxO.new W 0 0 0)
 have HN := lh (fun o => next_any rb n0 K num qs ls init last w0 (W.alloc o) A n c f AV (h.alloc o) hn hK hB)
 clear h hB
 go_enter Tryz.func71, Tryz.ntmps71
 go_wp2_with (first
  | (go_at_call 65; (with_reducible refine (HN.out _).mono ?_); rintro e W1 ⟨⟨x, rfl, x0, x1⟩, h1, k1⟩; have H1 := lh h1; have HX1 := lh (HB0.out.on k1); have HK1 := lh ((HA.out _).trans k1); have hw0 : IntKind.i32.wrap (x / 3) = x / 3 := IntWalk.i32_in _ (by omega); have hw1 : IntKind.i32.wrap (x / 3 - 20) = x / 3 - 20 := IntWalk.i32_in _ (by omega); clear h1 k1)
  | ((first | go_at_call 40 | go_at_call 42); (with_reducible first | refine (Reg_any _ _).mono ?_ | refine (Const_any _ _).mono ?_); rintro e W2 ⟨rfl, hb⟩; have H2 := lh (H1.out.on hb); have HX2 := lh (HX1.out.on (KM.of hb)); have HK2 := lh (HK1.out.trans (KM.of hb)); obtain ⟨⟨_, c0⟩, ⟨_, c1⟩, ⟨_, c2⟩, cf⟩ := HX2.out.facts; clear hb))
 . exact bodyPost_ret (v := .agg #[(1:Int), (0:Int), .int .i32 (x / 3 - 20)]) (by simp [results, Tryz.results71, go_sem, c0, c1, c2]) rfl ⟨⟨⟨1, 0, x / 3 - 20⟩, rfl, .inl ⟨rfl, rfl, by show -20 <= x / 3 - 20; omega, by show x / 3 - 20 <= 65; omega⟩⟩, H2.out.box3 HX2.out h0 1 0 (x / 3 - 20), HK2.out.set3 _ _ _⟩
 . exact bodyPost_ret (v := .agg #[(2:Int), .int .i64 (x / 3 % 6), .int .i32 0]) (by simp [results, Tryz.results71, go_sem, c0, c1, c2]) rfl ⟨⟨⟨2, x / 3 % 6, 0⟩, rfl, .inr ⟨rfl, rfl, by show 0 <= x / 3 % 6; omega, by show x / 3 % 6 <= 5; omega⟩⟩, H2.out.box3 HX2.out h0 2 (x / 3 % 6) 0, HK2.out.set3 _ _ _⟩
theorem mblock_any (L : Value × Value) (h : MT rb n0 L K num qs ls init last w0 W) (hq : (init ++ last.toList).length <= 1000000) :
 Calls Tryz.prog 69 #[.pointer (some ⟨rb, 0, none⟩)] W fun e w' => (∃ v, e = .returned v) /\ MT rb n0 L K num qs ls (init ++ last.toList) (some ([], zeroT)) w0 w' /\ KM W w' := by
 obtain ⟨i0, hi0, hz0, hz1, hz2⟩ := info_parts infoBlk
 obtain ⟨n1, g, I, La, h1, rfl, rfl, h4, h5, h6, h7, h8, h9⟩ := h
 have hN : (I ++ La.toList).length <= 1000000 := by
  have : (I.map (·.2) ++ (La.map (·.2)).toList).length = (I ++ La.toList).length := by cases La <;> simp
  omega
 have h1a := fun C => h1.on (W' := W.alloc (.cells C 55)) ((Below.refl _ _).alloc (Nat.le_refl _) _)
 have c9 : W.cell? ⟨rb, 9, none⟩ = some (g 9) := h1.row.cell (by decide)
 have ca9 : ∀ C, (W.alloc (.cells C 55)).cell? ⟨rb, 9, none⟩ = some (g 9) := fun C => (h1a C).row.cell (by decide)
 have HR := lh (fun C => (h1a C).blocks)
 have hsz : ∀ C, n0 <= (W.alloc (.cells C 55)).heap.size := fun C => by have := (h1a C).hn; omega
 have HFIN := lh (fun (C : Array Value) (v : Value) (w8 : World) (hr : w8.ownsRow n0 55 14 v ((I ++ La.toList).length + 1) (flatB (I ++ La.toList) ++ blC (.slice none 0 0, [], zeroT))) (hg : (W.alloc (.cells C 55)).grownBy w8 (g 9).ownBlock) =>
  (show (w8.cell? ⟨rb, 9, none⟩ = some (g 9) /\ w8.frozen? ⟨rb, 9, none⟩ = false) /\ MT rb n0 L K num qs ls (I.map (·.2) ++ (La.map (·.2)).toList) (some ([], zeroT)) w0 (w8.setCell ⟨rb, 9, none⟩ v) /\ KM W (w8.setCell ⟨rb, 9, none⟩ v) from by
   have hp := (h1a C).pushB hr hg
   have hrow := row_grow (h1a C).row (h1a C).blocks hg (by decide)
   refine ⟨⟨hrow.cell (by decide), hrow.frozen 9⟩, ⟨_, _, I ++ La.toList, some (.slice none 0 0, [], zeroT), by simpa [Nat.add_assoc] using hp, by cases La <;> simp, rfl, ?_, ?_, fun j hj => ?_, ?_, h8, h9⟩, ?_⟩
   . rw [upd_ne _ _ _ _ (by decide), upd_ne _ _ _ _ (by decide)]; exact h4
   . rw [upd_ne _ _ _ _ (by decide)]; exact h5
   . rw [upd_ne _ _ _ _ (by omega)]; exact h6 j hj
   . exact (grow_below (h7.alloc h7.size _) (h1a C).blocks hg h9 (Nat.le_refl _)).setCell h8 v
   . have hk := grow_kept (h1a C).blocks hg
     have hs := mset_kept hrow 9 v
     have hb : Below W.heap.size W (W.alloc (.cells C 55)) := (Below.refl _ _).alloc (Nat.le_refl _) _
     refine ⟨fun b C' T fr hb' hT => ?_, ?_⟩
     . have e1 := hb.block b (Array.getElem?_eq_some_iff.1 hb').1
       have e2 := hk b C' T fr (e1.trans hb') hT.2.1
       exact (hs b C' T fr ((e2.trans e1).trans hb') hT.1).trans (e2.trans e1)
     . have := hg.size; have := hb.size; simp [World.setCell]; omega))
 clear h1 h1a h4 h5 h6 h7 h8 h9
 go_enter Tryz.func69, Tryz.ntmps69
 go_wp2_with (at_builtin; refine wpList_append_own _ rfl _ _ 34 rfl n0 55 i0 (.agg #[.slice none 0 0, (0:Int), (0:Int), (0:Int), (0:Int), .int .i32 0, (0:Int), (0:Int), .int .i32 0, (0:Int), (0:Int), .int .i32 0, (0:Int), (0:Int)]) 14 128 Tryz.underlying34 hi0 hz0 hz1 hz2 rfl (by decide) (g 9) (I ++ La.toList).length (flatB (I ++ La.toList)) rfl (HR.out _) ⟨W.heap.size, 0, none⟩ 1 1 (blC (.slice none 0 0, [], zeroT)) rfl rfl (row_new W #[.slice none 0 0, (0:Int), (0:Int), (0:Int), (0:Int), .int .i32 0, (0:Int), (0:Int), .int .i32 0, (0:Int), (0:Int), .int .i32 0, (0:Int), (0:Int)] 55) (by simp [blC, TermV.cells, zeroT, noOpd, Value.oneCell']) (by unfold maxLen; omega) (by omega) (hsz _) ?_; intro v' w8 hown' hgrow _; obtain ⟨⟨cc8, cf8⟩, hf8⟩ := HFIN.out _ _ _ hown' hgrow; have HF8 := lh hf8; obtain ⟨gg, cap, rfl, _, _⟩ := hown'.form (by omega); clear hown' hgrow hf8)
 all_goals
  go_end0
  have hh := HF8.out
  rw [List.length_append] at hh
  exact ⟨⟨_, rfl⟩, hh⟩
end
end Go.Proofs.YtkncilgmlkeifaaGreatDoor
