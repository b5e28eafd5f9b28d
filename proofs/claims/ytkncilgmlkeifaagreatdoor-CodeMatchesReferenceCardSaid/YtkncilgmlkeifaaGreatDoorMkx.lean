import Derived.Test.YtkncilgmlkeifaaGreatDoorMkq
import Derived.Test.YtkncilgmlkeifaaGreatDoorMkr
import Derived.Deep.RegionHeld
import Derived.Test.YtkncilgmlkeifaaGreatDoorCdm
import Derived.Test.YtkncilgmlkeifaaGreatDoorCpy
import Derived.Test.YtkncilgmlkeifaaGreatDoorMks
import Derived.Deep.LoopGhost
import Derived.Deep.CutRange
/-
  The reference: the ends and the blocks that the maker makes are right (plain facts).
-/
set_option linter.unusedVariables false
set_option linter.unusedSimpArgs false
set_option maxRecDepth 100000
set_option maxHeartbeats 4000000
namespace Go.Proofs.YtkncilgmlkeifaaGreatDoor
open Go.ChangeShapes Go.WideShapes Go.ChangeAt Go.RowKit Go.Shelf
structure TOk (r : Int) (n : Nat) (t : TermV) : Prop where
 ok : ∀ sl : Int, endB 3 sl r 5 n spA t = true
 rng : t.parts.Rng
theorem hasV_targets {p sl r : Int} {n1 n3 n3' : Nat} {sp : Nat -> Int} {f : FormV} {q : PartV} (h : n3 <= n3') (k : hasV p sl r n1 n3 sp f q = true) : hasV p sl r n1 n3' sp f q = true := by
 unfold hasV at *
 simp only [Bool.and_eq_true] at *
 obtain ⟨a, b, c, d⟩ := k
 refine ⟨a, b, c, ?_⟩
 rw [List.all_eq_true] at *
 intro j hj
 have := d j hj
 unfold wthB at *
 simp only [Bool.and_eq_true, decide_eq_true_eq] at *
 omega
theorem TOk.mono {r r' : Int} {n n' : Nat} {t : TermV} (h : TOk r n t) (hr : r <= r') (hn : n <= n') : TOk r' n' t := by
 refine ⟨fun sl => ?_, h.rng⟩
 have := h.ok sl
 unfold endB at *
 simp only [Bool.and_eq_true] at *
 exact ⟨this.1, hasV_targets hn (hasV_mono hr this.2)⟩
theorem regB_lt {r x : Int} (h : 0 <= x /\ x < r) : regB r ⟨2, x, 0⟩ = true := by
 simp [regB, wthB]
 omega
theorem valB_lt {r x : Int} (h : 0 <= x /\ x < r) : valB r ⟨2, x, 0⟩ = true := by
 unfold valB
 rw [regB_lt h, Bool.or_true]
theorem wth_tgt {x : Int} {n : Nat} (h : 0 <= x /\ x < n) : wthB x 0 ((n : Int) - 1) = true := by
 unfold wthB
 simp only [Bool.and_eq_true, decide_eq_true_eq]
 omega
theorem hasB_coll {s : Int} (h : 1 <= s /\ s <= 6) : hasB 126 s = true := by
 have : s = 1 \/ s = 2 \/ s = 3 \/ s = 4 \/ s = 5 \/ s = 6 := by omega
 rcases this with rfl | rfl | rfl | rfl | rfl | rfl <;> decide +kernel
section
variable {r x y s : Int} {n : Nat} {a b : OpdV}
theorem tok_jump (h : 0 <= x /\ x < n) (hn : n <= 100000) : TOk r n ⟨1, 0, ⟨0, 0, 0⟩, ⟨0, 0, 0⟩, ⟨0, 0, 0⟩, x, 0⟩ :=
 ⟨fun sl => by simp [endB, endOK, endF, hasV, othV, zeroP, FormV.want, TermV.parts, noOpd, wth_tgt h], ⟨z64, z64, o0, o0, o0, o0, i64_of (by show -1000000 <= x /\ x <= 1000000; omega), z64⟩⟩
theorem tok_barrier (h : 0 <= x /\ x < n) (hn : n <= 100000) : TOk r n ⟨3, 0, ⟨0, 0, 0⟩, ⟨0, 0, 0⟩, ⟨0, 0, 0⟩, x, 0⟩ :=
 ⟨fun sl => by simp [endB, endOK, endF, hasV, othV, zeroP, FormV.want, TermV.parts, noOpd, wth_tgt h], ⟨z64, z64, o0, o0, o0, o0, i64_of (by show -1000000 <= x /\ x <= 1000000; omega), z64⟩⟩
theorem tok_branch {c : Int} (hc : 0 <= c /\ c < r) (hr : r <= 100000) (h : 0 <= x /\ x < n) (k : 0 <= y /\ y < n) (hn : n <= 100000) : TOk r n ⟨2, 0, ⟨0, 0, 0⟩, ⟨2, c, 0⟩, ⟨0, 0, 0⟩, x, y⟩ :=
 ⟨fun sl => by
  simp [endB, endOK, endF, hasV, othV, zeroP, FormV.want, TermV.parts, noOpd, valB_lt hc]
  intro j hj
  split
  . exact wth_tgt h
  . exact wth_tgt k, ⟨z64, z64, o0, orng 2 (x := c) (v := 0) (by omega) (by decide), o0, o0, i64_of (by show -1000000 <= x /\ x <= 1000000; omega), i64_of (by show -1000000 <= y /\ y <= 1000000; omega)⟩⟩
theorem tok_collect (hr : 6 <= r) {d : Int} (hs : 1 <= s /\ s <= 6) (hd : 0 <= d /\ d <= 5) (ha : VOk a) (hb : VOk b) (h : 0 <= x /\ x < n) (hn : n <= 100000) : TOk r n ⟨4, s, ⟨2, d, 0⟩, a, b, x, 0⟩ :=
 ⟨fun sl => by simp [endB, endOK, endF, hasV, othV, zeroP, FormV.want, TermV.parts, noOpd, wth_tgt h, regB_of hr hd, valB_of hr ha, valB_of hr hb, hasB_coll hs], ⟨i64_of (by show -1000000 <= s /\ s <= 1000000; omega), z64, orng 2 (x := d) (v := 0) (by omega) (by decide), ha.rng, hb.rng, o0, i64_of (by show -1000000 <= x /\ x <= 1000000; omega), z64⟩⟩
theorem tok_exit : TOk r n ⟨5, 0, ⟨0, 0, 0⟩, ⟨0, 0, 0⟩, ⟨0, 0, 0⟩, 0, 0⟩ :=
 ⟨fun sl => by simp [endB, endOK, endF, hasV, othV, zeroP, FormV.want, TermV.parts, noOpd], ⟨z64, z64, o0, o0, o0, o0, z64, z64⟩⟩
theorem iok_movc {v : Int} (hx : 0 <= x /\ x < r) (hr : r <= 100000) (hv : 0 <= v /\ v <= 100) : IOk r ⟨1, 0, 0, ⟨2, x, 0⟩, ⟨1, 0, v⟩, ⟨0, 0, 0⟩, ⟨0, 0, 0⟩⟩ :=
 ⟨fun sl n3 => by simp [instB, instOK, instF, hasV, othV, zeroP, FormV.want, InstV.parts, noOpd, regB_lt hx, valB_const], ⟨z64, z64, orng 2 (x := x) (v := 0) (by omega) (by decide), orng 1 (x := 0) (v := v) (by decide) (by omega), o0, o0, z64, z64⟩⟩
theorem iok_binc {v : Int} (hs : 10 <= s /\ s <= 29) (hx : 0 <= x /\ x < r) (hy : 0 <= y /\ y < r) (hr : r <= 100000) (hv : 0 <= v /\ v <= 100) : IOk r ⟨3, s, 0, ⟨2, x, 0⟩, ⟨2, y, 0⟩, ⟨1, 0, v⟩, ⟨0, 0, 0⟩⟩ :=
 ⟨fun sl n3 => by simp [instB, instOK, instF, hasV, othV, zeroP, FormV.want, InstV.parts, noOpd, regB_lt hx, hasB_bin hs, valB_lt hy, valB_const], ⟨i64_of (by show -1000000 <= s /\ s <= 1000000; omega), z64, orng 2 (x := x) (v := 0) (by omega) (by decide), orng 2 (x := y) (v := 0) (by omega) (by decide), orng 1 (x := 0) (v := v) (by decide) (by omega), o0, z64, z64⟩⟩
end
structure BOk (r : Int) (n : Nat) (e : BlV) : Prop where
 len : e.1.length <= 9
 ins : ∀ i, i ∈ e.1 -> IOk r i
 fin : TOk r n e.2
theorem BOk.mono {r r' : Int} {n n' : Nat} {e : BlV} (h : BOk r n e) (hr : r <= r') (hn : n <= n') : BOk r' n' e := ⟨h.len, fun i hi => (h.ins i hi).mono hr, h.fin.mono hr hn⟩
def LOk (r : Int) (n : Nat) (l : LoV) : Prop := (0 <= l.1 /\ l.1 < n) /\ (0 <= l.2.1 /\ l.2.1 < r) /\ (1 <= l.2.2 /\ l.2.2 <= 3)
theorem LOk.mono {r r' : Int} {n n' : Nat} {l : LoV} (h : LOk r n l) (hr : r <= r') (hn : n <= n') : LOk r' n' l := by
 unfold LOk at *
 omega
def nmM (g s r : Int) (j : Nat) : Int := if j = 0 then g else if j = 1 then s else if j = 2 then r else if j = 3 then 0 else 3
theorem nmM_r {g s r r' : Int} {j : Nat} (h : j ≠ 2) : nmM g s r j = nmM g s r' j := by
 unfold nmM
 simp [h]
theorem nmM_s {g s s' r : Int} {j : Nat} (h : j ≠ 1) : nmM g s r j = nmM g s' r j := by
 unfold nmM
 simp [h]
section
variable {rb n0 K : Nat} {L : Value × Value} {gr sb r : Int} {qs : List ArV} {ls : List LoV} {init : List BlV} {last : Option BlV} {w0 W W' : World}
theorem MT.setR (h : MT rb n0 L K (nmM gr sb r) qs ls init last w0 W) (r' : Int) : MT rb n0 L K (nmM gr sb r') qs ls init last w0 (W.setCell ⟨rb, 4, none⟩ (.int .i64 r')) /\ KM W (W.setCell ⟨rb, 4, none⟩ (.int .i64 r')) := by
 obtain ⟨n1, g, I, La, h1, h2, h3, h4, h5, h6, h7, h8, h9⟩ := h
 refine ⟨⟨n1, _, I, La, h1.set 4 (by decide) _, h2, h3, ?_, ?_, fun j hj => ?_, h7.setCell h8 _, h8, h9⟩, ?_⟩
 . rw [upd_ne _ _ _ _ (by decide), upd_ne _ _ _ _ (by decide)]; exact h4
 . rw [upd_ne _ _ _ _ (by decide)]; exact h5
 . by_cases hj2 : j = 2
   . subst hj2
     simp [upd, nmM]
   . rw [upd_ne _ _ _ _ (by omega), h6 j hj, nmM_r hj2]
 . exact ⟨fun b C T fr hb hT => mset_kept h1.row 4 _ b C T fr hb hT.1, by simp [World.setCell]⟩
theorem MT.setS (h : MT rb n0 L K (nmM gr sb r) qs ls init last w0 W) (s' : Int) : MT rb n0 L K (nmM gr s' r) qs ls init last w0 (W.setCell ⟨rb, 3, none⟩ (.int .i64 s')) /\ KM W (W.setCell ⟨rb, 3, none⟩ (.int .i64 s')) := by
 obtain ⟨n1, g, I, La, h1, h2, h3, h4, h5, h6, h7, h8, h9⟩ := h
 refine ⟨⟨n1, _, I, La, h1.set 3 (by decide) _, h2, h3, ?_, ?_, fun j hj => ?_, h7.setCell h8 _, h8, h9⟩, ?_⟩
 . rw [upd_ne _ _ _ _ (by decide), upd_ne _ _ _ _ (by decide)]; exact h4
 . rw [upd_ne _ _ _ _ (by decide)]; exact h5
 . by_cases hj2 : j = 1
   . subst hj2
     simp [upd, nmM]
   . rw [upd_ne _ _ _ _ (by omega), h6 j hj, nmM_s hj2]
 . exact ⟨fun b C T fr hb hT => mset_kept h1.row 3 _ b C T fr hb hT.1, by simp [World.setCell]⟩
theorem MT.num {nm : Nat -> Int} (h : MT rb n0 L K nm qs ls init last w0 W) (j : Nat) (hj : j < 5) : W.cell? ⟨rb, 2 + j, none⟩ = some (.int .i64 (nm j)) := by
 obtain ⟨n1, g, I, La, h1, h2, h3, h4, h5, h6, h7, h8, h9⟩ := h
 rw [h1.row.cell (by omega), h6 j hj]
theorem MT.frozen {nm : Nat -> Int} (h : MT rb n0 L K nm qs ls init last w0 W) (o : Nat) : W.frozen? ⟨rb, o, none⟩ = false := by
 obtain ⟨n1, g, I, La, h1, _⟩ := h
 exact h1.row.frozen o
theorem MT.c8 {nm : Nat -> Int} (h : MT rb n0 L K nm qs ls init last w0 W) : ∃ v, W.cell? ⟨rb, 8, none⟩ = some v /\ W.ownsRow n0 85 3 v ls.length (flatL ls) := by
 obtain ⟨n1, g, I, La, h1, _⟩ := h
 exact ⟨g 8, h1.row.cell (by decide), h1.loops⟩
theorem MT.c9 {nm : Nat -> Int} {e : BlV} (h : MT rb n0 L K nm qs ls init (some e) w0 W) : ∃ gB cap, W.cell? ⟨rb, 9, none⟩ = some (.slice (some ⟨gB, 0, none⟩) (init.length + 1) cap) /\ ∀ o, W.frozen? ⟨gB, o, none⟩ = false := by
 obtain ⟨n1, g, I, La, h1, rfl, hL, _⟩ := h
 cases La with
 | none => cases hL
 | some e' =>
  obtain ⟨gB, cap, h9, _, hf, _⟩ := h1.last
  exact ⟨gB, cap, by rw [h1.row.cell (by decide), h9, List.length_map], hf⟩
end
theorem MT.pushL {rb n0 K : Nat} {L : Value × Value} {nm : Nat -> Int} {qs : List ArV} {ls : List LoV} {init : List BlV} {last : Option BlV} {w0 W W' : World} {v v8 : Value} {a : LoV} (h : MT rb n0 L K nm qs ls init last w0 W) (hc : W.cell? ⟨rb, 8, none⟩ = some v8) (hr : W'.ownsRow n0 85 3 v (ls.length + 1) (flatL ls ++ loC a)) (hg : W.grownBy W' v8.ownBlock) :
 W'.frozen? ⟨rb, 8, none⟩ = false /\ (∃ u, W'.cell? ⟨rb, 8, none⟩ = some u) /\ MT rb n0 L K nm qs (ls ++ [a]) init last w0 (W'.setCell ⟨rb, 8, none⟩ v) /\ KM W (W'.setCell ⟨rb, 8, none⟩ v) := by
 obtain ⟨n1, g, I, La, h1, h2, h3, h4, h5, h6, h7, h8', h9⟩ := h
 have e8 := h1.row.cell (i := 8) (by decide)
 rw [hc] at e8
 injection e8 with e8
 rw [e8] at hg
 have hp := h1.pushL hr hg
 have hrow := row_grow h1.row h1.loops hg (by decide)
 refine ⟨hrow.frozen 8, ⟨_, hrow.cell (by decide)⟩, ⟨n1, _, I, La, hp, h2, h3, ?_, ?_, fun j hj => ?_, (grow_below h7 h1.loops hg h9 (Nat.le_refl _)).setCell h8' v, h8', h9⟩, ?_⟩
 . rw [upd_ne _ _ _ _ (by decide), upd_ne _ _ _ _ (by decide)]; exact h4
 . rw [upd_ne _ _ _ _ (by decide)]; exact h5
 . rw [upd_ne _ _ _ _ (by omega)]; exact h6 j hj
 . have hk := grow_kept h1.loops hg
   have hs := mset_kept hrow 8 v
   refine ⟨fun b C' T fr hb' hT => ?_, ?_⟩
   . have e2 := hk b C' T fr hb' hT.2.2.2
     exact (hs b C' T fr (e2.trans hb') hT.1).trans e2
   . have := hg.size; simp [World.setCell]; omega
theorem MT.c9f {rb n0 K : Nat} {L : Value × Value} {qs : List ArV} {ls : List LoV} {init : List BlV} {w0 W : World} {nm : Nat -> Int} {e : BlV} (h : MT rb n0 L K nm qs ls init (some e) w0 W) {gB cap N : Nat} (h9 : W.cell? ⟨rb, 9, none⟩ = some (.slice (some ⟨gB, 0, none⟩) N cap)) : ∀ o, W.frozen? ⟨gB, o, none⟩ = false := by
 obtain ⟨gB', cB', e9, ef⟩ := h.c9
 rw [h9] at e9
 simp only [Option.some.injEq, Value.slice.injEq, Addr.mk.injEq] at e9
 obtain ⟨⟨rfl, _⟩, _⟩ := e9
 exact ef
theorem MT.n0le {rb n0 K : Nat} {L : Value × Value} {qs : List ArV} {ls : List LoV} {init : List BlV} {last : Option BlV} {w0 W : World} {nm : Nat -> Int} (h : MT rb n0 L K nm qs ls init last w0 W) : n0 <= W.heap.size := by
 obtain ⟨n1, g, I, La, h1, _⟩ := h
 have := h1.hn
 omega
def putE (W : World) (gB o : Nat) (t : TermV) : World :=
 (((((((((((((W.setCell ⟨gB, o + 1, none⟩ (.int .i64 t.kind)).setCell ⟨gB, o + 1 + 1, none⟩ (.int .i64 t.sub)).setCell ⟨gB, o + 1 + 2, none⟩ (.int .i64 t.d.k)).setCell ⟨gB, o + 1 + 3, none⟩ (.int .i64 t.d.n)).setCell ⟨gB, o + 1 + 4, none⟩ (.int .i32 t.d.v)).setCell ⟨gB, o + 1 + 5, none⟩ (.int .i64 t.a.k)).setCell ⟨gB, o + 1 + 6, none⟩ (.int .i64 t.a.n)).setCell ⟨gB, o + 1 + 7, none⟩ (.int .i32 t.a.v)).setCell ⟨gB, o + 1 + 8, none⟩ (.int .i64 t.b.k)).setCell ⟨gB, o + 1 + 9, none⟩ (.int .i64 t.b.n)).setCell ⟨gB, o + 1 + 10, none⟩ (.int .i32 t.b.v)).setCell ⟨gB, o + 1 + 11, none⟩ (.int .i64 t.t0)).setCell ⟨gB, o + 1 + 12, none⟩ (.int .i64 t.t1))
theorem kept_set1 {W : World} {b : Nat} {C : Array Value} {T : TypeId} {fr : Nat × Nat} (hb : W.heap[b]? = some (.cells C T fr)) (o : Nat) (u : Value) : Kept (. ≠ T) W (W.setCell ⟨b, o, none⟩ u) := by
 intro k C' T' fr' hk hT
 refine Below.heap_setCell W ⟨b, o, none⟩ u k ?_
 rintro rfl
 rw [hb] at hk
 injection hk with hk
 injection hk with _ h2 _
 exact hT h2.symm
section
variable {rb n0 K : Nat} {L : Value × Value} {nm : Nat -> Int} {qs : List ArV} {ls : List LoV} {init : List BlV} {is : List InstV} {t : TermV} {w0 W W' : World}
theorem MT.term (h : MT rb n0 L K nm qs ls init (some (is, t)) w0 W) {gB cap : Nat} {N : Nat} (h9 : W.cell? ⟨rb, 9, none⟩ = some (.slice (some ⟨gB, 0, none⟩) N cap)) (t' : TermV) : MT rb n0 L K nm qs ls init (some (is, t')) w0 (putE W gB (init.length * 14) t') /\ KM W (putE W gB (init.length * 14) t') := by
 obtain ⟨n1, g, I, La, h1, rfl, hL, h4, h5, h6, h7, h8, h9'⟩ := h
 obtain ⟨e, rfl⟩ : ∃ e, La = some e := by cases La with
  | none => cases hL
  | some e => exact ⟨e, rfl⟩
 obtain ⟨vI, is', t0⟩ := e
 simp only [Option.map_some, Option.some.injEq, Prod.mk.injEq] at hL
 obtain ⟨rfl, rfl⟩ := hL
 obtain ⟨gB', cap', hg9, _, hf, hgB, C55, hC55⟩ := h1.last
 have h9e := h1.row.cell (i := 9) (by decide)
 rw [h9, hg9] at h9e
 simp only [Option.some.injEq, Value.slice.injEq, Addr.mk.injEq] at h9e
 obtain ⟨⟨rfl, _⟩, _, rfl⟩ := h9e
 rw [List.length_map]
 have hst := h1.storeT (gB := gB) (cap := cap) (by rw [hg9]; simp) (I.length * 14) t'
 rw [show (some ((vI, is', t0) : BlE)).toList = [(vI, is', t0)] from rfl, flatB_setT I (vI, is', t0) t'] at hst
 have hn := h1.hn
 have hb0 : w0.heap.size <= gB := by omega
 have hKM : ∀ (W : World) (C : Array Value) (o : Nat) (u : Value), W.heap[gB]? = some (.cells C 55 (0, 0)) -> KM W (W.setCell ⟨gB, o, none⟩ u) /\ ∃ C', (W.setCell ⟨gB, o, none⟩ u).heap[gB]? = some (.cells C' 55 (0, 0)) := fun W C o u hC =>
  ⟨⟨fun b C' T fr hb hT => kept_set1 hC o u b C' T fr hb hT.2.1, by simp [World.setCell]⟩, ⟨_, heap_setCell_same W gB o _ 55 u hC⟩⟩
 refine ⟨⟨n1, g, I, some (vI, is', t'), ?_, rfl, rfl, h4, h5, h6, ?_, h8, h9'⟩, ?_⟩
 . have e := hst
   refine ⟨e.row, e.arr, e.loops, by simpa [putE] using e.blocks, e.old, fun x hx => ?_, e.hn⟩
   injection hx with hx
   subst hx
   exact e.new (vI, is', t0) rfl
 . unfold putE
   exact ((((((((((((h7.setCell hb0 _).setCell hb0 _).setCell hb0 _).setCell hb0 _).setCell hb0 _).setCell hb0 _).setCell hb0 _).setCell hb0 _).setCell hb0 _).setCell hb0 _).setCell hb0 _).setCell hb0 _).setCell hb0 _
 . unfold putE
   obtain ⟨k1, C1, e1⟩ := hKM W C55 (I.length * 14 + 1) (.int .i64 t'.kind) hC55
   obtain ⟨k2, C2, e2⟩ := hKM _ C1 (I.length * 14 + 1 + 1) (.int .i64 t'.sub) e1
   obtain ⟨k3, C3, e3⟩ := hKM _ C2 (I.length * 14 + 1 + 2) (.int .i64 t'.d.k) e2
   obtain ⟨k4, C4, e4⟩ := hKM _ C3 (I.length * 14 + 1 + 3) (.int .i64 t'.d.n) e3
   obtain ⟨k5, C5, e5⟩ := hKM _ C4 (I.length * 14 + 1 + 4) (.int .i32 t'.d.v) e4
   obtain ⟨k6, C6, e6⟩ := hKM _ C5 (I.length * 14 + 1 + 5) (.int .i64 t'.a.k) e5
   obtain ⟨k7, C7, e7⟩ := hKM _ C6 (I.length * 14 + 1 + 6) (.int .i64 t'.a.n) e6
   obtain ⟨k8, C8, e8⟩ := hKM _ C7 (I.length * 14 + 1 + 7) (.int .i32 t'.a.v) e7
   obtain ⟨k9, C9, e9⟩ := hKM _ C8 (I.length * 14 + 1 + 8) (.int .i64 t'.b.k) e8
   obtain ⟨k10, C10, e10⟩ := hKM _ C9 (I.length * 14 + 1 + 9) (.int .i64 t'.b.n) e9
   obtain ⟨k11, C11, e11⟩ := hKM _ C10 (I.length * 14 + 1 + 10) (.int .i32 t'.b.v) e10
   obtain ⟨k12, C12, e12⟩ := hKM _ C11 (I.length * 14 + 1 + 11) (.int .i64 t'.t0) e11
   obtain ⟨k13, C13, e13⟩ := hKM _ C12 (I.length * 14 + 1 + 12) (.int .i64 t'.t1) e12
   exact (((((((((((k1.trans k2).trans k3).trans k4).trans k5).trans k6).trans k7).trans k8).trans k9).trans k10).trans k11).trans k12).trans k13
end
def K9 (rb : Nat) (W W' : World) : Prop := rb < W.heap.size -> rb < W'.heap.size /\ W'.cell? ⟨rb, 9, none⟩ = W.cell? ⟨rb, 9, none⟩
theorem K9.of {rb : Nat} {W W' : World} (h : Below W.heap.size W W') : K9 rb W W' := fun hl => ⟨Nat.lt_of_lt_of_le hl h.size, h.cell (p := ⟨rb, 9, none⟩) hl⟩
theorem K9.trans {rb : Nat} {W W1 W2 : World} (h : K9 rb W W1) (k : K9 rb W1 W2) : K9 rb W W2 := fun hl => by
 have h1 := h hl
 have h2 := k h1.1
 exact ⟨h2.1, h2.2.trans h1.2⟩
theorem K9.drewN {rb : Nat} {W W' : World} (h : K9 rb W W') (k : Nat) : K9 rb W (W'.drewN k) := h.trans (K9.of (below_drewN (Below.refl _ _) k))
theorem K9.setNew {rb : Nat} {W W' : World} (h : K9 rb W W') {a : Addr} (ha : W.heap.size <= a.block) (u : Value) : K9 rb W (W'.setCell a u) := fun hl => by
 have h1 := h hl
 exact ⟨by simpa [World.setCell] using h1.1, by rw [World.cell?_setCell_far _ _ _ _ (by show a.block ≠ rb; omega)]; exact h1.2⟩
theorem K9.set3 {rb : Nat} {W W' : World} (h : K9 rb W W') (x y z : Value) : K9 rb W (((W'.setCell ⟨W.heap.size, 0, none⟩ x).setCell ⟨W.heap.size, 1, none⟩ y).setCell ⟨W.heap.size, 2, none⟩ z) :=
 ((h.setNew (Nat.le_refl _) x).setNew (Nat.le_refl _) y).setNew (Nat.le_refl _) z
section
variable (rb n0 K : Nat) (num : Nat -> Int) (qs : List ArV) (ls : List LoV) (init : List BlV) (last : Option BlV) (w0 W : World) (A : Option Addr) (n c : Nat) (f : Nat -> Int) (AV : Value)
theorem next_k (h : MT rb n0 (.slice A n c, AV) K num qs ls init last w0 W) (hn : n <= 9223372036854775807) (hK : K <= 1000000) (hB : RBy w0 A n f) :
 Calls Tryz.prog 65 #[.pointer (some ⟨rb, 0, none⟩)] W fun e w' => (∃ x : Int, e = .returned (.int .i64 x) /\ 0 <= x /\ x <= 255) /\ MT rb n0 (.slice A n c, AV) (K + 1) num qs ls init last w0 w' /\ KM W w' /\ K9 rb W w' := by
 obtain ⟨n1, g, I, La, h1, h2, h3, h4, ⟨k, h5, hk⟩, h6, h7, h8, h9⟩ := h
 have hfin : MT rb n0 (.slice A n c, AV) (K + 1) num qs ls init last w0 (W.setCell ⟨rb, 1, none⟩ (.int .i64 ((k : Int) + 1))) := by
  refine ⟨n1, _, I, La, h1.set 1 (by decide) _, h2, h3, ?_, ⟨k + 1, ?_, by omega⟩, fun j hj => ?_, h7.setCell h8 _, h8, h9⟩
  . rw [upd_ne _ _ _ _ (by decide), upd_ne _ _ _ _ (by decide)]; exact h4
  . simp [upd]
  . rw [upd_ne _ _ _ _ (by omega)]; exact h6 j hj
 have hkm : KM W (W.setCell ⟨rb, 1, none⟩ (.int .i64 ((k : Int) + 1))) := ⟨fun b C T fr hb hT => mset_kept h1.row 1 _ b C T fr hb hT.1, by simp [World.setCell]⟩
 have hk9 : K9 rb W (W.setCell ⟨rb, 1, none⟩ (.int .i64 ((k : Int) + 1))) := fun hl => ⟨by simpa [World.setCell] using hl, ((h1.row.set 1 _).cell (i := 9) (by decide)).trans ((congrArg some (upd_ne _ _ _ _ (by decide))).trans (h1.row.cell (i := 9) (by decide)).symm)⟩
 have c0 : W.cell? ⟨rb, 0, none⟩ = some (.slice A n c) := by rw [h1.row.cell (by decide), h4.1]
 have c1 : W.cell? ⟨rb, 1, none⟩ = some (.int .i64 (k : Int)) := by rw [h1.row.cell (by decide), h5]
 have f1 := h1.row.frozen 1
 have d0 : (W.setCell ⟨rb, 1, none⟩ (.int .i64 ((k : Int) + 1))).cell? ⟨rb, 0, none⟩ = some (.slice A n c) := by rw [(h1.row.set 1 _).cell (by decide)]; simp [h4.1]
 have d1 : (W.setCell ⟨rb, 1, none⟩ (.int .i64 ((k : Int) + 1))).cell? ⟨rb, 1, none⟩ = some (.int .i64 ((k : Int) + 1)) := by rw [(h1.row.set 1 _).cell (by decide)]; simp
 have hw : IntKind.i64.wrap ((k : Int) + 1) = (k : Int) + 1 := IntWalk.i64_in _ (by omega)
 by_cases hkn : k + 1 <= n
 . obtain ⟨b, off, rfl, hb, hcl⟩ := hB (by omega)
   obtain ⟨dc, dl, du⟩ := hcl k (by omega)
   have hne : b ≠ rb := by omega
   have d2 : (W.setCell ⟨rb, 1, none⟩ (.int .i64 ((k : Int) + 1))).cell? ⟨b, off + k, none⟩ = some (.int .u8 (f k)) := by
    rw [World.cell?_setCell_far _ _ _ _ (fun e => hne e.symm), <- dc]
    exact World.cell?_of_block (h7.block b hb)
   have hgt : decide ((n : Int) < (k : Int) + 1) = false := by simp; omega
   have hw2 : IntKind.i64.wrap ((k : Int) + 1 - 1) = (k : Int) := by rw [show (k : Int) + 1 - 1 = (k : Int) from by omega]; exact IntWalk.i64_in _ (by omega)
   have HF := lh (And.intro hfin (And.intro hkm hk9))
   clear hfin hkm hk9 hcl hB h7 h1 dc
   go_enter Tryz.func65, Tryz.ntmps65
   go_wp2
   go_quiet (fail)
   go_wp2
   go_quiet (fail)
   go_wp2
   exact bodyPost_ret (v := .int .i64 (f k)) (by simp [results, Tryz.results65, go_sem]) rfl ⟨⟨_, rfl, dl, du⟩, (HF.out.1.drewN _).drewN _, (HF.out.2.1.drewN _).drewN _, (HF.out.2.2.drewN _).drewN _⟩
 . have hgt : decide ((n : Int) < (k : Int) + 1) = true := by simp; omega
   have HF := lh (And.intro hfin (And.intro hkm hk9))
   clear hfin hkm hk9 hB h7 h1
   go_enter Tryz.func65, Tryz.ntmps65
   go_wp2
   go_quiet (fail)
   go_wp2
   exact bodyPost_ret (v := .int .i64 0) (by simp [results, Tryz.results65, go_sem]) rfl ⟨⟨_, rfl, by decide, by decide⟩, HF.out.1.drewN _, HF.out.2.1.drewN _, HF.out.2.2.drewN _⟩
theorem reg_k (h : MT rb n0 (.slice A n c, AV) K num qs ls init last w0 W) (hn : n <= 9223372036854775807) (hK : K <= 1000000) (hB : RBy w0 A n f) :
 Calls Tryz.prog 70 #[.pointer (some ⟨rb, 0, none⟩)] W fun e w' => (∃ x : Int, e = .returned (.agg #[(2:Int), x, .int .i32 0]) /\ 0 <= x /\ x <= 5) /\ MT rb n0 (.slice A n c, AV) (K + 1) num qs ls init last w0 w' /\ KM W w' /\ K9 rb W w' := by
 have h0 : w0.heap.size <= W.heap.size := by obtain ⟨_, _, _, _, _, _, _, _, _, _, h7, _⟩ := h; exact h7.size
 have HA := lh (fun o => KM.of ((Below.refl W.heap.size W).alloc (Nat.le_refl _) o))
 have HB := lh (fun o => K9.of (rb := rb) ((Below.refl W.heap.size W).alloc (Nat.le_refl _) o))
 have HB0 := lh (BxO.new W 0 0 0)
 have HN := lh (fun o => next_k rb n0 K num qs ls init last w0 (W.alloc o) A n c f AV (h.alloc o) hn hK hB)
 clear h hB
 go_enter Tryz.func70, Tryz.ntmps70
 go_wp2_with (first
  | (go_at_call 65; (with_reducible refine (HN.out _).mono ?_); rintro e W1 ⟨⟨x, rfl, x0, x1⟩, h1, k1, q1⟩; have H1 := lh h1; have HX1 := lh (HB0.out.on k1); have HK1 := lh ((HA.out _).trans k1); have HQ1 := lh ((HB.out _).trans q1); clear h1 k1 q1)
  | (go_at_call 40; (with_reducible refine (Reg_any _ _).mono ?_); rintro e W2 ⟨rfl, hb⟩; have H2 := lh (H1.out.on hb); have HX2 := lh (HX1.out.on (KM.of hb)); have HK2 := lh (HK1.out.trans (KM.of hb)); have HQ2 := lh (HQ1.out.trans (K9.of hb)); obtain ⟨⟨_, c0⟩, ⟨_, c1⟩, ⟨_, c2⟩, cf⟩ := HX2.out.facts; clear hb))
 exact bodyPost_ret (v := .agg #[(2:Int), .int .i64 (x % 6), .int .i32 0]) (by simp [results, Tryz.results70, go_sem, c0, c1, c2]) rfl ⟨⟨_, rfl, by omega, by omega⟩, H2.out.box3 HX2.out h0 2 (x % 6) 0, HK2.out.set3 _ _ _, HQ2.out.set3 _ _ _⟩
theorem val_k (h : MT rb n0 (.slice A n c, AV) K num qs ls init last w0 W) (hn : n <= 9223372036854775807) (hK : K <= 1000000) (hB : RBy w0 A n f) :
 Calls Tryz.prog 71 #[.pointer (some ⟨rb, 0, none⟩)] W fun e w' => (∃ o : OpdV, e = .returned (.agg #[o.k, o.n, .int .i32 o.v]) /\ VOk o) /\ MT rb n0 (.slice A n c, AV) (K + 1) num qs ls init last w0 w' /\ KM W w' /\ K9 rb W w' := by
 have h0 : w0.heap.size <= W.heap.size := by obtain ⟨_, _, _, _, _, _, _, _, _, _, h7, _⟩ := h; exact h7.size
 have HA := lh (fun o => KM.of ((Below.refl W.heap.size W).alloc (Nat.le_refl _) o))
 have HB := lh (fun o => K9.of (rb := rb) ((Below.refl W.heap.size W).alloc (Nat.le_refl _) o))
 have HB0 := lh (BxO.new W 0 0 0)
 have HN := lh (fun o => next_k rb n0 K num qs ls init last w0 (W.alloc o) A n c f AV (h.alloc o) hn hK hB)
 clear h hB
 go_enter Tryz.func71, Tryz.ntmps71
 go_wp2_with (first
  | (go_at_call 65; (with_reducible refine (HN.out _).mono ?_); rintro e W1 ⟨⟨x, rfl, x0, x1⟩, h1, k1, q1⟩; have H1 := lh h1; have HX1 := lh (HB0.out.on k1); have HK1 := lh ((HA.out _).trans k1); have HQ1 := lh ((HB.out _).trans q1); have hw0 : IntKind.i32.wrap (x / 3) = x / 3 := IntWalk.i32_in _ (by omega); have hw1 : IntKind.i32.wrap (x / 3 - 20) = x / 3 - 20 := IntWalk.i32_in _ (by omega); clear h1 k1 q1)
  | ((first | go_at_call 40 | go_at_call 42); (with_reducible first | refine (Reg_any _ _).mono ?_ | refine (Const_any _ _).mono ?_); rintro e W2 ⟨rfl, hb⟩; have H2 := lh (H1.out.on hb); have HX2 := lh (HX1.out.on (KM.of hb)); have HK2 := lh (HK1.out.trans (KM.of hb)); have HQ2 := lh (HQ1.out.trans (K9.of hb)); obtain ⟨⟨_, c0⟩, ⟨_, c1⟩, ⟨_, c2⟩, cf⟩ := HX2.out.facts; clear hb))
 . exact bodyPost_ret (v := .agg #[(1:Int), (0:Int), .int .i32 (x / 3 - 20)]) (by simp [results, Tryz.results71, go_sem, c0, c1, c2]) rfl ⟨⟨⟨1, 0, x / 3 - 20⟩, rfl, .inl ⟨rfl, rfl, by show -20 <= x / 3 - 20; omega, by show x / 3 - 20 <= 65; omega⟩⟩, H2.out.box3 HX2.out h0 1 0 (x / 3 - 20), HK2.out.set3 _ _ _, HQ2.out.set3 _ _ _⟩
 . exact bodyPost_ret (v := .agg #[(2:Int), .int .i64 (x / 3 % 6), .int .i32 0]) (by simp [results, Tryz.results71, go_sem, c0, c1, c2]) rfl ⟨⟨⟨2, x / 3 % 6, 0⟩, rfl, .inr ⟨rfl, rfl, by show 0 <= x / 3 % 6; omega, by show x / 3 % 6 <= 5; omega⟩⟩, H2.out.box3 HX2.out h0 2 (x / 3 % 6) 0, HK2.out.set3 _ _ _, HQ2.out.set3 _ _ _⟩
end
section
variable {g s r sl p : Int} {ls : List LoV} {bs : List BlV} {n : Nat -> Int}
end
structure MdOk (c : CdV) : Prop where
 q : c.q = arM
 nums : ∃ g s, sizB g s 0 0 0 = true /\ (1 <= g /\ g <= 8) /\ (1 <= s /\ s <= 8) /\ c.n = nmM g s (6 + 2 * (c.l.length : Int))
 l3 : c.l.length <= 3
 b18 : 1 <= c.b.length /\ c.b.length <= 18
 ls : ∀ l, l ∈ c.l -> LOk (6 + 2 * (c.l.length : Int)) c.b.length l
 bs : ∀ e, e ∈ c.b -> BOk (6 + 2 * (c.l.length : Int)) c.b.length e
theorem MdOk.fits {c : CdV} (h : MdOk c) : c.Fits := ⟨by rw [h.q]; decide, by have := h.l3; omega, by have := h.b18; omega⟩
theorem nmM_rng {g s r : Int} (h1 : 1 <= g /\ g <= 8) (h2 : 1 <= s /\ s <= 8) (h3 : 0 <= r /\ r <= 1000) (j : Nat) : I64 (nmM g s r j) := by
 unfold nmM
 apply i64_of
 repeat' split
 all_goals omega
theorem arM_rng : ∀ a, a ∈ arM -> I64 a.2.1 /\ I64 a.2.2.1 /\ I64 a.2.2.2 := by
 intro a ha
 simp only [arM, List.mem_cons, List.not_mem_nil, or_false] at ha
 rcases ha with rfl | rfl | rfl | rfl | rfl <;> exact ⟨i64_of (by decide), i64_of (by decide), i64_of (by decide)⟩
theorem MdOk.ok {c : CdV} (h : MdOk c) : CdOk c := by
 obtain ⟨g, s, hs, hg, hs8, hn⟩ := h.nums
 refine ⟨fun j => by rw [hn]; exact nmM_rng hg hs8 (by have := h.l3; omega) j, fun a ha => arM_rng a (by rw [<- h.q]; exact ha), fun a ha => ?_, fun e he x hx => ((h.bs e he).ins x hx).rng, fun e he => (h.bs e he).fin.rng⟩
 have := h.ls a ha
 have := h.b18
 have := h.l3
 unfold LOk at *
 exact ⟨i64_of (by omega), i64_of (by omega), i64_of (by omega)⟩
section
variable {c : CdV} {n0 n1 n2 x : Int} {k : Nat}
end
theorem arrays_any (w : World) : Calls Tryz.prog 66 #[] w fun e w' => e = .returned (.slice (some ⟨w.heap.size, 0, none⟩) 5 5) /\ w'.ownsRow w.heap.size 91 4 (.slice (some ⟨w.heap.size, 0, none⟩) 5 5) 5 (flatA arM) /\ Below w.heap.size w w' := by
 go_enter Tryz.func66, Tryz.ntmps66
 go_wp2
 go_ret
 exact ⟨rfl, World.ownsRow_lit (base := w.heap.size) (e := 91) (size := 4) w _ 5 (Nat.le_refl _) (by unfold maxLen; omega) rfl, (Below.refl _ _).alloc (Nat.le_refl _) _⟩
def mk0 (L : Value) (j : Nat) : Value := if j = 0 then L else if j < 7 then .int .i64 0 else .slice none 0 0
theorem MT.init {w0 W : World} (L : Value) (hb : Below w0.heap.size w0 W) : MT W.heap.size w0.heap.size (L, .slice none 0 0) 0 (fun _ => 0) [] [] [] none w0 (W.alloc (.cells #[L, (0:Int), (0:Int), (0:Int), (0:Int), (0:Int), (0:Int), .slice none 0 0, .slice none 0 0, .slice none 0 0] 126)) := by
 refine ⟨W.heap.size, mk0 L, [], none, ⟨?_, World.ownsRow_nil _ _ _ _, World.ownsRow_nil _ _ _ _, World.ownsRow_nil _ _ _ _, fun e he => (by cases he), fun e he => (by cases he), hb.size, by simp⟩, rfl, rfl, ⟨rfl, rfl⟩, ⟨0, rfl, Nat.le_refl _⟩, fun j hj => ?_, hb.alloc hb.size _, hb.size, Nat.le_refl _⟩
 . refine World.rowIs_alloc W #[L, (0:Int), (0:Int), (0:Int), (0:Int), (0:Int), (0:Int), .slice none 0 0, .slice none 0 0, .slice none 0 0] 126 (mk0 L) (fun i hi => ?_)
   have hi : i < 10 := hi
   have : i = 0 \/ i = 1 \/ i = 2 \/ i = 3 \/ i = 4 \/ i = 5 \/ i = 6 \/ i = 7 \/ i = 8 \/ i = 9 := by omega
   rcases this with rfl | rfl | rfl | rfl | rfl | rfl | rfl | rfl | rfl | rfl <;> rfl
 . have : j = 0 \/ j = 1 \/ j = 2 \/ j = 3 \/ j = 4 := by omega
   rcases this with rfl | rfl | rfl | rfl | rfl <;> rfl
section
variable {rb n0 K : Nat} {L : Value × Value} {num : Nat -> Int} {w0 W : World} {v : Value}
theorem MT.begin (h : MT rb n0 L K num [] [] [] none w0 W) (ha : W.ownsRow n0 91 4 v 5 (flatA arM)) (g s r : Int) :
 MT rb n0 (L.1, v) K (nmM g s r) arM [] [] none w0 ((((((((W.setCell ⟨rb, 2, none⟩ (.int .i64 g)).setCell ⟨rb, 3, none⟩ (.int .i64 s)).setCell ⟨rb, 4, none⟩ (.int .i64 r)).setCell ⟨rb, 5, none⟩ (.int .i64 0)).setCell ⟨rb, 6, none⟩ (.int .i64 3)).setCell ⟨rb, 7, none⟩ v).setCell ⟨rb, 8, none⟩ (.slice none 0 0)).setCell ⟨rb, 9, none⟩ (.slice none 0 0)) /\
 KM W ((((((((W.setCell ⟨rb, 2, none⟩ (.int .i64 g)).setCell ⟨rb, 3, none⟩ (.int .i64 s)).setCell ⟨rb, 4, none⟩ (.int .i64 r)).setCell ⟨rb, 5, none⟩ (.int .i64 0)).setCell ⟨rb, 6, none⟩ (.int .i64 3)).setCell ⟨rb, 7, none⟩ v).setCell ⟨rb, 8, none⟩ (.slice none 0 0)).setCell ⟨rb, 9, none⟩ (.slice none 0 0)) := by
 obtain ⟨n1, f, I, La, h1, h2, h3, h4, h5, h6, h7, h8, h9⟩ := h
 have hs : ∀ (V : World) (q : Nat -> Value) (o : Nat) (u : Value), V.rowIs rb 126 10 q -> V.ownsRow n0 91 4 v 5 (flatA arM) -> Below w0.heap.size w0 V -> KM W V -> (V.setCell ⟨rb, o, none⟩ u).rowIs rb 126 10 (upd q o u) /\ (V.setCell ⟨rb, o, none⟩ u).ownsRow n0 91 4 v 5 (flatA arM) /\ Below w0.heap.size w0 (V.setCell ⟨rb, o, none⟩ u) /\ KM W (V.setCell ⟨rb, o, none⟩ u) := fun V q o u hr ho hb hk =>
  ⟨hr.set o u, row_kept ho (mset_kept hr o u) (by decide), hb.setCell h8 u, hk.trans ⟨fun b C T fr hb hT => mset_kept hr o u b C T fr hb hT.1, by simp [World.setCell]⟩⟩
 obtain ⟨r1, a1, b1, k1⟩ := hs W f 2 (.int .i64 g) h1.row ha h7 (KM.of (Below.refl _ _))
 obtain ⟨r2, a2, b2, k2⟩ := hs _ _ 3 (.int .i64 s) r1 a1 b1 k1
 obtain ⟨r3, a3, b3, k3⟩ := hs _ _ 4 (.int .i64 r) r2 a2 b2 k2
 obtain ⟨r4, a4, b4, k4⟩ := hs _ _ 5 (.int .i64 0) r3 a3 b3 k3
 obtain ⟨r5, a5, b5, k5⟩ := hs _ _ 6 (.int .i64 3) r4 a4 b4 k4
 obtain ⟨r6, a6, b6, k6⟩ := hs _ _ 7 v r5 a5 b5 k5
 obtain ⟨r7, a7, b7, k7⟩ := hs _ _ 8 (.slice none 0 0) r6 a6 b6 k6
 obtain ⟨r8, a8, b8, k8⟩ := hs _ _ 9 (.slice none 0 0) r7 a7 b7 k7
 refine ⟨⟨n0, _, [], none, ⟨r8, ?_, ?_, ?_, fun e he => (by cases he), fun e he => (by cases he), Nat.le_refl _, ?_⟩, rfl, rfl, ⟨?_, ?_⟩, ?_, fun j hj => ?_, b8, h8, h9⟩, k8⟩
 . simp only [upd]
   exact a8
 . simp only [upd]
   exact World.ownsRow_nil _ _ _ _
 . simp only [upd]
   exact World.ownsRow_nil _ _ _ _
 . have := h1.hn
   simp [World.setCell]
   omega
 . simp [upd]
   exact h4.1
 . simp [upd]
 . simpa [upd] using h5
 . have : j = 0 \/ j = 1 \/ j = 2 \/ j = 3 \/ j = 4 := by omega
   rcases this with rfl | rfl | rfl | rfl | rfl <;> simp [upd, nmM]
end
theorem MT.code {rb n0 K : Nat} {L : Value × Value} {nm : Nat -> Int} {ls : List LoV} {init : List BlV} {e : BlV} {w0 W : World} (h : MT rb n0 L K nm arM ls init (some e) w0 W) (hi : ∀ x, x ∈ init ++ [e] -> x.1.length <= 65536) :
 ∃ a : CdA, W.cell? ⟨rb, 7, none⟩ = some (.slice a.a1 5 a.c1) /\ W.cell? ⟨rb, 8, none⟩ = some (.slice a.a2 ls.length a.c2) /\ W.cell? ⟨rb, 9, none⟩ = some (.slice a.a3 (init.length + 1) a.c3) /\ CdK ⟨arM, ls, init ++ [e], nm⟩ a W := by
 obtain ⟨n1, g, I, La, h1, rfl, h3, h4, h5, h6, h7, h8, h9⟩ := h
 cases La with
 | none => cases h3
 | some e' =>
  simp only [Option.map_some, Option.some.injEq] at h3
  subst h3
  have hn := h1.hn
  have hrc : RC n0 (g 7) (g 8) (g 9) arM ls (I ++ [e']) W := ⟨h1.arr, h1.loops, h1.blocks, fun x hx => by
   rcases List.mem_append.1 hx with hx | hx
   . exact (h1.old x hx).1
   . rw [List.mem_singleton] at hx
     subst hx
     exact (h1.new _ rfl).mono (by omega)⟩
  obtain ⟨a, e7, e8, e9, hk⟩ := hrc.cdk nm (fun a ha => by
   simp only [arM, List.mem_cons, List.not_mem_nil, or_false] at ha
   rcases ha with rfl | rfl | rfl | rfl | rfl <;> decide) (fun x hx => hi x.2 (by
   rw [show (List.map (·.2) I ++ [e'.2] : List BlV) = List.map (·.2) (I ++ [e']) from by simp]
   exact List.mem_map.2 ⟨x, hx, rfl⟩))
  refine ⟨a, by rw [h1.row.cell (by decide), e7]; rfl, by rw [h1.row.cell (by decide), e8], by rw [h1.row.cell (by decide), e9]; simp, ?_⟩
  rw [show (List.map (·.2) I ++ [e'.2] : List BlV) = List.map (·.2) (I ++ [e']) from by simp]
  exact hk
theorem MG.grow {rb n0 K' : Nat} {L : Value × Value} {num : Nat -> Int} {ls : List LoV} {init : List BlV} {is l : List InstV} {t : TermV} {m : Nat} {w0 W0 W1 W : World} (hl : l.length <= m) (hi : ∀ i, i ∈ l -> IOk 6 i) (k : KM W0 W1) (h : MG rb n0 L K' num ls init (is ++ l) t 2 w0 W1 W) : MG rb n0 L K' num ls init is t (m + 2) w0 W0 W := by
 obtain ⟨l2, h1, h2, h3, h4⟩ := h
 refine ⟨l ++ l2, by rw [List.length_append]; omega, fun i hx => ?_, by rw [<- List.append_assoc]; exact h3, k.trans h4⟩
 rcases List.mem_append.1 hx with hx | hx
 . exact hi i hx
 . exact h2 i hx
section
variable (rb n0 K : Nat) (num : Nat -> Int) (ls : List LoV) (init : List BlV) (w0 W : World) (A : Option Addr) (n c : Nat) (f : Nat -> Int) (gA cA : Nat)
theorem minsts_any (is : List InstV) (t : TermV) (h : MT rb n0 (.slice A n c, .slice (some ⟨gA, 0, none⟩) 5 cA) K num arM ls init (some (is, t)) w0 W) (hn : n <= 9223372036854775807) (hK : K + 50 <= 1000000) (hB : RBy w0 A n f) (hq : init.length <= 1000000) (hi : is.length + 20 <= 1000000) :
 Calls Tryz.prog 72 #[.pointer (some ⟨rb, 0, none⟩)] W fun e w' => (∃ v, e = .returned v) /\ MG rb n0 (.slice A n c, .slice (some ⟨gA, 0, none⟩) 5 cA) (K + 25) num ls init is t 8 w0 W w' := by
 have HN := lh (next_any rb n0 K num arM ls init (some (is, t)) w0 W A n c f (.slice (some ⟨gA, 0, none⟩) 5 cA) h hn (by omega) hB)
 have HI := lh (fun K' W' (is' : List InstV) (hk : K' + 10 <= 1000000) (hl : is'.length + 2 <= 1000000) (h : MT rb n0 (.slice A n c, .slice (some ⟨gA, 0, none⟩) 5 cA) K' num arM ls init (some (is', t)) w0 W') => minst_any rb n0 K' num ls init w0 W' A n c f gA cA is' t h hn hk hB hq hl)
 clear h hB hn hq
 go_enter Tryz.func72, Tryz.ntmps72
 go_wp2_with (first
  | (go_at_call 65; (with_reducible refine HN.out.mono ?_); rintro e W1 ⟨⟨y, rfl, y0, y1⟩, h1, k1⟩; have H1 := lh h1; have HK1 := lh k1; clear h1 k1))
 obtain ⟨z, hz⟩ : ∃ z : Nat, y % 5 = (z : Int) := ⟨(y % 5).toNat, by omega⟩
 have hz4 : z <= 4 := by omega
 rw [hz]
 clear hz y0 y1
 go_loopg [2] z (fun gk v wx => v = .int .i64 (gk : Int) /\ gk <= z /\ Hid (∃ l : List InstV, l.length <= 2 * (z - gk) /\ (∀ i, i ∈ l -> IOk 6 i) /\ MT rb n0 (.slice A n c, .slice (some ⟨gA, 0, none⟩) 5 cA) (K + 1 + 6 * (z - gk)) num arM ls init (some (is ++ l, t)) w0 wx /\ KM W wx))
 case atStart => exact ⟨rfl, Nat.le_refl _, lh ⟨[], by simp, fun i hi => (by cases hi), by simpa using H1.out, HK1.out⟩⟩
 case round =>
  obtain ⟨rfl, hgz, HL⟩ := hrel
  obtain ⟨l, hl1, hl2, hl3, hl4⟩ := HL.out
  have HL3 := lh hl3
  have HL4 := lh hl4
  have HL2 := lh hl2
  clear hl3 hl4 hl2 HL H1 HK1
  cases gk with
  | zero =>
   go_wp2
   go_end0
   exact ⟨⟨_, rfl⟩, l, by omega, HL2.out, HL3.out.le (by omega), HL4.out⟩
  | succ gh =>
   have hpos : (0 : Int) < (gh : Int) + 1 := by omega
   have hlen : (is ++ l).length + 2 <= 1000000 := by rw [List.length_append]; omega
   have HLN := lh hlen
   have hkk : K + 1 + 6 * (z - (gh + 1)) + 10 <= 1000000 := by omega
   have HKK := lh hkk
   clear hkk
   clear hlen
   rw [show ((gh + 1 : Nat) : Int) = (gh : Int) + 1 from rfl]
   go_wp2_with fail
   refine (HI.out _ _ _ HKK.out HLN.out HL3.out).mono ?_
   rintro e W2 ⟨⟨v, rfl⟩, hg⟩
   have HG := lh (MG.grow hl1 HL2.out HL4.out hg)
   clear hg
   go_wp2
   go_roundg gh
   case measure => omega
   case rel =>
    refine ⟨by go_num, by omega, lh ?_⟩
    obtain ⟨l2, h1, h2, h3, h4⟩ := HG.out
    exact ⟨l2, by omega, h2, h3.le (by omega), h4⟩
end
def SA (rb n0 : Nat) (L : Value × Value) (K : Nat) (gr sb : Int) (q n M m : Nat) (w0 W0 W : World) : Prop :=
 ∃ (ls : List LoV) (init : List BlV) (is : List InstV) (t : TermV), ls.length = q /\ init.length + 1 = n /\ MT rb n0 L K (nmM gr sb (6 + 2 * (q : Int))) arM ls init (some (is, t)) w0 W /\ KM W0 W /\ (∀ l, l ∈ ls -> LOk (6 + 2 * (q : Int)) M l) /\ (∀ e, e ∈ init -> BOk (6 + 2 * (q : Int)) M e) /\ is.length <= m /\ ∀ i, i ∈ is -> IOk 6 i
def SB (rb n0 : Nat) (L : Value × Value) (K : Nat) (gr sb : Int) (q n M : Nat) (w0 W0 W : World) : Prop :=
 ∃ (ls : List LoV) (init : List BlV) (last : Option BlV), ls.length = q /\ (init ++ last.toList).length = n /\ MT rb n0 L K (nmM gr sb (6 + 2 * (q : Int))) arM ls init last w0 W /\ KM W0 W /\ (∀ l, l ∈ ls -> LOk (6 + 2 * (q : Int)) M l) /\ ∀ e, e ∈ init ++ last.toList -> BOk (6 + 2 * (q : Int)) M e
section
variable {rb n0 K : Nat} {L : Value × Value} {gr sb : Int} {q n M m : Nat} {w0 W0 W W' : World}
theorem SA.on (h : SA rb n0 L K gr sb q n M m w0 W0 W) (hb : Below W.heap.size W W') : SA rb n0 L K gr sb q n M m w0 W0 W' := by
 obtain ⟨ls, init, is, t, h1, h2, h3, h4, h5, h6, h7, h8⟩ := h
 exact ⟨ls, init, is, t, h1, h2, h3.on hb, h4.trans (KM.of hb), h5, h6, h7, h8⟩
theorem SA.drew (h : SA rb n0 L K gr sb q n M m w0 W0 W) : SA rb n0 L K gr sb q n M m w0 W0 W.drew := h.on (below_drewN (Below.refl _ _) 1)
theorem SA.drewN (h : SA rb n0 L K gr sb q n M m w0 W0 W) (k : Nat) : SA rb n0 L K gr sb q n M m w0 W0 (W.drewN k) := h.on (below_drewN (Below.refl _ _) k)
theorem SB.on (h : SB rb n0 L K gr sb q n M w0 W0 W) (hb : Below W.heap.size W W') : SB rb n0 L K gr sb q n M w0 W0 W' := by
 obtain ⟨ls, init, last, h1, h2, h3, h4, h5, h6⟩ := h
 exact ⟨ls, init, last, h1, h2, h3.on hb, h4.trans (KM.of hb), h5, h6⟩
theorem SB.drewN (h : SB rb n0 L K gr sb q n M w0 W0 W) (k : Nat) : SB rb n0 L K gr sb q n M w0 W0 (W.drewN k) := h.on (below_drewN (Below.refl _ _) k)
theorem SA.le {K' M' m' : Nat} (h : SA rb n0 L K gr sb q n M m w0 W0 W) (hK : K <= K') (hM : M <= M') (hm : m <= m') : SA rb n0 L K' gr sb q n M' m' w0 W0 W := by
 obtain ⟨ls, init, is, t, h1, h2, h3, h4, h5, h6, h7, h8⟩ := h
 exact ⟨ls, init, is, t, h1, h2, h3.le hK, h4, fun l hl => (h5 l hl).mono (by omega) hM, fun e he => (h6 e he).mono (by omega) hM, by omega, h8⟩
theorem SB.le {K' M' : Nat} (h : SB rb n0 L K gr sb q n M w0 W0 W) (hK : K <= K') (hM : M <= M') : SB rb n0 L K' gr sb q n M' w0 W0 W := by
 obtain ⟨ls, init, last, h1, h2, h3, h4, h5, h6⟩ := h
 exact ⟨ls, init, last, h1, h2, h3.le hK, h4, fun l hl => (h5 l hl).mono (by omega) hM, fun e he => (h6 e he).mono (by omega) hM⟩
theorem SA.close {t' : TermV} (h : SA rb n0 L K gr sb q n M m w0 W0 W) (hm : m <= 9) {gB cap N : Nat} (h9 : W.cell? ⟨rb, 9, none⟩ = some (.slice (some ⟨gB, 0, none⟩) N cap)) (ht : TOk (6 + 2 * (q : Int)) M t') :
 SA rb n0 L K gr sb q n M m w0 W0 (putE W gB ((n - 1) * 14) t') /\ SB rb n0 L K gr sb q n M w0 W0 (putE W gB ((n - 1) * 14) t') := by
 obtain ⟨ls, init, is, t, h1, h2, h3, h4, h5, h6, h7, h8⟩ := h
 have hh := h3.term h9 t'
 rw [show n - 1 = init.length from by omega]
 refine ⟨⟨ls, init, is, t', h1, h2, hh.1, h4.trans hh.2, h5, h6, h7, h8⟩, ls, init, some (is, t'), h1, by simp; omega, hh.1, h4.trans hh.2, h5, fun e he => ?_⟩
 rcases List.mem_append.1 he with he | he
 . exact h6 e he
 . rw [show (some (is, t')).toList = [(is, t')] from rfl, List.mem_singleton] at he
   subst he
   exact ⟨by show is.length <= 9; omega, fun i hi => (h8 i hi).mono (by omega), ht⟩
theorem SA.exit {t' : TermV} (h : SA rb n0 L K gr sb q n n m w0 W0 W) (hm : m <= 9) {gB cap N : Nat} (h9 : W.cell? ⟨rb, 9, none⟩ = some (.slice (some ⟨gB, 0, none⟩) N cap)) (ht : TOk (6 + 2 * (q : Int)) n t') (hg : sizB gr sb 0 0 0 = true) (g8 : 1 <= gr /\ gr <= 8) (s8 : 1 <= sb /\ sb <= 8) (hq : q <= 3) (hn : n <= 18) :
 ∃ (c : CdV) (a : CdA), MdOk c /\ CdK c a (putE W gB ((n - 1) * 14) t') /\ (∀ j, j < 5 -> (putE W gB ((n - 1) * 14) t').cell? ⟨rb, 2 + j, none⟩ = some (.int .i64 (c.n j))) /\ (putE W gB ((n - 1) * 14) t').cell? ⟨rb, 7, none⟩ = some (.slice a.a1 c.q.length a.c1) /\ (putE W gB ((n - 1) * 14) t').cell? ⟨rb, 8, none⟩ = some (.slice a.a2 c.l.length a.c2) /\ (putE W gB ((n - 1) * 14) t').cell? ⟨rb, 9, none⟩ = some (.slice a.a3 c.b.length a.c3) /\ KM W0 (putE W gB ((n - 1) * 14) t') := by
 obtain ⟨ls, init, is, t, h1, h2, h3, h4, h5, h6, h7, h8⟩ := h
 have hh := h3.term h9 t'
 rw [show n - 1 = init.length from by omega]
 have hall : ∀ x, x ∈ init ++ [((is, t') : BlV)] -> BOk (6 + 2 * (q : Int)) n x := fun e he => by
  rcases List.mem_append.1 he with he | he
  . exact h6 e he
  . rw [List.mem_singleton] at he
    subst he
    exact ⟨by show is.length <= 9; omega, fun i hi => (h8 i hi).mono (by omega), ht⟩
 obtain ⟨a, c7, c8, c9, hk⟩ := hh.1.code (fun x hx => by have := (hall x hx).len; omega)
 have hl : (init ++ [((is, t') : BlV)]).length = n := by simp; omega
 refine ⟨⟨arM, ls, init ++ [(is, t')], nmM gr sb (6 + 2 * (q : Int))⟩, a, ⟨rfl, ⟨gr, sb, hg, g8, s8, by rw [<- h1]⟩, by show ls.length <= 3; omega, ?_, ?_, ?_⟩, hk, fun j hj => hh.1.num j hj, c7, c8, ?_, h4.trans hh.2⟩
 . show 1 <= (init ++ [((is, t') : BlV)]).length /\ (init ++ [((is, t') : BlV)]).length <= 18
   omega
 . show ∀ l, l ∈ ls -> LOk (6 + 2 * (ls.length : Int)) (init ++ [((is, t') : BlV)]).length l
   rw [hl, h1]
   exact h5
 . show ∀ x, x ∈ init ++ [((is, t') : BlV)] -> BOk (6 + 2 * (ls.length : Int)) (init ++ [((is, t') : BlV)]).length x
   rw [hl, h1]
   exact hall
 . rw [c9]
   simp
theorem SA.c9 (h : SA rb n0 L K gr sb q n M m w0 W0 W) : ∃ gB cap, W.cell? ⟨rb, 9, none⟩ = some (.slice (some ⟨gB, 0, none⟩) n cap) /\ ∀ o, W.frozen? ⟨gB, o, none⟩ = false := by
 obtain ⟨ls, init, is, t, h1, h2, h3, h4, h5, h6, h7, h8⟩ := h
 rw [<- h2]
 exact h3.c9
theorem MT.endc {Kn : Nat} {nm : Nat -> Int} {qs : List ArV} {ls : List LoV} {init : List BlV} {e : BlV} (h : MT rb n0 L Kn nm qs ls init (some e) w0 W) {gB cap N : Nat} (h9 : W.cell? ⟨rb, 9, none⟩ = some (.slice (some ⟨gB, 0, none⟩) N cap)) (j : Nat) (hj : j < 14) : ∃ u, W.cell? ⟨gB, init.length * 14 + j, none⟩ = some u := by
 obtain ⟨n1, g, I, La, h1, rfl, hL, _⟩ := h
 cases La with
 | none => cases hL
 | some e' =>
  obtain ⟨gB', cap', hg9, _⟩ := h1.last
  have hb := h1.blocks
  have e9 := h1.row.cell (i := 9) (by decide)
  rw [h9, hg9] at e9
  simp only [Option.some.injEq, Value.slice.injEq, Addr.mk.injEq] at e9
  obtain ⟨⟨rfl, _⟩, rfl, rfl⟩ := e9
  have hlen : (I ++ (some e').toList).length = I.length + 1 := by simp
  rw [hlen, hg9] at hb
  have hc := hb.cellAt (I.length * 14 + j) (by omega)
  have hl : I.length * 14 + j < (flatB (I ++ (some e').toList)).length := by rw [flatB_len, hlen]; omega
  rw [List.getElem?_eq_getElem hl] at hc
  rw [List.length_map]
  exact ⟨_, hc⟩
theorem SA.endc (h : SA rb n0 L K gr sb q n M m w0 W0 W) {gB cap N : Nat} (h9 : W.cell? ⟨rb, 9, none⟩ = some (.slice (some ⟨gB, 0, none⟩) N cap)) (j : Nat) (hj : j < 14) : ∃ u, W.cell? ⟨gB, (n - 1) * 14 + j, none⟩ = some u := by
 obtain ⟨ls, init, is, t, h1, h2, h3, h4, h5, h6, h7, h8⟩ := h
 rw [show n - 1 = init.length from by omega]
 exact h3.endc h9 j hj
end
section
variable (rb n0 K : Nat) (gr sb : Int) (q nb M m : Nat) (w0 W0 W : World) (A : Option Addr) (n c : Nat) (f : Nat -> Int) (gA cA : Nat)
theorem block_s (L : Value × Value) (h : SB rb n0 L K gr sb q nb M w0 W0 W) (hN : nb <= 100000) :
 Calls Tryz.prog 69 #[.pointer (some ⟨rb, 0, none⟩)] W fun e w' => (∃ v, e = .returned v) /\ SA rb n0 L K gr sb q (nb + 1) M 0 w0 W0 w' := by
 obtain ⟨ls, init, last, h1, h2, h3, h4, h5, h6⟩ := h
 refine (mblock_any rb n0 K _ arM ls init last w0 W L h3 (by omega)).mono ?_
 rintro e w' ⟨hv, k1, k2⟩
 exact ⟨hv, ls, init ++ last.toList, [], zeroT, h1, by rw [h2], k1, h4.trans k2, h5, h6, Nat.le_refl _, fun i hi => by cases hi⟩
theorem insts_s (h : SA rb n0 (.slice A n c, .slice (some ⟨gA, 0, none⟩) 5 cA) K gr sb q nb M m w0 W0 W) (hn : n <= 9223372036854775807) (hK : K + 50 <= 1000000) (hB : RBy w0 A n f) (hN : nb <= 100000) (hm : m <= 100) :
 Calls Tryz.prog 72 #[.pointer (some ⟨rb, 0, none⟩)] W fun e w' => (∃ v, e = .returned v) /\ SA rb n0 (.slice A n c, .slice (some ⟨gA, 0, none⟩) 5 cA) (K + 25) gr sb q nb M (m + 8) w0 W0 w' := by
 obtain ⟨ls, init, is, t, h1, h2, h3, h4, h5, h6, h7, h8⟩ := h
 refine (minsts_any rb n0 K _ ls init w0 W A n c f gA cA is t h3 hn hK hB (by omega) (by omega)).mono ?_
 rintro e w' ⟨hv, l, k1, k2, k3, k4⟩
 refine ⟨hv, ls, init, is ++ l, t, h1, h2, k3, h4.trans k4, h5, h6, by rw [List.length_append]; omega, fun i hi => ?_⟩
 rcases List.mem_append.1 hi with hi | hi
 . exact h8 i hi
 . exact k2 i hi
theorem nextA (h : SA rb n0 (.slice A n c, .slice (some ⟨gA, 0, none⟩) 5 cA) K gr sb q nb M m w0 W0 W) (hn : n <= 9223372036854775807) (hK : K <= 1000000) (hB : RBy w0 A n f) :
 Calls Tryz.prog 65 #[.pointer (some ⟨rb, 0, none⟩)] W fun e w' => (∃ x : Int, e = .returned (.int .i64 x) /\ 0 <= x /\ x <= 255) /\ SA rb n0 (.slice A n c, .slice (some ⟨gA, 0, none⟩) 5 cA) (K + 1) gr sb q nb M m w0 W0 w' /\ K9 rb W w' := by
 obtain ⟨ls, init, is, t, h1, h2, h3, h4, h5, h6, h7, h8⟩ := h
 refine (next_k rb n0 K _ arM ls init _ w0 W A n c f _ h3 hn hK hB).mono ?_
 rintro e w' ⟨hv, k1, k2, k3⟩
 exact ⟨hv, ⟨ls, init, is, t, h1, h2, k1, h4.trans k2, h5, h6, h7, h8⟩, k3⟩
theorem regA (h : SA rb n0 (.slice A n c, .slice (some ⟨gA, 0, none⟩) 5 cA) K gr sb q nb M m w0 W0 W) (hn : n <= 9223372036854775807) (hK : K <= 1000000) (hB : RBy w0 A n f) :
 Calls Tryz.prog 70 #[.pointer (some ⟨rb, 0, none⟩)] W fun e w' => (∃ x : Int, e = .returned (.agg #[(2:Int), x, .int .i32 0]) /\ 0 <= x /\ x <= 5) /\ SA rb n0 (.slice A n c, .slice (some ⟨gA, 0, none⟩) 5 cA) (K + 1) gr sb q nb M m w0 W0 w' /\ K9 rb W w' := by
 obtain ⟨ls, init, is, t, h1, h2, h3, h4, h5, h6, h7, h8⟩ := h
 refine (reg_k rb n0 K _ arM ls init _ w0 W A n c f _ h3 hn hK hB).mono ?_
 rintro e w' ⟨hv, k1, k2, k3⟩
 exact ⟨hv, ⟨ls, init, is, t, h1, h2, k1, h4.trans k2, h5, h6, h7, h8⟩, k3⟩
theorem valA (h : SA rb n0 (.slice A n c, .slice (some ⟨gA, 0, none⟩) 5 cA) K gr sb q nb M m w0 W0 W) (hn : n <= 9223372036854775807) (hK : K <= 1000000) (hB : RBy w0 A n f) :
 Calls Tryz.prog 71 #[.pointer (some ⟨rb, 0, none⟩)] W fun e w' => (∃ o : OpdV, e = .returned (.agg #[o.k, o.n, .int .i32 o.v]) /\ VOk o) /\ SA rb n0 (.slice A n c, .slice (some ⟨gA, 0, none⟩) 5 cA) (K + 1) gr sb q nb M m w0 W0 w' /\ K9 rb W w' := by
 obtain ⟨ls, init, is, t, h1, h2, h3, h4, h5, h6, h7, h8⟩ := h
 refine (val_k rb n0 K _ arM ls init _ w0 W A n c f _ h3 hn hK hB).mono ?_
 rintro e w' ⟨hv, k1, k2, k3⟩
 exact ⟨hv, ⟨ls, init, is, t, h1, h2, k1, h4.trans k2, h5, h6, h7, h8⟩, k3⟩
theorem nextB (h : SB rb n0 (.slice A n c, .slice (some ⟨gA, 0, none⟩) 5 cA) K gr sb q nb M w0 W0 W) (hn : n <= 9223372036854775807) (hK : K <= 1000000) (hB : RBy w0 A n f) :
 Calls Tryz.prog 65 #[.pointer (some ⟨rb, 0, none⟩)] W fun e w' => (∃ x : Int, e = .returned (.int .i64 x) /\ 0 <= x /\ x <= 255) /\ SB rb n0 (.slice A n c, .slice (some ⟨gA, 0, none⟩) 5 cA) (K + 1) gr sb q nb M w0 W0 w' := by
 obtain ⟨ls, init, last, h1, h2, h3, h4, h5, h6⟩ := h
 refine (next_any rb n0 K _ arM ls init _ w0 W A n c f _ h3 hn hK hB).mono ?_
 rintro e w' ⟨hv, k1, k2⟩
 exact ⟨hv, ls, init, last, h1, h2, k1, h4.trans k2, h5, h6⟩
end
theorem MT.ends {rb n0 K N : Nat} {L : Value × Value} {nm : Nat -> Int} {qs : List ArV} {ls : List LoV} {init : List BlV} {e : BlV} {w0 W : World} (h : MT rb n0 L K nm qs ls init (some e) w0 W) (hN : init.length = N) {gB cap l : Nat} (h9 : W.cell? ⟨rb, 9, none⟩ = some (.slice (some ⟨gB, 0, none⟩) l cap)) :
 (∃ u, W.cell? ⟨gB, N * 14 + 1, none⟩ = some u) /\ (∃ u, W.cell? ⟨gB, N * 14 + 1 + 1, none⟩ = some u) /\ (∃ u, W.cell? ⟨gB, N * 14 + 1 + 2, none⟩ = some u) /\ (∃ u, W.cell? ⟨gB, N * 14 + 1 + 3, none⟩ = some u) /\ (∃ u, W.cell? ⟨gB, N * 14 + 1 + 4, none⟩ = some u) /\ (∃ u, W.cell? ⟨gB, N * 14 + 1 + 5, none⟩ = some u) /\ (∃ u, W.cell? ⟨gB, N * 14 + 1 + 6, none⟩ = some u) /\ (∃ u, W.cell? ⟨gB, N * 14 + 1 + 7, none⟩ = some u) /\ (∃ u, W.cell? ⟨gB, N * 14 + 1 + 8, none⟩ = some u) /\ (∃ u, W.cell? ⟨gB, N * 14 + 1 + 9, none⟩ = some u) /\ (∃ u, W.cell? ⟨gB, N * 14 + 1 + 10, none⟩ = some u) /\ (∃ u, W.cell? ⟨gB, N * 14 + 1 + 11, none⟩ = some u) /\ (∃ u, W.cell? ⟨gB, N * 14 + 1 + 12, none⟩ = some u) := by
 subst hN
 exact ⟨h.endc h9 1 (by decide), h.endc h9 2 (by decide), h.endc h9 3 (by decide), h.endc h9 4 (by decide), h.endc h9 5 (by decide), h.endc h9 6 (by decide), h.endc h9 7 (by decide), h.endc h9 8 (by decide), h.endc h9 9 (by decide), h.endc h9 10 (by decide), h.endc h9 11 (by decide), h.endc h9 12 (by decide), h.endc h9 13 (by decide)⟩
theorem MT.c9n {rb n0 K N : Nat} {L : Value × Value} {nm : Nat -> Int} {qs : List ArV} {ls : List LoV} {init : List BlV} {e : BlV} {w0 W : World} (h : MT rb n0 L K nm qs ls init (some e) w0 W) (hN : init.length = N) : ∃ gB cap, W.cell? ⟨rb, 9, none⟩ = some (.slice (some ⟨gB, 0, none⟩) (N + 1) cap) /\ ∀ o, W.frozen? ⟨gB, o, none⟩ = false := by
 subst hN
 exact h.c9
theorem MT.termN {rb n0 K N : Nat} {L : Value × Value} {nm : Nat -> Int} {qs : List ArV} {ls : List LoV} {init : List BlV} {is : List InstV} {t : TermV} {w0 W : World} (h : MT rb n0 L K nm qs ls init (some (is, t)) w0 W) (hN : init.length = N) {gB cap l : Nat} (h9 : W.cell? ⟨rb, 9, none⟩ = some (.slice (some ⟨gB, 0, none⟩) l cap)) (t' : TermV) : MT rb n0 L K nm qs ls init (some (is, t')) w0 (putE W gB (N * 14) t') /\ KM W (putE W gB (N * 14) t') := by
 subst hN
 exact h.term h9 t'
theorem SA.ends {rb n0 K : Nat} {L : Value × Value} {gr sb : Int} {q n M m : Nat} {w0 W0 W : World} (h : SA rb n0 L K gr sb q (n + 1) M m w0 W0 W) {gB cap N : Nat} (h9 : W.cell? ⟨rb, 9, none⟩ = some (.slice (some ⟨gB, 0, none⟩) N cap)) :
 (∃ u, W.cell? ⟨gB, n * 14 + 1, none⟩ = some u) /\ (∃ u, W.cell? ⟨gB, n * 14 + 1 + 1, none⟩ = some u) /\ (∃ u, W.cell? ⟨gB, n * 14 + 1 + 2, none⟩ = some u) /\ (∃ u, W.cell? ⟨gB, n * 14 + 1 + 3, none⟩ = some u) /\ (∃ u, W.cell? ⟨gB, n * 14 + 1 + 4, none⟩ = some u) /\ (∃ u, W.cell? ⟨gB, n * 14 + 1 + 5, none⟩ = some u) /\ (∃ u, W.cell? ⟨gB, n * 14 + 1 + 6, none⟩ = some u) /\ (∃ u, W.cell? ⟨gB, n * 14 + 1 + 7, none⟩ = some u) /\ (∃ u, W.cell? ⟨gB, n * 14 + 1 + 8, none⟩ = some u) /\ (∃ u, W.cell? ⟨gB, n * 14 + 1 + 9, none⟩ = some u) /\ (∃ u, W.cell? ⟨gB, n * 14 + 1 + 10, none⟩ = some u) /\ (∃ u, W.cell? ⟨gB, n * 14 + 1 + 11, none⟩ = some u) /\ (∃ u, W.cell? ⟨gB, n * 14 + 1 + 12, none⟩ = some u) :=
 ⟨h.endc h9 1 (by decide), h.endc h9 2 (by decide), h.endc h9 3 (by decide), h.endc h9 4 (by decide), h.endc h9 5 (by decide), h.endc h9 6 (by decide), h.endc h9 7 (by decide), h.endc h9 8 (by decide), h.endc h9 9 (by decide), h.endc h9 10 (by decide), h.endc h9 11 (by decide), h.endc h9 12 (by decide), h.endc h9 13 (by decide)⟩
def SC (rb n0 : Nat) (L : Value × Value) (K : Nat) (gr sb : Int) (q n M m : Nat) (w0 W0 W : World) : Prop :=
 ∃ (ls : List LoV) (init : List BlV) (is : List InstV) (t : TermV), ls.length = q /\ init.length + 1 = n /\ MT rb n0 L K (nmM gr sb (6 + 2 * (q : Int))) arM ls init (some (is, t)) w0 W /\ KM W0 W /\ (∀ l, l ∈ ls -> LOk (6 + 2 * (q : Int)) M l) /\ (∀ e, e ∈ init -> BOk (6 + 2 * (q : Int)) M e) /\ is.length <= m /\ (∀ i, i ∈ is -> IOk 6 i) /\ TOk (6 + 2 * (q : Int)) M t
section
variable {rb n0 K : Nat} {L : Value × Value} {gr sb : Int} {q n M m : Nat} {w0 W0 W W' : World}
theorem SC.opn (h : SC rb n0 L K gr sb q n M m w0 W0 W) : SA rb n0 L K gr sb q n M m w0 W0 W := by
 obtain ⟨ls, init, is, t, h1, h2, h3, h4, h5, h6, h7, h8, h9⟩ := h
 exact ⟨ls, init, is, t, h1, h2, h3, h4, h5, h6, h7, h8⟩
theorem SC.shut (h : SC rb n0 L K gr sb q n M m w0 W0 W) (hm : m <= 9) : SB rb n0 L K gr sb q n M w0 W0 W := by
 obtain ⟨ls, init, is, t, h1, h2, h3, h4, h5, h6, h7, h8, h9⟩ := h
 refine ⟨ls, init, some (is, t), h1, by simp; omega, h3, h4, h5, fun e he => ?_⟩
 rcases List.mem_append.1 he with he | he
 . exact h6 e he
 . rw [show (some (is, t)).toList = [(is, t)] from rfl, List.mem_singleton] at he
   subst he
   exact ⟨by show is.length <= 9; omega, fun i hi => (h8 i hi).mono (by omega), h9⟩
theorem SC.le {K' : Nat} (h : SC rb n0 L K gr sb q n M m w0 W0 W) (hK : K <= K') : SC rb n0 L K' gr sb q n M m w0 W0 W := by
 obtain ⟨ls, init, is, t, h1, h2, h3, h4, h5, h6, h7, h8, h9⟩ := h
 exact ⟨ls, init, is, t, h1, h2, h3.le hK, h4, h5, h6, h7, h8, h9⟩
theorem SA.closeC {t' : TermV} (h : SA rb n0 L K gr sb q (n + 1) M m w0 W0 W) {gB cap N : Nat} (h9 : W.cell? ⟨rb, 9, none⟩ = some (.slice (some ⟨gB, 0, none⟩) N cap)) (ht : TOk (6 + 2 * (q : Int)) M t') :
 SC rb n0 L K gr sb q (n + 1) M m w0 W0 (putE W gB (n * 14) t') := by
 obtain ⟨ls, init, is, t, h1, h2, h3, h4, h5, h6, h7, h8⟩ := h
 have hh := h3.termN (N := n) (by omega) h9 t'
 exact ⟨ls, init, is, t', h1, h2, hh.1, h4.trans hh.2, h5, h6, h7, h8, ht⟩
theorem SA.c9f (h : SA rb n0 L K gr sb q n M m w0 W0 W) {gB cap N : Nat} (h9 : W.cell? ⟨rb, 9, none⟩ = some (.slice (some ⟨gB, 0, none⟩) N cap)) : ∀ o, W.frozen? ⟨gB, o, none⟩ = false := by
 obtain ⟨ls, init, is, t, h1, h2, h3, h4, h5, h6, h7, h8⟩ := h
 exact h3.c9f h9
theorem SA.lt (h : SA rb n0 L K gr sb q n M m w0 W0 W) : rb < W.heap.size := by
 obtain ⟨ls, init, is, t, h1, h2, h3, h4, h5, h6, h7, h8⟩ := h
 obtain ⟨n1, g, I, La, hx, _⟩ := h3
 exact hx.row.lt
end
theorem nextC (rb n0 K : Nat) (gr sb : Int) (q nb M m : Nat) (w0 W0 W : World) (A : Option Addr) (n c : Nat) (f : Nat -> Int) (gA cA : Nat) (h : SC rb n0 (.slice A n c, .slice (some ⟨gA, 0, none⟩) 5 cA) K gr sb q nb M m w0 W0 W) (hn : n <= 9223372036854775807) (hK : K <= 1000000) (hB : RBy w0 A n f) :
 Calls Tryz.prog 65 #[.pointer (some ⟨rb, 0, none⟩)] W fun e w' => (∃ x : Int, e = .returned (.int .i64 x) /\ 0 <= x /\ x <= 255) /\ SC rb n0 (.slice A n c, .slice (some ⟨gA, 0, none⟩) 5 cA) (K + 1) gr sb q nb M m w0 W0 w' := by
 obtain ⟨ls, init, is, t, h1, h2, h3, h4, h5, h6, h7, h8, h9⟩ := h
 refine (next_k rb n0 K _ arM ls init _ w0 W A n c f _ h3 hn hK hB).mono ?_
 rintro e w' ⟨hv, k1, k2, k3⟩
 exact ⟨hv, ls, init, is, t, h1, h2, k1, h4.trans k2, h5, h6, h7, h8, h9⟩
end Go.Proofs.YtkncilgmlkeifaaGreatDoor
