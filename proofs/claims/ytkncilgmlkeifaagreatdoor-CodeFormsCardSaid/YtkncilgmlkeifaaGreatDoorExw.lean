import Derived.Test.YtkncilgmlkeifaaGreatDoorCpy
import Derived.Test.YtkncilgmlkeifaaGreatDoorGrd
import Derived.Test.YtkncilgmlkeifaaGreatDoorRfa
import Derived.Test.YtkncilgmlkeifaaGreatDoorMkx
import Derived.Test.YtkncilgmlkeifaaGreatDoorExs
import Derived.Test.YtkncilgmlkeifaaGreatDoorPrw
import Derived.Deep.RegionLaw
import Derived.Deep.RegionHeld3
import Derived.Deep.LoopGhost
import Derived.Deep.CutRange
/-
  A code in its box and its rows, and how they grow.
-/
set_option linter.unusedVariables false
set_option linter.unusedSimpArgs false
namespace Go.Proofs.YtkncilgmlkeifaaGreatDoor
open Go.ChangeShapes Go.WideShapes Go.ChangeAt Go.RowKit Go.Shelf

/-- The code in its box, its rows from block n0 on. -/
structure LX (w : World) (b n0 : Nat) (g s r sl p : Int) (v5 v6 v7 : Value) (qs : List ArV) (ls : List LoV) (es : List BlE) (W : World) : Prop where
  box : W.heap[b]? = some (.cells #[.int .i64 g, .int .i64 s, .int .i64 r, .int .i64 sl, .int .i64 p, v5, v6, v7] 36 (0, 0))
  rows : RC n0 v5 v6 v7 qs ls es W
  below : Below w.heap.size w W
  hn : w.heap.size ≤ n0 ∧ w.heap.size ≤ b ∧ n0 ≤ W.heap.size
section
variable {w W W' : World} {b n0 : Nat} {g s r sl p : Int} {v5 v6 v7 : Value} {qs : List ArV} {ls : List LoV} {es : List BlE}
theorem LX.k (h : LX w b n0 g s r sl p v5 v6 v7 qs ls es W) (o : Nat) : W.cell? ⟨b, o, none⟩ = (#[.int .i64 g, .int .i64 s, .int .i64 r, .int .i64 sl, .int .i64 p, v5, v6, v7] : Array Value)[o]? := by simp [World.cell?, h.box]
theorem LX.fr (h : LX w b n0 g s r sl p v5 v6 v7 qs ls es W) (o : Nat) : W.frozen? ⟨b, o, none⟩ = false := by simp [World.frozen?, h.box]
theorem LX.c0 (h : LX w b n0 g s r sl p v5 v6 v7 qs ls es W) : W.cell? ⟨b, 0, none⟩ = some (.int .i64 g) := h.k 0
theorem LX.c1 (h : LX w b n0 g s r sl p v5 v6 v7 qs ls es W) : W.cell? ⟨b, 1, none⟩ = some (.int .i64 s) := h.k 1
theorem LX.c2 (h : LX w b n0 g s r sl p v5 v6 v7 qs ls es W) : W.cell? ⟨b, 2, none⟩ = some (.int .i64 r) := h.k 2
theorem LX.c3 (h : LX w b n0 g s r sl p v5 v6 v7 qs ls es W) : W.cell? ⟨b, 3, none⟩ = some (.int .i64 sl) := h.k 3
theorem LX.c4 (h : LX w b n0 g s r sl p v5 v6 v7 qs ls es W) : W.cell? ⟨b, 4, none⟩ = some (.int .i64 p) := h.k 4
theorem LX.c5 (h : LX w b n0 g s r sl p v5 v6 v7 qs ls es W) : W.cell? ⟨b, 5, none⟩ = some v5 := h.k 5
theorem LX.c6 (h : LX w b n0 g s r sl p v5 v6 v7 qs ls es W) : W.cell? ⟨b, 6, none⟩ = some v6 := h.k 6
theorem LX.c7 (h : LX w b n0 g s r sl p v5 v6 v7 qs ls es W) : W.cell? ⟨b, 7, none⟩ = some v7 := h.k 7
theorem LX.on (h : LX w b n0 g s r sl p v5 v6 v7 qs ls es W) (hb : Below W.heap.size W W') : LX w b n0 g s r sl p v5 v6 v7 qs ls es W' :=
  ⟨(hb.block b (Array.getElem?_eq_some_iff.1 h.box).1).trans h.box, h.rows.k36 (K36.below hb), h.below.trans (hb.mono h.below.size), h.hn.1, h.hn.2.1, Nat.le_trans h.hn.2.2 hb.size⟩
theorem LX.alloc (h : LX w b n0 g s r sl p v5 v6 v7 qs ls es W) (o : Obj) : LX w b n0 g s r sl p v5 v6 v7 qs ls es (W.alloc o) := h.on ((Below.refl _ _).alloc (Nat.le_refl _) _)
theorem LX.drew (h : LX w b n0 g s r sl p v5 v6 v7 qs ls es W) : LX w b n0 g s r sl p v5 v6 v7 qs ls es W.drew := h.on ⟨rfl, rfl, rfl, Nat.le_refl _, fun _ _ => rfl⟩
theorem LX.set0 (h : LX w b n0 g s r sl p v5 v6 v7 qs ls es W) (x : Int) : LX w b n0 x s r sl p v5 v6 v7 qs ls es (W.setCell ⟨b, 0, none⟩ (.int .i64 x)) :=
  ⟨by simp [World.setCell, Array.getElem?_modify, h.box], h.rows.k36 (K36.set h.box _ _), h.below.setCell h.hn.2.1 _, h.hn.1, h.hn.2.1, by simpa [World.setCell] using h.hn.2.2⟩
theorem LX.set2 (h : LX w b n0 g s r sl p v5 v6 v7 qs ls es W) (x : Int) : LX w b n0 g s x sl p v5 v6 v7 qs ls es (W.setCell ⟨b, 2, none⟩ (.int .i64 x)) :=
  ⟨by simp [World.setCell, Array.getElem?_modify, h.box], h.rows.k36 (K36.set h.box _ _), h.below.setCell h.hn.2.1 _, h.hn.1, h.hn.2.1, by simpa [World.setCell] using h.hn.2.2⟩
theorem LX.set3 (h : LX w b n0 g s r sl p v5 v6 v7 qs ls es W) (x : Int) : LX w b n0 g s r x p v5 v6 v7 qs ls es (W.setCell ⟨b, 3, none⟩ (.int .i64 x)) :=
  ⟨by simp [World.setCell, Array.getElem?_modify, h.box], h.rows.k36 (K36.set h.box _ _), h.below.setCell h.hn.2.1 _, h.hn.1, h.hn.2.1, by simpa [World.setCell] using h.hn.2.2⟩
theorem LX.set4 (h : LX w b n0 g s r sl p v5 v6 v7 qs ls es W) (x : Int) : LX w b n0 g s r sl x v5 v6 v7 qs ls es (W.setCell ⟨b, 4, none⟩ (.int .i64 x)) :=
  ⟨by simp [World.setCell, Array.getElem?_modify, h.box], h.rows.k36 (K36.set h.box _ _), h.below.setCell h.hn.2.1 _, h.hn.1, h.hn.2.1, by simpa [World.setCell] using h.hn.2.2⟩
/-- Behind an append to a row of the code: the box is as it was. -/
theorem LX.boxg (h : LX w b n0 g s r sl p v5 v6 v7 qs ls es W) {e size n : Nat} {v : Value} {xs : List Value} (hr : W.ownsRow n0 e size v n xs) (hg : W.grownBy W' v.ownBlock) (he : 36 ≠ e) :
    W'.heap[b]? = some (.cells #[.int .i64 g, .int .i64 s, .int .i64 r, .int .i64 sl, .int .i64 p, v5, v6, v7] 36 (0, 0)) ∧ Below w.heap.size w W' ∧ n0 ≤ W'.heap.size :=
  ⟨(grow_kept hr hg _ _ _ _ h.box he).trans h.box, grow_below h.below hr hg h.hn.1 (Nat.le_refl _), Nat.le_trans h.hn.2.2 hg.size⟩
theorem LX.fr' (h : W'.heap[b]? = some (.cells #[.int .i64 g, .int .i64 s, .int .i64 r, .int .i64 sl, .int .i64 p, v5, v6, v7] 36 (0, 0))) (o : Nat) : W'.frozen? ⟨b, o, none⟩ = false := by simp [World.frozen?, h]
theorem LX.ck' (h : W'.heap[b]? = some (.cells #[.int .i64 g, .int .i64 s, .int .i64 r, .int .i64 sl, .int .i64 p, v5, v6, v7] 36 (0, 0))) : W'.cell? ⟨b, 5, none⟩ = some v5 ∧ W'.cell? ⟨b, 7, none⟩ = some v7 := by simp [World.cell?, h]
/-- A new block behind the others. -/
theorem LX.push7 (h : LX w b n0 g s r sl p v5 v6 v7 qs ls es W) {v : Value} {x : BlE} (hx : x.1 = .slice none 0 0 ∧ x.2.1 = []) (hr : W'.ownsRow n0 55 14 v (es.length + 1) (flatB es ++ blC x)) (hg : W.grownBy W' v7.ownBlock) :
    LX w b n0 g s r sl p v5 v6 v qs ls (es ++ [x]) (W'.setCell ⟨b, 7, none⟩ v) := by
  obtain ⟨hb, hbw, hs⟩ := h.boxg h.rows.blocks hg (by decide)
  have kg := grow_kept h.rows.blocks hg
  have ks := K36.set hb 7 v
  refine ⟨by simp [World.setCell, Array.getElem?_modify, hb], ⟨row_kept (row_kept h.rows.arr kg (by decide)) ks.1 (by decide), row_kept (row_kept h.rows.loops kg (by decide)) ks.1 (by decide), ?_, fun e he => ?_⟩, hbw.setCell h.hn.2.1 v, h.hn.1, h.hn.2.1, by simpa [World.setCell] using hs⟩
  · rw [List.length_append, flatB_snoc]
    exact row_kept hr ks.1 (by decide)
  · rcases List.mem_append.1 he with he | he
    · exact row_kept (row_kept (h.rows.insts e he) kg (by decide)) ks.1 (by decide)
    · rw [List.mem_singleton] at he
      subst he
      rw [hx.1, hx.2]
      exact World.ownsRow_nil _ _ _ _
end
end Go.Proofs.YtkncilgmlkeifaaGreatDoor
/-
  CodeExtends: two equal lists of truth values are told to be equal.
-/
set_option linter.unusedVariables false
set_option linter.unusedSimpArgs false
namespace Go.Proofs.YtkncilgmlkeifaaGreatDoor
open Go.ChangeShapes Go.WideShapes Go.ChangeAt Go.RowKit Go.Shelf

set_option maxRecDepth 100000 in
set_option maxHeartbeats 2000000 in
theorem bools_same (b1 b2 n1 n2 n c d : Nat) (R : Nat → Bool) (w : World) (h1 : w.rowIs b1 4 n1 (fun j => .bool (R j))) (h2 : w.rowIs b2 4 n2 (fun j => .bool (R j))) (hn1 : n ≤ n1) (hn2 : n ≤ n2) (hn : n ≤ 65536) :
    Calls Tryz.prog 18 #[.slice (some ⟨b1, 0, none⟩) n c, .slice (some ⟨b2, 0, none⟩) n d] w fun e w' => e = .returned (.bool true) ∧ Below w.heap.size w w' := by
  have HA := Lib.hid h1
  have HB := Lib.hid h2
  clear h1 h2
  go_enter Tryz.func18, Tryz.ntmps18
  go_wp2
  go_loopw [5] (fun i wr => ∃ k : Nat, k ≤ n ∧ i = .int .i64 k ∧ Hid (Below w.heap.size w wr)) (fun i _ => n - (intOf i).toNat)
  case atStart => exact ⟨0, Nat.zero_le _, rfl, Lib.hid (Below.refl _ _)⟩
  case round =>
    obtain ⟨k, hk, rfl, HBe⟩ := hrel
    by_cases hlt : k < n
    · have m1 : wr.cell? ⟨b1, k, none⟩ = some (.bool (R k)) := (HA.out.of_block (HBe.out.block b1 HA.out.lt)).cell (by omega)
      have m2 : wr.cell? ⟨b2, k, none⟩ = some (.bool (R k)) := (HB.out.of_block (HBe.out.block b2 HB.out.lt)).cell (by omega)
      obtain ⟨r, hr⟩ : ∃ r, R k = r := ⟨_, rfl⟩
      rw [hr] at m1 m2
      clear hr
      have hne : (r != r) = false := by cases r <;> rfl
      go_wp2
      go_quiet (fail)
      go_wp2
      go_roundw
      case rel => exact ⟨k + 1, by omega, by go_num, Lib.hid (below_drewN HBe.out _)⟩
      case measure => simp [intOf]; omega
    · go_wp2
      go_ret
      exact ⟨rfl, HBe.out⟩
end Go.Proofs.YtkncilgmlkeifaaGreatDoor
/-
  CodeExtends: the law's walk.
-/
set_option linter.unusedVariables false
set_option linter.unusedSimpArgs false
namespace Go.Proofs.YtkncilgmlkeifaaGreatDoor
open Go.ChangeShapes Go.WideShapes Go.ChangeAt Go.RowKit Go.Shelf

/-- The boxes of the law's arguments. -/
def XB (b : Nat) (A : Option Addr) (nx cx : Nat) (n0 n1 n2 : Int) (W : World) : Prop := W.heap[b]? = some (.cells #[.slice A nx cx] 24 (0, 0)) ∧ W.heap[b + 1]? = some (.cells #[.int .u8 n0, .int .u8 n1, .int .u8 n2] 93 (0, 0))
section
variable {b : Nat} {A : Option Addr} {nx cx : Nat} {n0 n1 n2 : Int} {W W' : World}
theorem XB.on (h : XB b A nx cx n0 n1 n2 W) (hb : Below W.heap.size W W') : XB b A nx cx n0 n1 n2 W' :=
  ⟨(hb.block b (Array.getElem?_eq_some_iff.1 h.1).1).trans h.1, (hb.block (b + 1) (Array.getElem?_eq_some_iff.1 h.2).1).trans h.2⟩
theorem XB.cells (h : XB b A nx cx n0 n1 n2 W) : W.cell? ⟨b, 0, none⟩ = some (.slice A nx cx) ∧ W.cell? ⟨b + 1, 0, none⟩ = some (.int .u8 n0) ∧ W.cell? ⟨b + 1, 1, none⟩ = some (.int .u8 n1) ∧ W.cell? ⟨b + 1, 2, none⟩ = some (.int .u8 n2) :=
  ⟨cell_blk h.1 (i := 0) rfl, cell_blk h.2 (i := 0) rfl, cell_blk h.2 (i := 1) rfl, cell_blk h.2 (i := 2) rfl⟩
end
/-- What the maker's contract says. -/
def MadeP (c : CdV) (a : CdA) (w : World) : Prop := MdOk c ∧ CdK c a w
theorem arM_names : ∀ a, a ∈ arM → a.1.size ≤ 9223372036854775807 := by
  intro a ha
  simp only [arM, List.mem_cons, List.not_mem_nil, or_false] at ha
  rcases ha with rfl | rfl | rfl | rfl | rfl <;> decide
/-- The checker and the reach of the longer code. -/
theorem ext_calls {c : CdV} {W3 W : World} {b9 n9 l5 p5 l6 p6 l7 p7 k : Nat} {n0 n1 m2 x0 z : Int} {A5 A6 A7 : Option Addr} {es' : List BlE} (hl : LX W3 b9 n9 (c.n 0) (c.n 1) (c.n 2 + n0) (c.n 3 + n1) (c.n 4 + m2) (.slice A5 l5 p5) (.slice A6 l6 p6) (.slice A7 l7 p7) c.q c.l es' W) (hes : es'.map (·.2) = c.b ++ List.replicate k ([], extT x0 (c.b.length : Int))) (hm : MdOk c) (hk4 : k ≤ 4) (hz : chkC (extC c n0 n1 m2 x0 k) = z) :
    (∀ V, Below W.heap.size W V → Calls Tryz.prog 17 #[.agg #[.int .i64 (c.n 0), .int .i64 (c.n 1), .int .i64 (c.n 2 + n0), .int .i64 (c.n 3 + n1), .int .i64 (c.n 4 + m2), .slice A5 l5 p5, .slice A6 l6 p6, .slice A7 l7 p7]] V fun e w' => e = .returned (.int .i64 z) ∧ Below V.heap.size V w') ∧
    (∀ V, Below W.heap.size W V → Calls Tryz.prog 19 #[.agg #[.int .i64 (c.n 0), .int .i64 (c.n 1), .int .i64 (c.n 2 + n0), .int .i64 (c.n 3 + n1), .int .i64 (c.n 4 + m2), .slice A5 l5 p5, .slice A6 l6 p6, .slice A7 l7 p7]] V fun e w' => e = .returned (.slice (some ⟨V.heap.size + 1, 0, none⟩) l7 l7) ∧ w'.rowIs (V.heap.size + 1) 4 l7 (fun j => .bool (reachC c j)) ∧ Below V.heap.size V w') := by
  have hlen : es'.length = c.b.length + k := by
    have := congrArg List.length hes
    simpa using this
  obtain ⟨ad, e5, e6, e7, hk⟩ := hl.rows.cdk (extN c.n n0 n1 m2) (by rw [hm.q]; exact arM_names) (fun e he => by
    have h : e.2 ∈ es'.map (·.2) := List.mem_map.2 ⟨e, he, rfl⟩
    rw [hes] at h
    rcases List.mem_append.1 h with h | h
    · have := (hm.bs _ h).len
      omega
    · rw [(List.mem_replicate.1 h).2]
      exact Nat.zero_le _)
  have hc : (⟨c.q, c.l, es'.map (·.2), extN c.n n0 n1 m2⟩ : CdV) = extC c n0 n1 m2 x0 k := by unfold extC; rw [hes]
  rw [hc] at hk
  injection e5 with a1 a2 a3
  injection e6 with b1 b2 b3
  injection e7 with c1 c2 c3
  subst a1 a2 a3 b1 b2 b3 c1 c2 c3
  have hb18 := hm.b18
  have hf : (extC c n0 n1 m2 x0 k).Fits := ⟨hm.fits.1, hm.fits.2.1, by rw [extC_len]; omega⟩
  have hv : cdval (extC c n0 n1 m2 x0 k) ad = .agg #[.int .i64 (c.n 0), .int .i64 (c.n 1), .int .i64 (c.n 2 + n0), .int .i64 (c.n 3 + n1), .int .i64 (c.n 4 + m2), .slice ad.a1 c.q.length ad.c1, .slice ad.a2 c.l.length ad.c2, .slice ad.a3 es'.length ad.c3] := by
    unfold cdval
    rw [extC_len, ← hlen]
    rfl
  refine ⟨fun V hV => ?_, fun V hV => ?_⟩
  · have H := Check_c _ ad V (hk.on hV).mem hf
    rw [hv, hz] at H
    exact H
  · have H := Reach_c _ ad V (hk.on hV).mem hf
    rw [hv, extC_len, ← hlen, ext_reach hm] at H
    exact H
set_option maxRecDepth 100000 in
set_option maxHeartbeats 16000000 in
theorem extends_of (A : Option Addr) (nx cx : Nat) (n0 n1 n2 tv : Int) (w : World) (h0 : 0 ≤ n0 ∧ n0 ≤ 255) (h1 : 0 ≤ n1 ∧ n1 ≤ 255) (h2 : 0 ≤ n2 ∧ n2 ≤ 255) (ht : 0 ≤ tv ∧ tv ≤ 255) (hE : EnvP w)
    (hM : ∀ W, Below w.heap.size w W → Calls Tryz.prog 34 #[.agg #[.slice A nx cx]] W fun e w' => ∃ (c : CdV) (a : CdA), e = .returned (.agg #[.int .i64 (c.n 0), .int .i64 (c.n 1), .int .i64 (c.n 2), .int .i64 (c.n 3), .int .i64 (c.n 4), .slice a.a1 c.q.length a.c1, .slice a.a2 c.l.length a.c2, .slice a.a3 c.b.length a.c3]) ∧ MadeP c a w' ∧ Below W.heap.size W w') :
    Calls Tryz.prog 10 #[.agg #[.slice A nx cx], .agg #[.int .u8 n0, .int .u8 n1, .int .u8 n2], .int .u8 tv] w fun e w' => e = .returned (.bool true) ∧ Below w.heap.size w w' := by
  have hB0 : Below w.heap.size w ((w.alloc (.cells #[.slice A nx cx] 24)).alloc (.cells #[.int .u8 n0, .int .u8 n1, .int .u8 n2] 93)) := ((Below.refl _ _).alloc (Nat.le_refl _) _).alloc (by simp) _
  have hXB : XB w.heap.size A nx cx n0 n1 n2 ((w.alloc (.cells #[.slice A nx cx] 24)).alloc (.cells #[.int .u8 n0, .int .u8 n1, .int .u8 n2] 93)) := ⟨(Below.heap_alloc _ _ _ (by simp)).trans (heap_alloc_new w _), by have := heap_alloc_new (w.alloc (.cells #[.slice A nx cx] 24)) (.cells #[.int .u8 n0, .int .u8 n1, .int .u8 n2] 93); rw [World.size_alloc] at this; exact this⟩
  have HX := Lib.hid (fun W (hW : Below w.heap.size w W) => examples_any W (hE.on hW))
  have HM := Lib.hid hM
  have HB0 := Lib.hid hB0
  have HXB := Lib.hid hXB
  obtain ⟨iB, hB, hB0', hB1, hB2⟩ := info_parts infoBlk
  obtain ⟨h00, h01⟩ := h0
  obtain ⟨h10, h11⟩ := h1
  obtain ⟨h20, h21⟩ := h2
  obtain ⟨ht0, ht1⟩ := ht
  have HE := Lib.hid hE
  clear hB0 hXB hM hE
  go_enter Tryz.func10, Tryz.ntmps10
  go_upto_region 5 with (first
    | (go_at_call 11; (with_reducible refine (HX.out _ HB0.out).mono ?_); rintro e w1 ⟨rfl, hb1⟩; have hx1 := HXB.out.on hb1; obtain ⟨cx0, cx1, cx2, cx3⟩ := hx1.cells; have HX1 := Lib.hid hx1; have HB1 := Lib.hid (HB0.out.trans (hb1.mono HB0.out.size)); clear hb1 hx1)
    | (go_at_call 34; (with_reducible refine (HM.out _ HB1.out).mono ?_); rintro e w2 ⟨c, a, rfl, hmp, hb2⟩; have HMP := Lib.hid hmp; have HB2 := Lib.hid (HB1.out.trans (hb2.mono HB1.out.size)); have HX2 := Lib.hid (HX1.out.on hb2); clear hmp hb2))
  have hmp := HMP.out
  have hmd := hmp.1
  have hck3 := hmp.2.on ((Below.refl _ _).alloc (Nat.le_refl _) (.cells #[.int .i64 (c.n 0), .int .i64 (c.n 1), .int .i64 (c.n 2), .int .i64 (c.n 3), .int .i64 (c.n 4), .slice a.a1 c.q.length a.c1, .slice a.a2 c.l.length a.c2, .slice a.a3 c.b.length a.c3] 36))
  have hb8 : (w2.alloc (.cells #[.int .i64 (c.n 0), .int .i64 (c.n 1), .int .i64 (c.n 2), .int .i64 (c.n 3), .int .i64 (c.n 4), .slice a.a1 c.q.length a.c1, .slice a.a2 c.l.length a.c2, .slice a.a3 c.b.length a.c3] 36)).heap[w2.heap.size]? = some (.cells #[.int .i64 (c.n 0), .int .i64 (c.n 1), .int .i64 (c.n 2), .int .i64 (c.n 3), .int .i64 (c.n 4), .slice a.a1 c.q.length a.c1, .slice a.a2 c.l.length a.c2, .slice a.a3 c.b.length a.c3] 36 (0, 0)) := heap_alloc_new _ _
  have hx3 := HX2.out.on ((Below.refl _ _).alloc (Nat.le_refl _) (.cells #[.int .i64 (c.n 0), .int .i64 (c.n 1), .int .i64 (c.n 2), .int .i64 (c.n 3), .int .i64 (c.n 4), .slice a.a1 c.q.length a.c1, .slice a.a2 c.l.length a.c2, .slice a.a3 c.b.length a.c3] 36))
  have hb3 := HB2.out.alloc HB2.out.size (.cells #[.int .i64 (c.n 0), .int .i64 (c.n 1), .int .i64 (c.n 2), .int .i64 (c.n 3), .int .i64 (c.n 4), .slice a.a1 c.q.length a.c1, .slice a.a2 c.l.length a.c2, .slice a.a3 c.b.length a.c3] 36)
  have HBE := Lib.hid (Nat.le_trans HB2.out.size (Nat.le_refl w2.heap.size))
  generalize hW3 : (w2.alloc (.cells #[.int .i64 (c.n 0), .int .i64 (c.n 1), .int .i64 (c.n 2), .int .i64 (c.n 3), .int .i64 (c.n 4), .slice a.a1 c.q.length a.c1, .slice a.a2 c.l.length a.c2, .slice a.a3 c.b.length a.c3] 36)) = W3 at *
  generalize w2.heap.size = b8 at *
  clear hW3
  have HCP := Lib.hid (show Calls Tryz.prog 38 #[.agg #[.int .i64 (c.n 0), .int .i64 (c.n 1), .int .i64 (c.n 2), .int .i64 (c.n 3), .int .i64 (c.n 4), .slice a.a1 c.q.length a.c1, .slice a.a2 c.l.length a.c2, .slice a.a3 c.b.length a.c3]] W3 (fun e w' => ∃ A5 p5 A6 p6 A7 p7 es, e = .returned (.agg #[.int .i64 (c.n 0), .int .i64 (c.n 1), .int .i64 (c.n 2), .int .i64 (c.n 3), .int .i64 (c.n 4), .slice A5 c.q.length p5, .slice A6 c.l.length p6, .slice A7 c.b.length p7]) ∧ (RC W3.heap.size (.slice A5 c.q.length p5) (.slice A6 c.l.length p6) (.slice A7 c.b.length p7) c.q c.l es w' ∧ es.map (·.2) = c.b ∧ es.length = c.b.length) ∧ Below W3.heap.size W3 w') from (Copy_c c a W3 hck3.mem hmd.fits).mono (by
    rintro e w' ⟨v5, v6, v7, es, rfl, hr, hes, hb⟩
    have hel : es.length = c.b.length := by rw [← hes, List.length_map]
    obtain ⟨A5, p5, rfl, _⟩ := own_cells hr.arr
    obtain ⟨A6, p6, rfl, _⟩ := own_cells hr.loops
    obtain ⟨A7, p7, e7, _⟩ := own_cells hr.blocks
    rw [hel] at e7
    subst e7
    exact ⟨A5, p5, A6, p6, A7, p7, es, rfl, ⟨hr, hes, hel⟩, hb⟩))
  have hlx : Hid (∃ g s r sl p : Int, g = c.n 0 ∧ s = c.n 1 ∧ r = c.n 2 ∧ sl = c.n 3 ∧ p = c.n 4 ∧ (6 ≤ r ∧ r ≤ 12) ∧ sl = 0 ∧ p = 3) := Lib.hid (by
    obtain ⟨g, s, hs, hg, hs8, hn⟩ := hmd.nums
    have l3 := hmd.l3
    exact ⟨c.n 0, c.n 1, c.n 2, c.n 3, c.n 4, rfl, rfl, rfl, rfl, rfl, by rw [hn]; show 6 ≤ 6 + 2 * (c.l.length : Int) ∧ 6 + 2 * (c.l.length : Int) ≤ 12; omega, by rw [hn]; rfl, by rw [hn]; rfl⟩)
  obtain ⟨g, s, r, sl, p, eg, es, er, esl, ep, hr6, hsl0, hp3⟩ := hlx.out
  rw [← eg, ← es, ← er, ← esl, ← ep] at hb8 HCP ⊢
  have HNN := Lib.hid (And.intro eg (And.intro es (And.intro er (And.intro esl (And.intro ep (And.intro hr6 (And.intro hsl0 hp3)))))))
  obtain ⟨nb, hnb⟩ : ∃ nb, c.b.length = nb := ⟨_, rfl⟩
  have hb18 := hmd.b18
  rw [hnb] at hb18 hb8 HCP ⊢
  have HNB := Lib.hid hnb
  have HMD := Lib.hid hmd
  have HCK := Lib.hid hck3
  have HX3 := Lib.hid hx3
  have HB3 := Lib.hid hb3
  have HB8 := Lib.hid hb8
  obtain ⟨hr61, hr62⟩ := hr6
  have hsl1 : 0 ≤ sl := by omega
  have hsl2 : sl ≤ 0 := by omega
  have hp31 : 3 ≤ p := by omega
  have hp32 : p ≤ 3 := by omega
  have kc0 := cell_blk hb8 (i := 0) rfl
  have kc1 := cell_blk hb8 (i := 1) rfl
  have kc2 := cell_blk hb8 (i := 2) rfl
  have kc3 := cell_blk hb8 (i := 3) rfl
  have kc4 := cell_blk hb8 (i := 4) rfl
  have kc5 := cell_blk hb8 (i := 5) rfl
  have kc6 := cell_blk hb8 (i := 6) rfl
  have kc7 := cell_blk hb8 (i := 7) rfl
  clear hmp hmd hck3 hx3 hb3 hb8 hlx eg es er esl ep hnb hsl0 hp3 HMP HX2 HB2 HM HX HX1 HB1 HXB cx0 cx1 cx2 cx3
  go_upto_region 6 with (first
    | (go_at_call 38; (with_reducible refine HCP.out.mono ?_); rintro e w4 ⟨A5, p5, A6, p6, A7, p7, es, rfl, hr, hb4⟩; have HR4 := Lib.hid hr; have HB4 := Lib.hid hb4; clear hr hb4))
  have HL0 := Lib.hid (show LX W3 w4.heap.size W3.heap.size g s r sl p (.slice A5 c.q.length p5) (.slice A6 c.l.length p6) (.slice A7 nb p7) c.q c.l es (w4.alloc (.cells #[.int .i64 g, .int .i64 s, .int .i64 r, .int .i64 sl, .int .i64 p, .slice A5 c.q.length p5, .slice A6 c.l.length p6, .slice A7 nb p7] 36)) from
    ⟨heap_alloc_new _ _, HR4.out.1.k36 (K36.below ((Below.refl _ _).alloc (Nat.le_refl _) _)), HB4.out.alloc HB4.out.size _, Nat.le_refl _, HB4.out.size, by have := HB4.out.size; simp; omega⟩)
  have HES := Lib.hid HR4.out.2
  generalize (w4.alloc (.cells #[.int .i64 g, .int .i64 s, .int .i64 r, .int .i64 sl, .int .i64 p, .slice A5 c.q.length p5, .slice A6 c.l.length p6, .slice A7 nb p7] 36)) = W5 at *
  generalize w4.heap.size = b9 at *
  obtain ⟨n9, hn9⟩ : ∃ n9, W3.heap.size = n9 := ⟨_, rfl⟩
  have HBW := Lib.hid (show ∀ V, Below W3.heap.size W3 V → Below w.heap.size w V from fun V hV => HB3.out.trans (hV.mono HB3.out.size))
  have HBX := Lib.hid (show ∀ V, Below W3.heap.size W3 V → V.heap[b8]? = some (.cells #[.int .i64 g, .int .i64 s, .int .i64 r, .int .i64 sl, .int .i64 p, .slice a.a1 c.q.length a.c1, .slice a.a2 c.l.length a.c2, .slice a.a3 nb a.c3] 36 (0, 0)) from fun V hV => (hV.block b8 (Array.getElem?_eq_some_iff.1 HB8.out).1).trans HB8.out)
  have HXV := Lib.hid (show ∀ V, Below W3.heap.size W3 V → XB w.heap.size A nx cx n0 n1 n2 V from fun V hV => HX3.out.on hV)
  have HCV := Lib.hid (show ∀ V, Below W3.heap.size W3 V → CdK c a V from fun V hV => HCK.out.on hV)
  rw [hn9] at HL0
  clear hn9 HR4 HB4 kc0 kc1 kc2 kc3 kc4 kc5 kc6 kc7 HCP HX3 HCK HB8
  obtain ⟨m2, hm2⟩ : ∃ m2, n2 % 6 = m2 := ⟨_, rfl⟩
  have hm20 : 0 ≤ m2 := by omega
  have hm25 : m2 ≤ 5 := by omega
  have hmt : Int.tmod n2 6 = m2 := (Int.tmod_eq_emod_of_nonneg h20).trans hm2
  have d2 := HL0.out.c2
  have f2 := HL0.out.fr 2
  obtain ⟨_, x0c, _, _⟩ := (HXV.out _ HL0.out.below).cells
  go_cut [] (fun wx => Hid (LX W3 b9 n9 g s (r + n0) sl p (.slice A5 c.q.length p5) (.slice A6 c.l.length p6) (.slice A7 nb p7) c.q c.l es wx))
  case first =>
    go_wp2
    go_meet
    exact Lib.hid (HL0.out.set2 (r + n0))
  case rest =>
  have HL1 := hcut
  have d3 := HL1.out.c3
  have f3 := HL1.out.fr 3
  obtain ⟨_, _, x1c, _⟩ := (HXV.out _ HL1.out.below).cells
  clear hcut HL0 d2 f2 x0c
  go_upto_region 7 with (fail)
  go_cut [] (fun wx => Hid (LX W3 b9 n9 g s (r + n0) (sl + n1) p (.slice A5 c.q.length p5) (.slice A6 c.l.length p6) (.slice A7 nb p7) c.q c.l es wx))
  case first =>
    go_wp2
    go_meet
    exact Lib.hid (HL1.out.set3 (sl + n1))
  case rest =>
  have HL2 := hcut
  have d4 := HL2.out.c4
  have f4 := HL2.out.fr 4
  obtain ⟨_, _, _, x2c⟩ := (HXV.out _ HL2.out.below).cells
  clear hcut HL1 d3 f3 x1c
  go_upto_region 8 with (fail)
  go_cut [] (fun wx => Hid (LX W3 b9 n9 g s (r + n0) (sl + n1) (p + m2) (.slice A5 c.q.length p5) (.slice A6 c.l.length p6) (.slice A7 nb p7) c.q c.l es wx))
  case first =>
    go_wp2
    go_meet
    exact Lib.hid (HL2.out.set4 (p + m2))
  case rest =>
  have HL3 := hcut
  clear hcut HL2 d4 f4 x2c hm2 hmt
  go_upto_region 10 with (fail)
  obtain ⟨km, hkm⟩ : ∃ km : Nat, 1 + tv % 4 = (km : Int) := ⟨(1 + tv % 4).toNat, by omega⟩
  have hkm1 : 1 ≤ km := by omega
  have hkm4 : km ≤ 4 := by omega
  rw [hkm]
  clear hkm
  have hnb1 := hb18.1
  have hnb2 := hb18.2
  obtain ⟨x0, hx0⟩ : ∃ x0, tv % (nb : Int) = x0 := ⟨_, rfl⟩
  have hx00 : 0 ≤ x0 := hx0 ▸ Int.emod_nonneg _ (by omega)
  have hx01 : x0 < (nb : Int) := hx0 ▸ Int.emod_lt_of_pos _ (by omega)
  have HXX := Lib.hid (show tv % (nb : Int) = x0 ∧ Int.tmod tv (nb : Int) = x0 from ⟨hx0, (Int.tmod_eq_emod_of_nonneg ht0).trans hx0⟩)
  have HNZ := Lib.hid (show ((nb : Int) == 0) = false ∧ ¬ ((nb : Int) = 0) from ⟨by simp; omega, by omega⟩)
  clear hx0 hb18
  go_wp2
  go_loopg [11] km (fun gk z wx => ∃ k : Nat, z = .int .i64 (k : Int) ∧ k + gk = km ∧ Hid (∃ gB cB es', LX W3 b9 n9 g s (r + n0) (sl + n1) (p + m2) (.slice A5 c.q.length p5) (.slice A6 c.l.length p6) (.slice (some ⟨gB, 0, none⟩) (nb + k) cB) c.q c.l es' wx ∧ es'.map (·.2) = c.b ++ List.replicate k ([], extT x0 (nb : Int)) ∧ es'.length = nb + k))
  case atStart =>
    refine ⟨0, rfl, by omega, Lib.hid ?_⟩
    have hro := HL3.out.rows.blocks
    rw [HES.out.2] at hro
    obtain ⟨gB, cB, e, _, _⟩ := hro.form (by omega)
    injection e with e1 _ e3
    subst e1 e3
    exact ⟨gB, p7, es, HL3.out, by rw [HES.out.1]; simp, HES.out.2⟩
  case round =>
    obtain ⟨k, rfl, hkg, HK⟩ := hrel
    obtain ⟨gB, cB, es', hk, hes, hel⟩ := HK.out
    have HLK := Lib.hid hk
    have HES' := Lib.hid hes
    have HEL := Lib.hid hel
    clear hk hes hel HK
    cases gk with
    | zero =>
      obtain rfl : k = km := by omega
      obtain ⟨eg, es1, er, esl, ep, hrst⟩ := HNN.out
      clear hrst
      have hnb := HNB.out
      have HRC := Lib.hid (show ∀ V, Below W3.heap.size W3 V → Calls Tryz.prog 19 #[.agg #[.int .i64 g, .int .i64 s, .int .i64 r, .int .i64 sl, .int .i64 p, .slice a.a1 c.q.length a.c1, .slice a.a2 c.l.length a.c2, .slice a.a3 nb a.c3]] V (fun e w' => e = .returned (.slice (some ⟨V.heap.size + 1, 0, none⟩) nb nb) ∧ w'.rowIs (V.heap.size + 1) 4 nb (fun j => .bool (reachC c j)) ∧ Below V.heap.size V w') from fun V hV => by
        have h := Reach_c c a V (HCV.out V hV).mem HMD.out.fits
        unfold cdval at h
        rw [hnb, ← eg, ← es1, ← er, ← esl, ← ep] at h
        exact h)
      have hl := HLK.out
      have hes2 := HES'.out
      rw [← hnb] at hes2
      rw [eg, es1, er, esl, ep] at hl
      have HEX := Lib.hid (fun z hz => ext_calls (z := z) hl hes2 HMD.out hkm4 hz)
      have hxx : 0 ≤ x0 ∧ x0 < c.b.length := by rw [hnb]; exact ⟨hx00, hx01⟩
      have HOK := Lib.hid (fun hr => ext_ok (k := k) HMD.out ⟨h00, h01⟩ ⟨h10, h11⟩ ⟨hm20, hm25⟩ hxx ⟨hkm1, hkm4⟩ hr)
      have HBG := Lib.hid (fun hr => ext_big (k := k) (n1 := n1) (n2 := m2) (x := x0) HMD.out (n0 := n0) hr)
      rw [← eg, ← es1, ← er, ← esl, ← ep] at HEX
      rw [← er] at HOK HBG
      have hbx := HBX.out _ HLK.out.below
      have kc0 := cell_blk hbx (i := 0) rfl
      have kc1 := cell_blk hbx (i := 1) rfl
      have kc2 := cell_blk hbx (i := 2) rfl
      have kc3 := cell_blk hbx (i := 3) rfl
      have kc4 := cell_blk hbx (i := 4) rfl
      have kc5 := cell_blk hbx (i := 5) rfl
      have kc6 := cell_blk hbx (i := 6) rfl
      have kc7 := cell_blk hbx (i := 7) rfl
      have HBL := Lib.hid HLK.out.below
      clear eg es1 er esl ep hnb hl hes2 hxx hbx
      go_upto_region 15 with (first
        | (go_at_call 19; go_loud ((with_reducible refine (HRC.out _ HBL.out).mono ?_); rintro e W6 ⟨rfl, hr6, hb6⟩; have HR6 := Lib.hid hr6; have HB6 := Lib.hid hb6; clear hr6 hb6)))
      have hl6 := HLK.out.on HB6.out
      have c0 := hl6.c0
      have c1 := hl6.c1
      have c2 := hl6.c2
      have c3 := hl6.c3
      have c4 := hl6.c4
      have c5 := hl6.c5
      have c6 := hl6.c6
      have c7 := hl6.c7
      have HL6 := Lib.hid hl6
      clear hl6 kc0 kc1 kc2 kc3 kc4 kc5 kc6 kc7
      generalize wr.heap.size + 1 = b0 at *
      by_cases hbig : r + n0 ≤ 256
      · have hng : ¬ (256 : Int) < r + n0 := by omega
        obtain ⟨hch, hre⟩ := HEX.out 0 (HOK.out hbig)
        have HCH := Lib.hid hch
        have HRE := Lib.hid hre
        clear hch hre HEX HOK HBG hbig
        go_upto_region 20 with (first
          | (go_at_call 17; (with_reducible refine (HCH.out _ HB6.out).mono ?_); rintro e W7 ⟨rfl, hb7⟩; have hl7 := HL6.out.on hb7; have k0 := hl7.c0; have k1 := hl7.c1; have k2 := hl7.c2; have k3 := hl7.c3; have k4 := hl7.c4; have k5 := hl7.c5; have k6 := hl7.c6; have k7 := hl7.c7; have HL7 := Lib.hid hl7; have HB7 := Lib.hid (HB6.out.trans (hb7.mono HB6.out.size)); have HR7 := Lib.hid (HR6.out.of_block (hb7.block _ HR6.out.lt)); clear hl7 hb7)
          | (go_at_call 19; (with_reducible refine (HRE.out _ HB7.out).mono ?_); rintro e W8 ⟨rfl, hr8, hb8⟩; have HM8 := Lib.hid hr8; have HB8 := Lib.hid (HB7.out.trans (hb8.mono HB7.out.size)); have HR8 := Lib.hid (HR7.out.of_block (hb8.block _ HR7.out.lt)); clear hr8 hb8))
        generalize hbm : W7.heap.size + 1 = bm at *
        have HB18 := Lib.hid (bools_same bm b0 (nb + k) nb nb (nb + k) nb (reachC c) W8 HM8.out HR8.out (by omega) (Nat.le_refl _) (by omega))
        have hle : nb ≤ nb + k := by omega
        have hlei : (nb : Int) ≤ (nb : Int) + (k : Int) := by omega
        clear hbm c0 c1 c2 c3 c4 c5 c6 c7 k0 k1 k2 k3 k4 k5 k6 k7
        go_upto_region 22 with (first
          | (go_at_call 18; (with_reducible refine HB18.out.mono ?_); rintro e W9 ⟨rfl, hb9⟩; have HB9 := Lib.hid hb9; clear hb9))
        go_wp2
        go_loopg [14] k (fun gk z wx => ∃ j : Nat, z = .int .i64 (j : Int) ∧ j + gk = nb + k ∧ nb ≤ j ∧ Hid (Below W8.heap.size W8 wx))
        case atStart => exact ⟨nb, rfl, by omega, Nat.le_refl _, HB9⟩
        case round =>
          obtain ⟨j, rfl, hj, hnj, HBJ⟩ := hrel
          cases gk with
          | zero =>
            obtain rfl : j = nb + k := by omega
            go_wp2
            go_ret
            exact ⟨rfl, HBW.out _ (HBL.out.trans ((HB8.out.trans (HBJ.out.mono HB8.out.size)).mono HBL.out.size))⟩
          | succ gh =>
            have hjl : (j : Int) < (nb : Int) + (k : Int) := by omega
            have hjn : j < nb + k := by omega
            have hcm : wr.cell? ⟨bm, j, none⟩ = some (.bool false) := by
              have h := (HM8.out.of_block (HBJ.out.block bm HM8.out.lt)).cell hjn
              rw [show reachC c j = false from reachV_out (by rw [HNB.out]; exact hnj)] at h
              exact h
            go_wp2
            go_roundg gh
            case measure => omega
            case rel => exact ⟨j + 1, by go_num, by omega, by omega, HBJ⟩
      · have hng : (256 : Int) < r + n0 := by omega
        obtain ⟨hch, _⟩ := HEX.out 2 (HBG.out hng)
        have HCH := Lib.hid hch
        clear hch HEX HOK HBG hbig
        go_wp2_with (first
          | (go_at_call 17; (with_reducible refine (HCH.out _ HB6.out).mono ?_); rintro e W7 ⟨rfl, hb7⟩; have HB7 := Lib.hid (HB6.out.trans (hb7.mono HB6.out.size)); clear hb7))
        go_ret
        exact ⟨rfl, HBW.out _ (HBL.out.trans (HB7.out.mono HBL.out.size))⟩
    | succ gh =>
      have hlt : (k : Int) < (km : Int) := by omega
      have c7 := HLK.out.c7
      have kc7 : wr.cell? ⟨b8, 7, none⟩ = some (.slice a.a3 nb a.c3) := cell_blk (HBX.out _ HLK.out.below) (i := 7) rfl
      have HROW := Lib.hid (show ∀ (V : World) (h : LX W3 b9 n9 g s (r + n0) (sl + n1) (p + m2) (.slice A5 c.q.length p5) (.slice A6 c.l.length p6) (.slice (some ⟨gB, 0, none⟩) (nb + k) cB) c.q c.l es' V) (o : Obj), (V.alloc o).ownsRow n9 55 14 (.slice (some ⟨gB, 0, none⟩) (nb + k) cB) (nb + k) (flatB es') from fun V h o => by have := (h.alloc o).rows.blocks; rwa [HEL.out] at this)
      have HLD := Lib.hid HLK.out.drew
      obtain ⟨hxa, hxb⟩ := HXX.out
      obtain ⟨hza, hzb⟩ := HNZ.out
      have hzn : ¬ nb = 0 := by omega
      have hwt : IntKind.i64.wrap tv = tv := IntWalk.i64_in _ (by omega)
      go_upto_region 13 with (fail)
      refine wp_region_held_drew (S := (fun w' => w'.cell? ⟨b8, 7, none⟩ = some (.slice a.a3 nb a.c3))) (by kernel_rfl) ?_ (fun hHeld => ?_)
      · (try dsimp only); (first | assumption | exact kc7 | exact cell_blk (HBX.out _ HP8.out.below) (i := 7) rfl | exact cell_blk (HBX.out _ (HK4.out.alloc _).below) (i := 7) rfl | exact HKB.out)
      refine wpAnyH_take (i := 0) (oi := { dst := some 53, op := Op.fieldAddr 36 (Operand.tmp 9) 7, type := 0, pos := "law.go:473", after := #[], guard := none }) (v := ?_) rfl (by kernel_rfl) (by kernel_rfl) (by kernel_rfl) (fun _ _ _ h => h) (Or.inl ⟨by kernel_rfl, ?_⟩) (by assumption) ?_
      rotate_left
      · (intro w hSw; (try dsimp only at hSw); go_simp; (try with_reducible rfl))
      try simp only [Act.put, List.setIfInBounds_toArray, List.set_cons_zero, List.set_cons_succ]
      refine wpAnyH_take (i := 3) (oi := { dst := some 56, op := Op.move (Operand.tmp 2), type := 5, pos := "law.go:473", after := #[], guard := none }) (v := ?_) rfl (by kernel_rfl) (by kernel_rfl) (by kernel_rfl) (fun _ _ _ h => h) (Or.inl ⟨by kernel_rfl, ?_⟩) (by assumption) ?_
      rotate_left
      · (intro w hSw; (try dsimp only at hSw); go_simp; (try with_reducible rfl))
      try simp only [Act.put, List.setIfInBounds_toArray, List.set_cons_zero, List.set_cons_succ]
      refine wpAnyH_take (i := 4) (oi := { dst := some 57, op := Op.convert 5 3 (Operand.tmp 56), type := 3, pos := "law.go:473", after := #[{ on := 3, ground := Ground.data }], guard := none }) (v := ?_) rfl (by kernel_rfl) (by kernel_rfl) (by kernel_rfl) (fun _ _ _ h => h) (Or.inl ⟨by kernel_rfl, ?_⟩) (by assumption) ?_
      rotate_left
      · (intro w hSw; (try dsimp only at hSw); go_simp; (try with_reducible rfl))
      try simp only [Act.put, List.setIfInBounds_toArray, List.set_cons_zero, List.set_cons_succ]
      refine wpAnyH_take (i := 5) (oi := { dst := some 58, op := Op.fieldAddr 36 (Operand.tmp 8) 7, type := 0, pos := "law.go:473", after := #[], guard := none }) (v := ?_) rfl (by kernel_rfl) (by kernel_rfl) (by kernel_rfl) (fun _ _ _ h => h) (Or.inl ⟨by kernel_rfl, ?_⟩) (by assumption) ?_
      rotate_left
      · (intro w hSw; (try dsimp only at hSw); go_simp; (try with_reducible rfl))
      try simp only [Act.put, List.setIfInBounds_toArray, List.set_cons_zero, List.set_cons_succ]
      refine wpAnyH_take (i := 6) (oi := { dst := some 59, op := Op.load 34 (Operand.tmp 58), type := 34, pos := "law.go:473", after := #[{ on := 5, ground := Ground.data }], guard := none }) (v := ?_) rfl (by kernel_rfl) (by kernel_rfl) (by kernel_rfl) (fun _ _ _ h => h) (Or.inl ⟨by kernel_rfl, ?_⟩) (by assumption) ?_
      rotate_left
      · (intro w hSw; (try dsimp only at hSw); go_simp; (try with_reducible rfl))
      try simp only [Act.put, List.setIfInBounds_toArray, List.set_cons_zero, List.set_cons_succ]
      refine wpAnyH_take (i := 7) (oi := { dst := some 60, op := Op.call { callee := Callee.builtin Builtin.len, args := #[Operand.tmp 59], argTypes := #[34] }, type := 3, pos := "law.go:473", after := #[{ on := 6, ground := Ground.data }], guard := none }) (v := ?_) rfl (by kernel_rfl) (by kernel_rfl) (by kernel_rfl) (fun _ _ _ h => h) (Or.inl ⟨by kernel_rfl, ?_⟩) (by assumption) ?_
      rotate_left
      · (intro w hSw; (try dsimp only at hSw); go_simp; (try with_reducible rfl))
      try simp only [Act.put, List.setIfInBounds_toArray, List.set_cons_zero, List.set_cons_succ]
      refine wpAnyH_take (i := 8) (oi := { dst := some 61, op := Op.binOp BinOp.rem 3 (Operand.tmp 57) (Operand.tmp 60) 3, type := 3, pos := "law.go:473", after := #[{ on := 4, ground := Ground.data }, { on := 7, ground := Ground.data }], guard := none }) (v := ?_) rfl (by kernel_rfl) (by kernel_rfl) (by kernel_rfl) (fun _ _ _ h => h) (Or.inl ⟨by kernel_rfl, ?_⟩) (by assumption) ?_
      rotate_left
      · (intro w hSw; (try dsimp only at hSw); go_simp; (try with_reducible rfl))
      try simp only [Act.put, List.setIfInBounds_toArray, List.set_cons_zero, List.set_cons_succ]
      refine wpAnyH_take (i := 9) (oi := { dst := some 62, op := Op.fieldAddr 36 (Operand.tmp 8) 7, type := 0, pos := "law.go:473", after := #[], guard := none }) (v := ?_) rfl (by kernel_rfl) (by kernel_rfl) (by kernel_rfl) (fun _ _ _ h => h) (Or.inl ⟨by kernel_rfl, ?_⟩) (by assumption) ?_
      rotate_left
      · (intro w hSw; (try dsimp only at hSw); go_simp; (try with_reducible rfl))
      try simp only [Act.put, List.setIfInBounds_toArray, List.set_cons_zero, List.set_cons_succ]
      refine wpAnyH_take (i := 10) (oi := { dst := some 63, op := Op.load 34 (Operand.tmp 62), type := 34, pos := "law.go:473", after := #[{ on := 9, ground := Ground.data }], guard := none }) (v := ?_) rfl (by kernel_rfl) (by kernel_rfl) (by kernel_rfl) (fun _ _ _ h => h) (Or.inl ⟨by kernel_rfl, ?_⟩) (by assumption) ?_
      rotate_left
      · (intro w hSw; (try dsimp only at hSw); go_simp; (try with_reducible rfl))
      try simp only [Act.put, List.setIfInBounds_toArray, List.set_cons_zero, List.set_cons_succ]
      refine wpAnyH_take (i := 11) (oi := { dst := some 64, op := Op.call { callee := Callee.builtin Builtin.len, args := #[Operand.tmp 63], argTypes := #[34] }, type := 3, pos := "law.go:473", after := #[{ on := 10, ground := Ground.data }], guard := none }) (v := ?_) rfl (by kernel_rfl) (by kernel_rfl) (by kernel_rfl) (fun _ _ _ h => h) (Or.inl ⟨by kernel_rfl, ?_⟩) (by assumption) ?_
      rotate_left
      · (intro w hSw; (try dsimp only at hSw); go_simp; (try with_reducible rfl))
      try simp only [Act.put, List.setIfInBounds_toArray, List.set_cons_zero, List.set_cons_succ]
      refine wpAnyH_take (i := 12) (oi := { dst := some 65, op := Op.build 51 #[(0, Operand.tmp 61), (1, Operand.tmp 64)], type := 51, pos := "law.go:473", after := #[{ on := 8, ground := Ground.data }, { on := 11, ground := Ground.data }], guard := none }) (v := ?_) rfl (by kernel_rfl) (by kernel_rfl) (by kernel_rfl) (fun _ _ _ h => h) (Or.inl ⟨by kernel_rfl, ?_⟩) (by assumption) ?_
      rotate_left
      · (intro w hSw; (try dsimp only at hSw); go_simp; (try with_reducible rfl))
      try simp only [Act.put, List.setIfInBounds_toArray, List.set_cons_zero, List.set_cons_succ]
      refine wpAnyH_ready (rs := [1, 2]) (by kernel_rfl) (by simp) ?_
      refine AllReadyH.cons (o := { dst := some 54, op := Op.load 34 (Operand.tmp 53), type := 34, pos := "law.go:473", after := #[{ on := 0, ground := Ground.data }], guard := none }) rfl (fun K hK => ?_) ?_
      · go_simp
        refine hK.out _ _ ?_ (fun hHeld => ?_)
        · (try dsimp only); (first | assumption | exact kc7 | exact cell_blk (HBX.out _ HP8.out.below) (i := 7) rfl | exact cell_blk (HBX.out _ (HK4.out.alloc _).below) (i := 7) rfl | exact HKB.out)
        clear hK K
        try simp only [Act.put, List.setIfInBounds_toArray, List.set_cons_zero, List.set_cons_succ]
        refine wpAnyH_ready (rs := [2]) (by kernel_rfl) (by simp) ?_
        refine AllReadyH.cons (o := { dst := some 55, op := Op.call { callee := Callee.value (Operand.func 40), args := #[Operand.const (Value.int IntKind.i64 0)], argTypes := #[3] }, type := 27, pos := "law.go:473", after := #[], guard := none }) rfl (fun K hK => ?_) ?_
        · (refine step_call rfl 40 _ _ (by rfl) (enters_of Tryz.func40 (by kernel_rfl) rfl) [.int .i64 0] (by rfl) (fun u w' => u = .agg #[.int .i64 2, .int .i64 0, .int .i32 0] ∧ LX W3 b9 n9 g s (r + n0) (sl + n1) (p + m2) (.slice A5 c.q.length p5) (.slice A6 c.l.length p6) (.slice (some ⟨gB, 0, none⟩) (nb + k) cB) c.q c.l es' w') ((Reg_any _ _).mono fun e w' he => ⟨_, he.1, rfl, HLD.out.on he.2⟩) ?_; rintro u W4 ⟨rfl, h4⟩; have c74 := h4.c7; have kc74 : W4.cell? ⟨b8, 7, none⟩ = some (.slice a.a3 nb a.c3) := cell_blk (HBX.out _ h4.below) (i := 7) rfl; have ca74 := h4.alloc (.cells #[.slice none 0 0, .int .i64 2, .int .i64 0, .int .i64 0, .int .i64 0, .int .i32 0, .int .i64 2, .int .i64 0, .int .i32 0, .int .i64 0, .int .i64 0, .int .i32 0, .int .i64 x0, .int .i64 (nb : Int)] 55); have cb74 := ca74.c7; clear ca74; have HK4 := Lib.hid h4; clear h4)
          refine hK.out _ _ ?_ (fun hHeld => ?_)
          · (try dsimp only); (first | assumption | exact kc7 | exact cell_blk (HBX.out _ HP8.out.below) (i := 7) rfl | exact cell_blk (HBX.out _ (HK4.out.alloc _).below) (i := 7) rfl | exact HKB.out)
          clear hK K
          try simp only [Act.put, List.setIfInBounds_toArray, List.set_cons_zero, List.set_cons_succ]
          refine wpAnyH_take (i := 13) (oi := { dst := some 66, op := Op.build 53 #[(0, Operand.const (Value.int IntKind.i64 2)), (3, Operand.tmp 55), (5, Operand.tmp 65)], type := 53, pos := "law.go:473", after := #[{ on := 2, ground := Ground.data }, { on := 12, ground := Ground.data }], guard := none }) (v := ?_) rfl (by kernel_rfl) (by kernel_rfl) (by kernel_rfl) (fun _ _ _ h => h) (Or.inl ⟨by kernel_rfl, ?_⟩) (by assumption) ?_
          rotate_left
          · (intro w hSw; (try dsimp only at hSw); go_simp; (try with_reducible rfl))
          try simp only [Act.put, List.setIfInBounds_toArray, List.set_cons_zero, List.set_cons_succ]
          refine wpAnyH_take (i := 14) (oi := { dst := some 67, op := Op.build 55 #[(1, Operand.tmp 66)], type := 55, pos := "law.go:473", after := #[{ on := 13, ground := Ground.data }], guard := none }) (v := ?_) rfl (by kernel_rfl) (by kernel_rfl) (by kernel_rfl) (fun _ _ _ h => h) (Or.inl ⟨by kernel_rfl, ?_⟩) (by assumption) ?_
          rotate_left
          · (intro w hSw; (try dsimp only at hSw); go_simp; (try with_reducible rfl))
          try simp only [Act.put, List.setIfInBounds_toArray, List.set_cons_zero, List.set_cons_succ]
          refine wpAnyH_ready (rs := [15]) (by kernel_rfl) (by simp) ?_
          refine AllReadyH.cons (o := { dst := some 68, op := Op.buildSlice 34 1 #[(0, Operand.tmp 67)], type := 34, pos := "law.go:473", after := #[{ on := 14, ground := Ground.data }], guard := none }) rfl (fun K hK => ?_) ?_
          · go_simp
            refine hK.out _ _ ?_ (fun hHeld => ?_)
            · (try dsimp only); (first | assumption | exact kc7 | exact cell_blk (HBX.out _ HP8.out.below) (i := 7) rfl | exact cell_blk (HBX.out _ (HK4.out.alloc _).below) (i := 7) rfl | exact HKB.out)
            clear hK K
            try simp only [Act.put, List.setIfInBounds_toArray, List.set_cons_zero, List.set_cons_succ]
            refine wpAnyH_ready (rs := [16]) (by kernel_rfl) (by simp) ?_
            refine AllReadyH.cons (o := { dst := some 69, op := Op.call { callee := Callee.builtin Builtin.append, args := #[Operand.tmp 54, Operand.tmp 68], argTypes := #[34, 34] }, type := 34, pos := "law.go:473", after := #[{ on := 1, ground := Ground.data }, { on := 15, ground := Ground.data }, { on := 2, ground := Ground.chain }], guard := none }) rfl (fun K hK => ?_) ?_
            · (refine step_append_own rfl _ _ 34 (by rfl) n9 55 iB _ 14 128 Tryz.underlying34 hB hB0' hB1 hB2 rfl (by decide) (.slice (some ⟨gB, 0, none⟩) (nb + k) cB) (nb + k) (flatB es') (by rfl) (HROW.out W4 (HK4.out) (.cells #[.slice none 0 0, .int .i64 2, .int .i64 0, .int .i64 0, .int .i64 0, .int .i32 0, .int .i64 2, .int .i64 0, .int .i32 0, .int .i64 0, .int .i64 0, .int .i32 0, .int .i64 x0, .int .i64 (nb : Int)] 55)) ⟨W4.heap.size, 0, none⟩ 1 1 (blC (.slice none 0 0, [], extT x0 (nb : Int))) (by rfl) (by rfl) (row_new W4 #[.slice none 0 0, .int .i64 2, .int .i64 0, .int .i64 0, .int .i64 0, .int .i32 0, .int .i64 2, .int .i64 0, .int .i32 0, .int .i64 0, .int .i64 0, .int .i32 0, .int .i64 x0, .int .i64 (nb : Int)] 55) (by simp [blC, TermV.cells, extT, noOpd, Value.oneCell']) (by unfold maxLen; omega) (by omega) (HK4.out.alloc _).hn.2.2 ?_; intro v' w8 hown' hgrow _; obtain ⟨gg, cap, rfl, _, _⟩ := hown'.form (by omega); obtain ⟨hbx, hbw, _⟩ := (HK4.out.alloc _).boxg (HROW.out W4 (HK4.out) _) hgrow (by decide); have HKB := Lib.hid (cell_blk (HBX.out _ hbw) (i := 7) rfl); have ff := LX.fr' hbx 7; have fc := (LX.ck' hbx).2; have HP8 := Lib.hid ((HK4.out.alloc _).push7 (x := (.slice none 0 0, [], extT x0 (nb : Int))) ⟨rfl, rfl⟩ (by rw [HEL.out]; exact hown') hgrow); clear hown' hgrow hbx hbw)
              refine hK.out _ _ ?_ (fun hHeld => ?_)
              · (try dsimp only); (first | assumption | exact kc7 | exact cell_blk (HBX.out _ HP8.out.below) (i := 7) rfl | exact cell_blk (HBX.out _ (HK4.out.alloc _).below) (i := 7) rfl | exact HKB.out)
              clear hK K
              try simp only [Act.put, List.setIfInBounds_toArray, List.set_cons_zero, List.set_cons_succ]
              refine wpAnyH_take (i := 17) (oi := { dst := some 70, op := Op.fieldAddr 36 (Operand.tmp 9) 7, type := 0, pos := "law.go:473", after := #[{ on := 0, ground := Ground.phase }, { on := 1, ground := Ground.phase }, { on := 2, ground := Ground.phase }, { on := 3, ground := Ground.phase }, { on := 4, ground := Ground.phase }, { on := 5, ground := Ground.phase }, { on := 6, ground := Ground.phase }, { on := 7, ground := Ground.phase }, { on := 8, ground := Ground.phase }, { on := 9, ground := Ground.phase }, { on := 10, ground := Ground.phase }, { on := 11, ground := Ground.phase }, { on := 12, ground := Ground.phase }, { on := 13, ground := Ground.phase }, { on := 14, ground := Ground.phase }, { on := 15, ground := Ground.phase }, { on := 16, ground := Ground.phase }], guard := none }) (v := ?_) rfl (by kernel_rfl) (by kernel_rfl) (by kernel_rfl) (fun _ _ _ h => h) (Or.inl ⟨by kernel_rfl, ?_⟩) (by assumption) ?_
              rotate_left
              · (intro w hSw; (try dsimp only at hSw); go_simp; (try with_reducible rfl))
              try simp only [Act.put, List.setIfInBounds_toArray, List.set_cons_zero, List.set_cons_succ]
              refine wpAnyH_ready (rs := [18]) (by kernel_rfl) (by simp) ?_
              refine AllReadyH.cons (o := { dst := none, op := Op.store 34 (Operand.tmp 70) (Operand.tmp 69), type := 0, pos := "law.go:473", after := #[{ on := 17, ground := Ground.data }, { on := 16, ground := Ground.data }, { on := 16, ground := Ground.chain }, { on := 0, ground := Ground.phase }, { on := 1, ground := Ground.phase }, { on := 2, ground := Ground.phase }, { on := 3, ground := Ground.phase }, { on := 4, ground := Ground.phase }, { on := 5, ground := Ground.phase }, { on := 6, ground := Ground.phase }, { on := 7, ground := Ground.phase }, { on := 8, ground := Ground.phase }, { on := 9, ground := Ground.phase }, { on := 10, ground := Ground.phase }, { on := 11, ground := Ground.phase }, { on := 12, ground := Ground.phase }, { on := 13, ground := Ground.phase }, { on := 14, ground := Ground.phase }, { on := 15, ground := Ground.phase }, { on := 16, ground := Ground.phase }], guard := none }) rfl (fun K hK => ?_) ?_
              · go_simp
                refine hK.out _ _ ?_ (fun hHeld => ?_)
                · (try dsimp only); (first | assumption | exact kc7 | exact cell_blk (HBX.out _ HP8.out.below) (i := 7) rfl | exact cell_blk (HBX.out _ (HK4.out.alloc _).below) (i := 7) rfl | exact HKB.out)
                clear hK K
                try simp only [Act.put, List.setIfInBounds_toArray, List.set_cons_zero, List.set_cons_succ]
                refine wpAnyH_done (by kernel_rfl) ?_ _
                go_wp2
                go_roundg gh
                case measure => omega
                case rel => exact ⟨k + 1, by go_num, by omega, Lib.hid ⟨gg, cap, _, HP8.out, by rw [List.map_append, HES'.out, List.replicate_succ', List.append_assoc]; rfl, by rw [List.length_append, HEL.out]; rfl⟩⟩
              exact AllReadyH.nil
            exact AllReadyH.nil
          exact AllReadyH.nil
        exact AllReadyH.nil
      refine AllReadyH.cons (o := { dst := some 55, op := Op.call { callee := Callee.value (Operand.func 40), args := #[Operand.const (Value.int IntKind.i64 0)], argTypes := #[3] }, type := 27, pos := "law.go:473", after := #[], guard := none }) rfl (fun K hK => ?_) ?_
      · (refine step_call rfl 40 _ _ (by rfl) (enters_of Tryz.func40 (by kernel_rfl) rfl) [.int .i64 0] (by rfl) (fun u w' => u = .agg #[.int .i64 2, .int .i64 0, .int .i32 0] ∧ LX W3 b9 n9 g s (r + n0) (sl + n1) (p + m2) (.slice A5 c.q.length p5) (.slice A6 c.l.length p6) (.slice (some ⟨gB, 0, none⟩) (nb + k) cB) c.q c.l es' w') ((Reg_any _ _).mono fun e w' he => ⟨_, he.1, rfl, HLD.out.on he.2⟩) ?_; rintro u W4 ⟨rfl, h4⟩; have c74 := h4.c7; have kc74 : W4.cell? ⟨b8, 7, none⟩ = some (.slice a.a3 nb a.c3) := cell_blk (HBX.out _ h4.below) (i := 7) rfl; have ca74 := h4.alloc (.cells #[.slice none 0 0, .int .i64 2, .int .i64 0, .int .i64 0, .int .i64 0, .int .i32 0, .int .i64 2, .int .i64 0, .int .i32 0, .int .i64 0, .int .i64 0, .int .i32 0, .int .i64 x0, .int .i64 (nb : Int)] 55); have cb74 := ca74.c7; clear ca74; have HK4 := Lib.hid h4; clear h4)
        refine hK.out _ _ ?_ (fun hHeld => ?_)
        · (try dsimp only); (first | assumption | exact kc7 | exact cell_blk (HBX.out _ HP8.out.below) (i := 7) rfl | exact cell_blk (HBX.out _ (HK4.out.alloc _).below) (i := 7) rfl | exact HKB.out)
        clear hK K
        try simp only [Act.put, List.setIfInBounds_toArray, List.set_cons_zero, List.set_cons_succ]
        refine wpAnyH_take (i := 13) (oi := { dst := some 66, op := Op.build 53 #[(0, Operand.const (Value.int IntKind.i64 2)), (3, Operand.tmp 55), (5, Operand.tmp 65)], type := 53, pos := "law.go:473", after := #[{ on := 2, ground := Ground.data }, { on := 12, ground := Ground.data }], guard := none }) (v := ?_) rfl (by kernel_rfl) (by kernel_rfl) (by kernel_rfl) (fun _ _ _ h => h) (Or.inl ⟨by kernel_rfl, ?_⟩) (by assumption) ?_
        rotate_left
        · (intro w hSw; (try dsimp only at hSw); go_simp; (try with_reducible rfl))
        try simp only [Act.put, List.setIfInBounds_toArray, List.set_cons_zero, List.set_cons_succ]
        refine wpAnyH_take (i := 14) (oi := { dst := some 67, op := Op.build 55 #[(1, Operand.tmp 66)], type := 55, pos := "law.go:473", after := #[{ on := 13, ground := Ground.data }], guard := none }) (v := ?_) rfl (by kernel_rfl) (by kernel_rfl) (by kernel_rfl) (fun _ _ _ h => h) (Or.inl ⟨by kernel_rfl, ?_⟩) (by assumption) ?_
        rotate_left
        · (intro w hSw; (try dsimp only at hSw); go_simp; (try with_reducible rfl))
        try simp only [Act.put, List.setIfInBounds_toArray, List.set_cons_zero, List.set_cons_succ]
        refine wpAnyH_ready (rs := [1, 15]) (by kernel_rfl) (by simp) ?_
        refine AllReadyH.cons (o := { dst := some 54, op := Op.load 34 (Operand.tmp 53), type := 34, pos := "law.go:473", after := #[{ on := 0, ground := Ground.data }], guard := none }) rfl (fun K hK => ?_) ?_
        · go_simp
          refine hK.out _ _ ?_ (fun hHeld => ?_)
          · (try dsimp only); (first | assumption | exact kc7 | exact cell_blk (HBX.out _ HP8.out.below) (i := 7) rfl | exact cell_blk (HBX.out _ (HK4.out.alloc _).below) (i := 7) rfl | exact HKB.out)
          clear hK K
          try simp only [Act.put, List.setIfInBounds_toArray, List.set_cons_zero, List.set_cons_succ]
          refine wpAnyH_ready (rs := [15]) (by kernel_rfl) (by simp) ?_
          refine AllReadyH.cons (o := { dst := some 68, op := Op.buildSlice 34 1 #[(0, Operand.tmp 67)], type := 34, pos := "law.go:473", after := #[{ on := 14, ground := Ground.data }], guard := none }) rfl (fun K hK => ?_) ?_
          · go_simp
            refine hK.out _ _ ?_ (fun hHeld => ?_)
            · (try dsimp only); (first | assumption | exact kc7 | exact cell_blk (HBX.out _ HP8.out.below) (i := 7) rfl | exact cell_blk (HBX.out _ (HK4.out.alloc _).below) (i := 7) rfl | exact HKB.out)
            clear hK K
            try simp only [Act.put, List.setIfInBounds_toArray, List.set_cons_zero, List.set_cons_succ]
            refine wpAnyH_ready (rs := [16]) (by kernel_rfl) (by simp) ?_
            refine AllReadyH.cons (o := { dst := some 69, op := Op.call { callee := Callee.builtin Builtin.append, args := #[Operand.tmp 54, Operand.tmp 68], argTypes := #[34, 34] }, type := 34, pos := "law.go:473", after := #[{ on := 1, ground := Ground.data }, { on := 15, ground := Ground.data }, { on := 2, ground := Ground.chain }], guard := none }) rfl (fun K hK => ?_) ?_
            · (refine step_append_own rfl _ _ 34 (by rfl) n9 55 iB _ 14 128 Tryz.underlying34 hB hB0' hB1 hB2 rfl (by decide) (.slice (some ⟨gB, 0, none⟩) (nb + k) cB) (nb + k) (flatB es') (by rfl) (HROW.out W4 (HK4.out) (.cells #[.slice none 0 0, .int .i64 2, .int .i64 0, .int .i64 0, .int .i64 0, .int .i32 0, .int .i64 2, .int .i64 0, .int .i32 0, .int .i64 0, .int .i64 0, .int .i32 0, .int .i64 x0, .int .i64 (nb : Int)] 55)) ⟨W4.heap.size, 0, none⟩ 1 1 (blC (.slice none 0 0, [], extT x0 (nb : Int))) (by rfl) (by rfl) (row_new W4 #[.slice none 0 0, .int .i64 2, .int .i64 0, .int .i64 0, .int .i64 0, .int .i32 0, .int .i64 2, .int .i64 0, .int .i32 0, .int .i64 0, .int .i64 0, .int .i32 0, .int .i64 x0, .int .i64 (nb : Int)] 55) (by simp [blC, TermV.cells, extT, noOpd, Value.oneCell']) (by unfold maxLen; omega) (by omega) (HK4.out.alloc _).hn.2.2 ?_; intro v' w8 hown' hgrow _; obtain ⟨gg, cap, rfl, _, _⟩ := hown'.form (by omega); obtain ⟨hbx, hbw, _⟩ := (HK4.out.alloc _).boxg (HROW.out W4 (HK4.out) _) hgrow (by decide); have HKB := Lib.hid (cell_blk (HBX.out _ hbw) (i := 7) rfl); have ff := LX.fr' hbx 7; have fc := (LX.ck' hbx).2; have HP8 := Lib.hid ((HK4.out.alloc _).push7 (x := (.slice none 0 0, [], extT x0 (nb : Int))) ⟨rfl, rfl⟩ (by rw [HEL.out]; exact hown') hgrow); clear hown' hgrow hbx hbw)
              refine hK.out _ _ ?_ (fun hHeld => ?_)
              · (try dsimp only); (first | assumption | exact kc7 | exact cell_blk (HBX.out _ HP8.out.below) (i := 7) rfl | exact cell_blk (HBX.out _ (HK4.out.alloc _).below) (i := 7) rfl | exact HKB.out)
              clear hK K
              try simp only [Act.put, List.setIfInBounds_toArray, List.set_cons_zero, List.set_cons_succ]
              refine wpAnyH_take (i := 17) (oi := { dst := some 70, op := Op.fieldAddr 36 (Operand.tmp 9) 7, type := 0, pos := "law.go:473", after := #[{ on := 0, ground := Ground.phase }, { on := 1, ground := Ground.phase }, { on := 2, ground := Ground.phase }, { on := 3, ground := Ground.phase }, { on := 4, ground := Ground.phase }, { on := 5, ground := Ground.phase }, { on := 6, ground := Ground.phase }, { on := 7, ground := Ground.phase }, { on := 8, ground := Ground.phase }, { on := 9, ground := Ground.phase }, { on := 10, ground := Ground.phase }, { on := 11, ground := Ground.phase }, { on := 12, ground := Ground.phase }, { on := 13, ground := Ground.phase }, { on := 14, ground := Ground.phase }, { on := 15, ground := Ground.phase }, { on := 16, ground := Ground.phase }], guard := none }) (v := ?_) rfl (by kernel_rfl) (by kernel_rfl) (by kernel_rfl) (fun _ _ _ h => h) (Or.inl ⟨by kernel_rfl, ?_⟩) (by assumption) ?_
              rotate_left
              · (intro w hSw; (try dsimp only at hSw); go_simp; (try with_reducible rfl))
              try simp only [Act.put, List.setIfInBounds_toArray, List.set_cons_zero, List.set_cons_succ]
              refine wpAnyH_ready (rs := [18]) (by kernel_rfl) (by simp) ?_
              refine AllReadyH.cons (o := { dst := none, op := Op.store 34 (Operand.tmp 70) (Operand.tmp 69), type := 0, pos := "law.go:473", after := #[{ on := 17, ground := Ground.data }, { on := 16, ground := Ground.data }, { on := 16, ground := Ground.chain }, { on := 0, ground := Ground.phase }, { on := 1, ground := Ground.phase }, { on := 2, ground := Ground.phase }, { on := 3, ground := Ground.phase }, { on := 4, ground := Ground.phase }, { on := 5, ground := Ground.phase }, { on := 6, ground := Ground.phase }, { on := 7, ground := Ground.phase }, { on := 8, ground := Ground.phase }, { on := 9, ground := Ground.phase }, { on := 10, ground := Ground.phase }, { on := 11, ground := Ground.phase }, { on := 12, ground := Ground.phase }, { on := 13, ground := Ground.phase }, { on := 14, ground := Ground.phase }, { on := 15, ground := Ground.phase }, { on := 16, ground := Ground.phase }], guard := none }) rfl (fun K hK => ?_) ?_
              · go_simp
                refine hK.out _ _ ?_ (fun hHeld => ?_)
                · (try dsimp only); (first | assumption | exact kc7 | exact cell_blk (HBX.out _ HP8.out.below) (i := 7) rfl | exact cell_blk (HBX.out _ (HK4.out.alloc _).below) (i := 7) rfl | exact HKB.out)
                clear hK K
                try simp only [Act.put, List.setIfInBounds_toArray, List.set_cons_zero, List.set_cons_succ]
                refine wpAnyH_done (by kernel_rfl) ?_ _
                go_wp2
                go_roundg gh
                case measure => omega
                case rel => exact ⟨k + 1, by go_num, by omega, Lib.hid ⟨gg, cap, _, HP8.out, by rw [List.map_append, HES'.out, List.replicate_succ', List.append_assoc]; rfl, by rw [List.length_append, HEL.out]; rfl⟩⟩
              exact AllReadyH.nil
            exact AllReadyH.nil
          exact AllReadyH.nil
        refine AllReadyH.cons (o := { dst := some 68, op := Op.buildSlice 34 1 #[(0, Operand.tmp 67)], type := 34, pos := "law.go:473", after := #[{ on := 14, ground := Ground.data }], guard := none }) rfl (fun K hK => ?_) ?_
        · go_simp
          refine hK.out _ _ ?_ (fun hHeld => ?_)
          · (try dsimp only); (first | assumption | exact kc7 | exact cell_blk (HBX.out _ HP8.out.below) (i := 7) rfl | exact cell_blk (HBX.out _ (HK4.out.alloc _).below) (i := 7) rfl | exact HKB.out)
          clear hK K
          try simp only [Act.put, List.setIfInBounds_toArray, List.set_cons_zero, List.set_cons_succ]
          refine wpAnyH_ready (rs := [1]) (by kernel_rfl) (by simp) ?_
          refine AllReadyH.cons (o := { dst := some 54, op := Op.load 34 (Operand.tmp 53), type := 34, pos := "law.go:473", after := #[{ on := 0, ground := Ground.data }], guard := none }) rfl (fun K hK => ?_) ?_
          · go_simp
            refine hK.out _ _ ?_ (fun hHeld => ?_)
            · (try dsimp only); (first | assumption | exact kc7 | exact cell_blk (HBX.out _ HP8.out.below) (i := 7) rfl | exact cell_blk (HBX.out _ (HK4.out.alloc _).below) (i := 7) rfl | exact HKB.out)
            clear hK K
            try simp only [Act.put, List.setIfInBounds_toArray, List.set_cons_zero, List.set_cons_succ]
            refine wpAnyH_ready (rs := [16]) (by kernel_rfl) (by simp) ?_
            refine AllReadyH.cons (o := { dst := some 69, op := Op.call { callee := Callee.builtin Builtin.append, args := #[Operand.tmp 54, Operand.tmp 68], argTypes := #[34, 34] }, type := 34, pos := "law.go:473", after := #[{ on := 1, ground := Ground.data }, { on := 15, ground := Ground.data }, { on := 2, ground := Ground.chain }], guard := none }) rfl (fun K hK => ?_) ?_
            · (refine step_append_own rfl _ _ 34 (by rfl) n9 55 iB _ 14 128 Tryz.underlying34 hB hB0' hB1 hB2 rfl (by decide) (.slice (some ⟨gB, 0, none⟩) (nb + k) cB) (nb + k) (flatB es') (by rfl) (HROW.out W4 (HK4.out) (.cells #[.slice none 0 0, .int .i64 2, .int .i64 0, .int .i64 0, .int .i64 0, .int .i32 0, .int .i64 2, .int .i64 0, .int .i32 0, .int .i64 0, .int .i64 0, .int .i32 0, .int .i64 x0, .int .i64 (nb : Int)] 55)) ⟨W4.heap.size, 0, none⟩ 1 1 (blC (.slice none 0 0, [], extT x0 (nb : Int))) (by rfl) (by rfl) (row_new W4 #[.slice none 0 0, .int .i64 2, .int .i64 0, .int .i64 0, .int .i64 0, .int .i32 0, .int .i64 2, .int .i64 0, .int .i32 0, .int .i64 0, .int .i64 0, .int .i32 0, .int .i64 x0, .int .i64 (nb : Int)] 55) (by simp [blC, TermV.cells, extT, noOpd, Value.oneCell']) (by unfold maxLen; omega) (by omega) (HK4.out.alloc _).hn.2.2 ?_; intro v' w8 hown' hgrow _; obtain ⟨gg, cap, rfl, _, _⟩ := hown'.form (by omega); obtain ⟨hbx, hbw, _⟩ := (HK4.out.alloc _).boxg (HROW.out W4 (HK4.out) _) hgrow (by decide); have HKB := Lib.hid (cell_blk (HBX.out _ hbw) (i := 7) rfl); have ff := LX.fr' hbx 7; have fc := (LX.ck' hbx).2; have HP8 := Lib.hid ((HK4.out.alloc _).push7 (x := (.slice none 0 0, [], extT x0 (nb : Int))) ⟨rfl, rfl⟩ (by rw [HEL.out]; exact hown') hgrow); clear hown' hgrow hbx hbw)
              refine hK.out _ _ ?_ (fun hHeld => ?_)
              · (try dsimp only); (first | assumption | exact kc7 | exact cell_blk (HBX.out _ HP8.out.below) (i := 7) rfl | exact cell_blk (HBX.out _ (HK4.out.alloc _).below) (i := 7) rfl | exact HKB.out)
              clear hK K
              try simp only [Act.put, List.setIfInBounds_toArray, List.set_cons_zero, List.set_cons_succ]
              refine wpAnyH_take (i := 17) (oi := { dst := some 70, op := Op.fieldAddr 36 (Operand.tmp 9) 7, type := 0, pos := "law.go:473", after := #[{ on := 0, ground := Ground.phase }, { on := 1, ground := Ground.phase }, { on := 2, ground := Ground.phase }, { on := 3, ground := Ground.phase }, { on := 4, ground := Ground.phase }, { on := 5, ground := Ground.phase }, { on := 6, ground := Ground.phase }, { on := 7, ground := Ground.phase }, { on := 8, ground := Ground.phase }, { on := 9, ground := Ground.phase }, { on := 10, ground := Ground.phase }, { on := 11, ground := Ground.phase }, { on := 12, ground := Ground.phase }, { on := 13, ground := Ground.phase }, { on := 14, ground := Ground.phase }, { on := 15, ground := Ground.phase }, { on := 16, ground := Ground.phase }], guard := none }) (v := ?_) rfl (by kernel_rfl) (by kernel_rfl) (by kernel_rfl) (fun _ _ _ h => h) (Or.inl ⟨by kernel_rfl, ?_⟩) (by assumption) ?_
              rotate_left
              · (intro w hSw; (try dsimp only at hSw); go_simp; (try with_reducible rfl))
              try simp only [Act.put, List.setIfInBounds_toArray, List.set_cons_zero, List.set_cons_succ]
              refine wpAnyH_ready (rs := [18]) (by kernel_rfl) (by simp) ?_
              refine AllReadyH.cons (o := { dst := none, op := Op.store 34 (Operand.tmp 70) (Operand.tmp 69), type := 0, pos := "law.go:473", after := #[{ on := 17, ground := Ground.data }, { on := 16, ground := Ground.data }, { on := 16, ground := Ground.chain }, { on := 0, ground := Ground.phase }, { on := 1, ground := Ground.phase }, { on := 2, ground := Ground.phase }, { on := 3, ground := Ground.phase }, { on := 4, ground := Ground.phase }, { on := 5, ground := Ground.phase }, { on := 6, ground := Ground.phase }, { on := 7, ground := Ground.phase }, { on := 8, ground := Ground.phase }, { on := 9, ground := Ground.phase }, { on := 10, ground := Ground.phase }, { on := 11, ground := Ground.phase }, { on := 12, ground := Ground.phase }, { on := 13, ground := Ground.phase }, { on := 14, ground := Ground.phase }, { on := 15, ground := Ground.phase }, { on := 16, ground := Ground.phase }], guard := none }) rfl (fun K hK => ?_) ?_
              · go_simp
                refine hK.out _ _ ?_ (fun hHeld => ?_)
                · (try dsimp only); (first | assumption | exact kc7 | exact cell_blk (HBX.out _ HP8.out.below) (i := 7) rfl | exact cell_blk (HBX.out _ (HK4.out.alloc _).below) (i := 7) rfl | exact HKB.out)
                clear hK K
                try simp only [Act.put, List.setIfInBounds_toArray, List.set_cons_zero, List.set_cons_succ]
                refine wpAnyH_done (by kernel_rfl) ?_ _
                go_wp2
                go_roundg gh
                case measure => omega
                case rel => exact ⟨k + 1, by go_num, by omega, Lib.hid ⟨gg, cap, _, HP8.out, by rw [List.map_append, HES'.out, List.replicate_succ', List.append_assoc]; rfl, by rw [List.length_append, HEL.out]; rfl⟩⟩
              exact AllReadyH.nil
            exact AllReadyH.nil
          exact AllReadyH.nil
        exact AllReadyH.nil
      exact AllReadyH.nil
end Go.Proofs.YtkncilgmlkeifaaGreatDoor
