import Derived.Test.YtkncilgmlkeifaaGreatDoorHas
import Derived.Deep.RegionHeld3
import Derived.Test.YtkncilgmlkeifaaGreatDoorBase
import Derived.Test.YtkncilgmlkeifaaGreatDoorAll
/-
  Package code: the contracts of isInst, isEnd.
-/
set_option linter.unusedVariables false
set_option linter.unusedSimpArgs false
set_option maxRecDepth 100000
set_option maxHeartbeats 8000000
namespace Go.Proofs.YtkncilgmlkeifaaGreatDoor
open Go.ChangeShapes Go.WideShapes Go.ChangeAt Go.RowKit Go.Shelf
structure IsK (w : World) (T : TypeId) (K I : Array Value) (wx : World) : Prop where
 on : Below (w.heap.size + 2) ((w.alloc (.cells K 110)).alloc (.cells I T)) wx
section
variable {w wx : World} {T : TypeId} {K I : Array Value}
theorem IsK.start : IsK w T K I ((w.alloc (.cells K 110)).alloc (.cells I T)) := ⟨Below.refl _ _⟩
theorem IsK.size (h : IsK w T K I wx) : w.heap.size + 2 <= wx.heap.size := by
 have := h.on.size
 simp only [World.size_alloc] at this
 omega
theorem IsK.step {w' : World} (h : IsK w T K I wx) (hb : Below wx.heap.size wx w') : IsK w T K I w' := ⟨h.on.trans (hb.mono h.size)⟩
theorem IsK.drew (h : IsK w T K I wx) : IsK w T K I wx.drew := ⟨h.on.drew⟩
theorem IsK.below (h : IsK w T K I wx) : Below w.heap.size w wx := (((Below.refl _ _).alloc (Nat.le_refl _) _).alloc (by simp) _).trans (h.on.mono (by omega))
theorem IsK.ck (h : IsK w T K I wx) (o : Nat) : wx.cell? ⟨w.heap.size, o, none⟩ = K[o]? := by
 rw [h.on.cell (p := ⟨w.heap.size, o, none⟩) (by simp), World.cell?_alloc_lt _ _ _ (by simp), World.cell?_alloc_at _ _ _ _ rfl]
theorem IsK.ci (h : IsK w T K I wx) (o : Nat) : wx.cell? ⟨w.heap.size + 1, o, none⟩ = I[o]? := by
 rw [h.on.cell (p := ⟨w.heap.size + 1, o, none⟩) (by simp), World.cell?_alloc_at _ _ _ _ (by simp)]
end
theorem RAr.at {w W : World} {A : Option Addr} {n : Nat} {nm : Nat -> ByteArray} {sp ty ln : Nat -> Int} (h : RAr w w.heap.size A n nm sp ty ln) (hW : Below w.heap.size w W) : RAr W W.heap.size A n nm sp ty ln := fun hn => by
 obtain ⟨b, off, e, hlt, hc⟩ := (h.below hW) hn
 exact ⟨b, off, e, by have := hW.size; omega, hc⟩
def instOK (op : Int) : Bool := decide (1 <= op /\ op <= 12)
def endOK (k : Int) : Bool := decide (1 <= k /\ k <= 5)
theorem instF_good {op : Int} (h : instOK op = true) : (instF op).Good := by
 have h1 : 1 <= op /\ op <= 12 := by simpa [instOK] using h
 have hop : op = 1 \/ op = 2 \/ op = 3 \/ op = 4 \/ op = 5 \/ op = 6 \/ op = 7 \/ op = 8 \/ op = 9 \/ op = 10 \/ op = 11 \/ op = 12 := by omega
 rcases hop with rfl | rfl | rfl | rfl | rfl | rfl | rfl | rfl | rfl | rfl | rfl | rfl <;> exact ⟨by decide, by decide, by decide, by decide⟩
theorem instF_no {op : Int} (h : instOK op = false) : instF op = noForm := by
 have h1 : ¬ (1 <= op /\ op <= 12) := by simpa [instOK] using h
 unfold instF
 rw [if_neg (by omega), if_neg (by omega), if_neg (by omega), if_neg (by omega), if_neg (by omega), if_neg (by omega), if_neg (by omega), if_neg (by omega), if_neg (by omega), if_neg (by omega), if_neg (by omega), if_neg (by omega)]
theorem endF_good {op : Int} (h : endOK op = true) : (endF op).Good := by
 have h1 : 1 <= op /\ op <= 5 := by simpa [endOK] using h
 have hop : op = 1 \/ op = 2 \/ op = 3 \/ op = 4 \/ op = 5 := by omega
 rcases hop with rfl | rfl | rfl | rfl | rfl <;> exact ⟨by decide, by decide, by decide, by decide⟩
theorem endF_no {op : Int} (h : endOK op = false) : endF op = noForm := by
 have h1 : ¬ (1 <= op /\ op <= 5) := by simpa [endOK] using h
 unfold endF
 rw [if_neg (by omega), if_neg (by omega), if_neg (by omega), if_neg (by omega), if_neg (by omega)]
section
variable (g s r sl p : Int) (n1 c1 n2 c2 n3 c3 : Nat) (A1 A2 A3 : Option Addr) (nm : Nat -> ByteArray) (sp ty ln : Nat -> Int)
theorem has_no (q : PartV) (w : World) :
 Calls Tryz.prog 147 #[.agg #[g, s, r, sl, p, .slice A1 n1 c1, .slice A2 n2 c2, .slice A3 n3 c3], noForm.val, q.val] w fun e w' => e = .returned (.bool false) /\ Below w.heap.size w w' := by
 obtain ⟨qs, qn, ⟨qdk, qdn, qdv⟩, ⟨qak, qan, qav⟩, ⟨qbk, qbn, qbv⟩, ⟨qck, qcn, qcv⟩, qt0, qt1⟩ := q
 simp only [FormV.val, noForm, PartV.val]
 go_enter Tryz.func147, Tryz.ntmps147
 go_wp2
 go_ret
 exact ⟨rfl, (((Below.refl _ _).alloc (Nat.le_refl _) _).alloc (by simp) _).alloc (by simp; omega) _⟩
def instB (p sl r : Int) (n1 n3 : Nat) (sp : Nat -> Int) (i : InstV) : Bool := instOK i.op && hasV p sl r n1 n3 sp (instF i.op) i.parts
def endB (p sl r : Int) (n1 n3 : Nat) (sp : Nat -> Int) (t : TermV) : Bool := endOK t.kind && hasV p sl r n1 n3 sp (endF t.kind) t.parts
theorem isInst_any_has (i : InstV) (w : World) (hr : RAr w w.heap.size A1 n1 nm sp ty ln) (r0 : 0 <= r) (r1 : r <= 9223372036854775807) (p0 : 0 <= p) (p1 : p <= 9223372036854775807) (s0 : 0 <= sl) (s1 : sl <= 9223372036854775807) (hn1 : n1 <= 65536) (hn3 : n3 <= 65536) (W : World) (hW : Below w.heap.size w W) :
 Calls Tryz.prog 147 #[.agg #[g, s, r, sl, p, .slice A1 n1 c1, .slice A2 n2 c2, .slice A3 n3 c3], (instF i.op).val, i.parts.val] W fun e w' => e = .returned (.bool (instB p sl r n1 n3 sp i)) /\ Below W.heap.size W w' := by
 cases h : instOK i.op
 . unfold instB
   rw [h, instF_no h, Bool.false_and]
   exact has_no g s r sl p n1 c1 n2 c2 n3 c3 A1 A2 A3 _ W
 . unfold instB
   rw [h, Bool.true_and]
   exact has_any g s r sl p n1 c1 n2 c2 n3 c3 A1 A2 A3 nm sp ty ln _ _ W (instF_good h) (hr.at hW) r0 r1 p0 p1 s0 s1 hn1 hn3
theorem isInst_any (i : InstV) (w : World) (hr : RAr w w.heap.size A1 n1 nm sp ty ln) (r0 : 0 <= r) (r1 : r <= 9223372036854775807) (p0 : 0 <= p) (p1 : p <= 9223372036854775807) (s0 : 0 <= sl) (s1 : sl <= 9223372036854775807) (hn1 : n1 <= 65536) (hn3 : n3 <= 65536) :
 Calls Tryz.prog 131 #[.agg #[g, s, r, sl, p, .slice A1 n1 c1, .slice A2 n2 c2, .slice A3 n3 c3], i.val] w fun e w' => e = .returned (.bool (instB p sl r n1 n3 sp i)) /\ Below w.heap.size w w' := by
 have HH := lh (isInst_any_has g s r sl p n1 c1 n2 c2 n3 c3 A1 A2 A3 nm sp ty ln i w hr r0 r1 p0 p1 s0 s1 hn1 hn3)
 have HF := lh (fun (W : World) => instForm_any i.op W)
 have HP := lh (fun (W : World) => instParts_any i W)
 obtain ⟨bb, hbb⟩ : ∃ bb, instB p sl r n1 n3 sp i = bb := ⟨_, rfl⟩
 rw [hbb] at HH ⊢
 obtain ⟨ff, hff⟩ : ∃ ff, instF i.op = ff := ⟨_, rfl⟩
 rw [hff] at HH HF
 obtain ⟨pp, hpp⟩ : ∃ pp, i.parts = pp := ⟨_, rfl⟩
 rw [hpp] at HH HP
 clear hbb hff hpp hr
 obtain ⟨fw, fs, ft, fd, fa, fb, fc, fg⟩ := ff
 obtain ⟨rs, rn, ⟨rdk, rdn, rdv⟩, ⟨rak, ran, rav⟩, ⟨rbk, rbn, rbv⟩, ⟨rck, rcn, rcv⟩, rt0, rt1⟩ := pp
 obtain ⟨op, sub, n, ⟨dk, dn, dv⟩, ⟨ak, an, av⟩, ⟨bk, bn, bv⟩, ⟨ck, cn, cv⟩⟩ := i
 simp only [InstV.val, FormV.val, PartV.val] at HH HF HP ⊢
 have HB0 := lh (IsK.start (w := w) (T := 61) (K := #[g, s, r, sl, p, .slice A1 n1 c1, .slice A2 n2 c2, .slice A3 n3 c3]) (I := #[op, sub, n, dk, dn, .int .i32 dv, ak, an, .int .i32 av, bk, bn, .int .i32 bv, ck, cn, .int .i32 cv])).drew
 have HX := HB0
 go_enter Tryz.func131, Tryz.ntmps131
 go_wp2
 go_region_held3 (fun w' => (∀ o : Nat, w'.cell? ⟨w.heap.size, o, none⟩ = (#[g, s, r, sl, p, .slice A1 n1 c1, .slice A2 n2 c2, .slice A3 n3 c3] : Array Value)[o]?) /\ (∀ o : Nat, w'.cell? ⟨w.heap.size + 1, o, none⟩ = (#[op, sub, n, dk, dn, .int .i32 dv, ak, an, .int .i32 av, bk, bn, .int .i32 bv, ck, cn, .int .i32 cv] : Array Value)[o]?) /\ IsK w 61 #[g, s, r, sl, p, .slice A1 n1 c1, .slice A2 n2 c2, .slice A3 n3 c3] #[op, sub, n, dk, dn, .int .i32 dv, ak, an, .int .i32 av, bk, bn, .int .i32 bv, ck, cn, .int .i32 cv] w') (exact ⟨HX.out.ck, HX.out.ci, HX.out⟩)
  (((first | go_at_call 87 | go_at_call 88 | go_at_call 147); (with_reducible first | refine (HF.out _).mono ?_ | refine (HP.out _).mono ?_ | refine (HH.out _ (‹_ /\ _ /\ IsK w 61 #[g, s, r, sl, p, .slice A1 n1 c1, .slice A2 n2 c2, .slice A3 n3 c3] #[op, sub, n, dk, dn, .int .i32 dv, ak, an, .int .i32 av, bk, bn, .int .i32 bv, ck, cn, .int .i32 cv] _›).2.2.below).mono ?_); rintro e w1 ⟨rfl, hb1⟩; have HX := lh ((‹_ /\ _ /\ IsK w 61 #[g, s, r, sl, p, .slice A1 n1 c1, .slice A2 n2 c2, .slice A3 n3 c3] #[op, sub, n, dk, dn, .int .i32 dv, ak, an, .int .i32 av, bk, bn, .int .i32 bv, ck, cn, .int .i32 cv] _›).2.2.step hb1); clear hb1))
 all_goals
  go_wp2
  go_ret
  exact ⟨rfl, (‹_ /\ _ /\ IsK w 61 #[g, s, r, sl, p, .slice A1 n1 c1, .slice A2 n2 c2, .slice A3 n3 c3] #[op, sub, n, dk, dn, .int .i32 dv, ak, an, .int .i32 av, bk, bn, .int .i32 bv, ck, cn, .int .i32 cv] _›).2.2.below⟩
theorem isEnd_any_has (t : TermV) (w : World) (hr : RAr w w.heap.size A1 n1 nm sp ty ln) (r0 : 0 <= r) (r1 : r <= 9223372036854775807) (p0 : 0 <= p) (p1 : p <= 9223372036854775807) (s0 : 0 <= sl) (s1 : sl <= 9223372036854775807) (hn1 : n1 <= 65536) (hn3 : n3 <= 65536) (W : World) (hW : Below w.heap.size w W) :
 Calls Tryz.prog 147 #[.agg #[g, s, r, sl, p, .slice A1 n1 c1, .slice A2 n2 c2, .slice A3 n3 c3], (endF t.kind).val, t.parts.val] W fun e w' => e = .returned (.bool (endB p sl r n1 n3 sp t)) /\ Below W.heap.size W w' := by
 cases h : endOK t.kind
 . unfold endB
   rw [h, endF_no h, Bool.false_and]
   exact has_no g s r sl p n1 c1 n2 c2 n3 c3 A1 A2 A3 _ W
 . unfold endB
   rw [h, Bool.true_and]
   exact has_any g s r sl p n1 c1 n2 c2 n3 c3 A1 A2 A3 nm sp ty ln _ _ W (endF_good h) (hr.at hW) r0 r1 p0 p1 s0 s1 hn1 hn3
theorem isEnd_any (t : TermV) (w : World) (hr : RAr w w.heap.size A1 n1 nm sp ty ln) (r0 : 0 <= r) (r1 : r <= 9223372036854775807) (p0 : 0 <= p) (p1 : p <= 9223372036854775807) (s0 : 0 <= sl) (s1 : sl <= 9223372036854775807) (hn1 : n1 <= 65536) (hn3 : n3 <= 65536) :
 Calls Tryz.prog 132 #[.agg #[g, s, r, sl, p, .slice A1 n1 c1, .slice A2 n2 c2, .slice A3 n3 c3], t.val] w fun e w' => e = .returned (.bool (endB p sl r n1 n3 sp t)) /\ Below w.heap.size w w' := by
 have HH := lh (isEnd_any_has g s r sl p n1 c1 n2 c2 n3 c3 A1 A2 A3 nm sp ty ln t w hr r0 r1 p0 p1 s0 s1 hn1 hn3)
 have HF := lh (fun (W : World) => endForm_any t.kind W)
 have HP := lh (fun (W : World) => endParts_any t W)
 obtain ⟨bb, hbb⟩ : ∃ bb, endB p sl r n1 n3 sp t = bb := ⟨_, rfl⟩
 rw [hbb] at HH ⊢
 obtain ⟨ff, hff⟩ : ∃ ff, endF t.kind = ff := ⟨_, rfl⟩
 rw [hff] at HH HF
 obtain ⟨pp, hpp⟩ : ∃ pp, t.parts = pp := ⟨_, rfl⟩
 rw [hpp] at HH HP
 clear hbb hff hpp hr
 obtain ⟨fw, fs, ft, fd, fa, fb, fc, fg⟩ := ff
 obtain ⟨rs, rn, ⟨rdk, rdn, rdv⟩, ⟨rak, ran, rav⟩, ⟨rbk, rbn, rbv⟩, ⟨rck, rcn, rcv⟩, rt0, rt1⟩ := pp
 obtain ⟨kind, sub, ⟨dk, dn, dv⟩, ⟨ak, an, av⟩, ⟨bk, bn, bv⟩, t0, t1⟩ := t
 simp only [TermV.val, FormV.val, PartV.val] at HH HF HP ⊢
 have HB0 := lh (IsK.start (w := w) (T := 53) (K := #[g, s, r, sl, p, .slice A1 n1 c1, .slice A2 n2 c2, .slice A3 n3 c3]) (I := #[kind, sub, dk, dn, .int .i32 dv, ak, an, .int .i32 av, bk, bn, .int .i32 bv, t0, t1])).drew
 have HX := HB0
 go_enter Tryz.func132, Tryz.ntmps132
 go_wp2
 go_region_held3 (fun w' => (∀ o : Nat, w'.cell? ⟨w.heap.size, o, none⟩ = (#[g, s, r, sl, p, .slice A1 n1 c1, .slice A2 n2 c2, .slice A3 n3 c3] : Array Value)[o]?) /\ (∀ o : Nat, w'.cell? ⟨w.heap.size + 1, o, none⟩ = (#[kind, sub, dk, dn, .int .i32 dv, ak, an, .int .i32 av, bk, bn, .int .i32 bv, t0, t1] : Array Value)[o]?) /\ IsK w 53 #[g, s, r, sl, p, .slice A1 n1 c1, .slice A2 n2 c2, .slice A3 n3 c3] #[kind, sub, dk, dn, .int .i32 dv, ak, an, .int .i32 av, bk, bn, .int .i32 bv, t0, t1] w') (exact ⟨HX.out.ck, HX.out.ci, HX.out⟩)
  (((first | go_at_call 58 | go_at_call 89 | go_at_call 147); (with_reducible first | refine (HF.out _).mono ?_ | refine (HP.out _).mono ?_ | refine (HH.out _ (‹_ /\ _ /\ IsK w 53 #[g, s, r, sl, p, .slice A1 n1 c1, .slice A2 n2 c2, .slice A3 n3 c3] #[kind, sub, dk, dn, .int .i32 dv, ak, an, .int .i32 av, bk, bn, .int .i32 bv, t0, t1] _›).2.2.below).mono ?_); rintro e w1 ⟨rfl, hb1⟩; have HX := lh ((‹_ /\ _ /\ IsK w 53 #[g, s, r, sl, p, .slice A1 n1 c1, .slice A2 n2 c2, .slice A3 n3 c3] #[kind, sub, dk, dn, .int .i32 dv, ak, an, .int .i32 av, bk, bn, .int .i32 bv, t0, t1] _›).2.2.step hb1); clear hb1))
 all_goals
  go_wp2
  go_ret
  exact ⟨rfl, (‹_ /\ _ /\ IsK w 53 #[g, s, r, sl, p, .slice A1 n1 c1, .slice A2 n2 c2, .slice A3 n3 c3] #[kind, sub, dk, dn, .int .i32 dv, ak, an, .int .i32 av, bk, bn, .int .i32 bv, t0, t1] _›).2.2.below⟩
end
end Go.Proofs.YtkncilgmlkeifaaGreatDoor
/-
  Package code: the contract of sized.
-/
namespace Go.Proofs.YtkncilgmlkeifaaGreatDoor
open Go.ChangeShapes Go.WideShapes Go.ChangeAt Go.RowKit
section
variable (g s r sl p : Int) (n1 c1 n2 c2 n3 c3 : Nat) (A1 A2 A3 : Option Addr)
def sizB (g s r sl p : Int) : Bool := wthB g 1 256 && (wthB s 1 32 && ((bits BinOp.and IntKind.i64 s (s - 1) == 0) && ((g % s == 0) && (decide (0 <= r) && (decide (0 <= sl) && decide (0 <= p))))))
theorem sized_any (w : World) :
 Calls Tryz.prog 95 #[.agg #[g, s, r, sl, p, .slice A1 n1 c1, .slice A2 n2 c2, .slice A3 n3 c3]] w fun e w' => e = .returned (.bool (sizB g s r sl p)) /\ Below w.heap.size w w' := by
 have hb : ∀ o, Below w.heap.size w (w.alloc o) := fun o => (Below.refl _ _).alloc (Nat.le_refl _) o
 have HB := lh hb
 have H1 := fun W => within_any g 1 256 W
 have H2 := fun W => within_any s 1 32 W
 clear hb
 unfold sizB
 cases h : wthB g 1 256
 . rw [h] at H1; rw [Bool.false_and]
   have G1 := lh H1; clear H1 H2 h
   go_enter Tryz.func95, Tryz.ntmps95
   go_wp2_with (go_at_call 56; (with_reducible refine (G1.out _).mono ?_); rintro e w' ⟨rfl, rfl⟩)
   go_ret
   exact ⟨rfl, HB.out _⟩
 . have hg := h
   rw [h] at H1; rw [Bool.true_and]
   cases h2 : wthB s 1 32
   . rw [h2] at H2; rw [Bool.false_and]
     have G1 := lh H1; have G2 := lh H2; clear H1 H2 h h2 hg
     go_enter Tryz.func95, Tryz.ntmps95
     go_wp2_with ((go_at_call 56; (with_reducible first | refine (G1.out _).mono ?_ | refine (G2.out _).mono ?_); rintro e w' ⟨rfl, rfl⟩))
     go_ret
     exact ⟨rfl, HB.out _⟩
   . have hs := h2
     rw [h2] at H2; rw [Bool.true_and]
     unfold wthB at hg hs
     simp only [Bool.and_eq_true, decide_eq_true_eq] at hg hs
     obtain ⟨g1, g2⟩ := hg
     obtain ⟨s1, s2⟩ := hs
     have h0 : ¬ s = 0 := by omega
     have G1 := lh H1; have G2 := lh H2; clear H1 H2 h h2
     cases hb : (bits BinOp.and IntKind.i64 s (s - 1) == 0)
     . rw [Bool.false_and]
       go_enter Tryz.func95, Tryz.ntmps95
       go_wp2_with ((go_at_call 56; (with_reducible first | refine (G1.out _).mono ?_ | refine (G2.out _).mono ?_); rintro e w' ⟨rfl, rfl⟩))
       go_ret
       exact ⟨rfl, HB.out _⟩
     . rw [Bool.true_and]
       cases hm : (g % s == 0)
       . rw [Bool.false_and]
         go_enter Tryz.func95, Tryz.ntmps95
         go_wp2_with ((go_at_call 56; (with_reducible first | refine (G1.out _).mono ?_ | refine (G2.out _).mono ?_); rintro e w' ⟨rfl, rfl⟩))
         go_ret
         exact ⟨rfl, HB.out _⟩
       . rw [Bool.true_and]
         by_cases q1 : 0 <= r
         . rw [decide_eq_true q1, Bool.true_and]
           by_cases q2 : 0 <= sl
           . rw [decide_eq_true q2, Bool.true_and]
             go_enter Tryz.func95, Tryz.ntmps95
             go_wp2_with ((go_at_call 56; (with_reducible first | refine (G1.out _).mono ?_ | refine (G2.out _).mono ?_); rintro e w' ⟨rfl, rfl⟩))
             go_ret
             exact ⟨rfl, HB.out _⟩
           . rw [decide_eq_false q2, Bool.false_and]
             go_enter Tryz.func95, Tryz.ntmps95
             go_wp2_with ((go_at_call 56; (with_reducible first | refine (G1.out _).mono ?_ | refine (G2.out _).mono ?_); rintro e w' ⟨rfl, rfl⟩))
             go_ret
             exact ⟨rfl, HB.out _⟩
         . rw [decide_eq_false q1, Bool.false_and]
           go_enter Tryz.func95, Tryz.ntmps95
           go_wp2_with ((go_at_call 56; (with_reducible first | refine (G1.out _).mono ?_ | refine (G2.out _).mono ?_); rintro e w' ⟨rfl, rfl⟩))
           go_ret
           exact ⟨rfl, HB.out _⟩
end
theorem RIn.at {w W : World} {A : Option Addr} {n : Nat} {I : Nat -> InstV} (h : RIn w w.heap.size A n I) (hW : Below w.heap.size w W) : RIn W W.heap.size A n I := fun hn => by
 obtain ⟨b, off, e, hlt, hc⟩ := (h.below hW) hn
 exact ⟨b, off, e, by have := hW.size; omega, hc⟩
theorem RLo.at {w W : World} {A : Option Addr} {n : Nat} {hd rg bd : Nat -> Int} (h : RLo w w.heap.size A n hd rg bd) (hW : Below w.heap.size w W) : RLo W W.heap.size A n hd rg bd := fun hn => by
 obtain ⟨b, off, e, hlt, hc⟩ := (h.below hW) hn
 exact ⟨b, off, e, by have := hW.size; omega, hc⟩
theorem RBl.at {w W : World} {A : Option Addr} {n : Nat} {IA : Nat -> Option Addr} {IL IC : Nat -> Nat} {T : Nat -> TermV} (h : RBl w w.heap.size A n IA IL IC T) (hW : Below w.heap.size w W) : RBl W W.heap.size A n IA IL IC T := fun hn => by
 obtain ⟨b, off, e, hlt, hc⟩ := (h.below hW) hn
 exact ⟨b, off, e, by have := hW.size; omega, hc⟩
structure OneK (w : World) (T : TypeId) (K : Array Value) (wx : World) : Prop where
 on : Below (w.heap.size + 1) (w.alloc (.cells K T)) wx
section
variable {w wx : World} {T : TypeId} {K : Array Value}
theorem OneK.start : OneK w T K (w.alloc (.cells K T)) := ⟨Below.refl _ _⟩
theorem OneK.size (h : OneK w T K wx) : w.heap.size + 1 <= wx.heap.size := by
 have := h.on.size
 simp only [World.size_alloc] at this
 omega
theorem OneK.step {w' : World} (h : OneK w T K wx) (hb : Below wx.heap.size wx w') : OneK w T K w' := ⟨h.on.trans (hb.mono h.size)⟩
theorem OneK.below (h : OneK w T K wx) : Below w.heap.size w wx := ((Below.refl _ _).alloc (Nat.le_refl _) _).trans (h.on.mono (by omega))
theorem OneK.ck (h : OneK w T K wx) (o : Nat) : wx.cell? ⟨w.heap.size, o, none⟩ = K[o]? := by
 rw [h.on.cell (p := ⟨w.heap.size, o, none⟩) (by simp), World.cell?_alloc_at _ _ _ _ rfl]
end
section
variable (g s r sl p : Int) (n1 c1 n2 c2 n3 c3 : Nat) (A1 A2 A3 : Option Addr) (nm : Nat -> ByteArray) (sp ty ln : Nat -> Int)
def blockB (p sl r : Int) (n1 n3 : Nat) (sp : Nat -> Int) (n : Nat) (I : Nat -> InstV) (t : TermV) : Bool := ((List.range n).all fun j => instB p sl r n1 n3 sp (I j)) && endB p sl r n1 n3 sp t
theorem isBlock_any (IA : Option Addr) (IL IC : Nat) (I : Nat -> InstV) (t : TermV) (w : World) (hr : RAr w w.heap.size A1 n1 nm sp ty ln) (r0 : 0 <= r) (r1 : r <= 9223372036854775807) (p0 : 0 <= p) (p1 : p <= 9223372036854775807) (s0 : 0 <= sl) (s1 : sl <= 9223372036854775807) (hn1 : n1 <= 65536) (hn3 : n3 <= 65536) (hI : RIn w w.heap.size IA IL I) (hIL : IL <= 65536) :
 Calls Tryz.prog 100 #[.agg #[g, s, r, sl, p, .slice A1 n1 c1, .slice A2 n2 c2, .slice A3 n3 c3], .agg #[.slice IA IL IC, t.kind, t.sub, t.d.k, t.d.n, .int .i32 t.d.v, t.a.k, t.a.n, .int .i32 t.a.v, t.b.k, t.b.n, .int .i32 t.b.v, t.t0, t.t1]] w fun e w' => e = .returned (.bool (blockB p sl r n1 n3 sp IL I t)) /\ Below w.heap.size w w' := by
 have HA := lh (fun (W : World) (hW : IsK w 55 #[g, s, r, sl, p, .slice A1 n1 c1, .slice A2 n2 c2, .slice A3 n3 c3] #[.slice IA IL IC, t.kind, t.sub, t.d.k, t.d.n, .int .i32 t.d.v, t.a.k, t.a.n, .int .i32 t.a.v, t.b.k, t.b.n, .int .i32 t.b.v, t.t0, t.t1] W) => allIn_any IL IC 131 (.agg #[g, s, r, sl, p, .slice A1 n1 c1, .slice A2 n2 c2, .slice A3 n3 c3]) IA I (fun j => instB p sl r n1 n3 sp (I j)) W hIL (hI.at hW.below) (enters_of Tryz.func131 (by kernel_rfl) rfl)
  (fun j V hj hV => isInst_any g s r sl p n1 c1 n2 c2 n3 c3 A1 A2 A3 nm sp ty ln (I j) V (hr.at (hW.below.trans (hV.mono hW.below.size))) r0 r1 p0 p1 s0 s1 hn1 hn3))
 have HE := lh (fun (W : World) (hW : IsK w 55 #[g, s, r, sl, p, .slice A1 n1 c1, .slice A2 n2 c2, .slice A3 n3 c3] #[.slice IA IL IC, t.kind, t.sub, t.d.k, t.d.n, .int .i32 t.d.v, t.a.k, t.a.n, .int .i32 t.a.v, t.b.k, t.b.n, .int .i32 t.b.v, t.t0, t.t1] W) => isEnd_any g s r sl p n1 c1 n2 c2 n3 c3 A1 A2 A3 nm sp ty ln t W (hr.at hW.below) r0 r1 p0 p1 s0 s1 hn1 hn3)
 simp only [TermV.val] at HE
 unfold blockB
 obtain ⟨ba, hba⟩ : ∃ ba, ((List.range IL).all fun j => instB p sl r n1 n3 sp (I j)) = ba := ⟨_, rfl⟩
 rw [hba] at HA ⊢
 obtain ⟨be, hbe⟩ : ∃ be, endB p sl r n1 n3 sp t = be := ⟨_, rfl⟩
 rw [hbe] at HE ⊢
 clear hba hbe hr hI
 have HB := lh (IsK.start (w := w) (T := 55) (K := #[g, s, r, sl, p, .slice A1 n1 c1, .slice A2 n2 c2, .slice A3 n3 c3]) (I := #[.slice IA IL IC, t.kind, t.sub, t.d.k, t.d.n, .int .i32 t.d.v, t.a.k, t.a.n, .int .i32 t.a.v, t.b.k, t.b.n, .int .i32 t.b.v, t.t0, t.t1]))
 cases ba
 . go_enter Tryz.func100, Tryz.ntmps100
   go_wp2_with (first | (go_at_call 130; (with_reducible refine (HA.out _ HB.out).mono ?_); rintro e w1 ⟨rfl, hb1⟩; have HX := lh (HB.out.step hb1); have ck := HX.out.ck; have ci := HX.out.ci; clear hb1))
   go_ret
   exact ⟨rfl, HX.out.below⟩
 . rw [Bool.true_and]
   go_enter Tryz.func100, Tryz.ntmps100
   go_wp2_with (first | (go_at_call 130; (with_reducible refine (HA.out _ HB.out).mono ?_); rintro e w1 ⟨rfl, hb1⟩; have HX := lh (HB.out.step hb1); have ck := HX.out.ck; have ci := HX.out.ci; clear hb1) | (go_at_call 132; (with_reducible refine (HE.out _ HX.out).mono ?_); rintro e w1 ⟨rfl, hb1⟩; have HY := lh (HX.out.step hb1); clear hb1))
   go_ret
   exact ⟨rfl, HY.out.below⟩
variable (hd rg bd : Nat -> Int) (IA : Nat -> Option Addr) (IL IC : Nat -> Nat) (I : Nat -> Nat -> InstV) (T : Nat -> TermV)
structure CodeM (w : World) (B : Nat) : Prop where
 arr : RAr w B A1 n1 nm sp ty ln
 loops : RLo w B A2 n2 hd rg bd
 blocks : RBl w B A3 n3 IA IL IC T
 insts : ∀ j, j < n3 -> RIn w B (IA j) (IL j) (I j)
 lens : ∀ j, j < n3 -> IL j <= 65536
 names : ∀ j, (nm j).size <= 9223372036854775807
theorem CodeM.at {n1 n2 n3 : Nat} {A1 A2 A3 : Option Addr} {nm : Nat -> ByteArray} {sp ty ln hd rg bd : Nat -> Int} {IA : Nat -> Option Addr} {IL IC : Nat -> Nat} {I : Nat -> Nat -> InstV} {T : Nat -> TermV} {w W : World}
 (h : CodeM n1 n2 n3 A1 A2 A3 nm sp ty ln hd rg bd IA IL IC I T w w.heap.size) (hW : Below w.heap.size w W) : CodeM n1 n2 n3 A1 A2 A3 nm sp ty ln hd rg bd IA IL IC I T W W.heap.size :=
 ⟨h.arr.at hW, h.loops.at hW, h.blocks.at hW, fun j hj => (h.insts j hj).at hW, h.lens, h.names⟩
def formB (g s r sl p : Int) (n1 n2 n3 : Nat) (nm : Nat -> ByteArray) (sp ty ln hd rg bd : Nat -> Int) (IL : Nat -> Nat) (I : Nat -> Nat -> InstV) (T : Nat -> TermV) : Bool :=
 sizB g s r sl p && (((List.range n1).all fun j => arrB (nm j) (sp j) (ty j) (ln j)) && (((List.range n2).all fun j => loopB r n3 (hd j) (rg j) (bd j)) && (decide (0 < n3) && (List.range n3).all fun j => blockB p sl r n1 n3 sp (IL j) (I j) (T j))))
theorem sizB_pos {g s r sl p : Int} (h : sizB g s r sl p = true) : 0 <= r /\ 0 <= sl /\ 0 <= p := by
 unfold sizB at h
 simp only [Bool.and_eq_true, decide_eq_true_eq] at h
 exact ⟨h.2.2.2.2.1, h.2.2.2.2.2.1, h.2.2.2.2.2.2⟩
theorem formed_any (w : World) (hc : CodeM n1 n2 n3 A1 A2 A3 nm sp ty ln hd rg bd IA IL IC I T w w.heap.size) (r1 : r <= 9223372036854775807) (p1 : p <= 9223372036854775807) (s1 : sl <= 9223372036854775807) (hn1 : n1 <= 65536) (hn2 : n2 <= 65536) (hn3 : n3 <= 65536) :
 Calls Tryz.prog 55 #[.agg #[g, s, r, sl, p, .slice A1 n1 c1, .slice A2 n2 c2, .slice A3 n3 c3]] w fun e w' => e = .returned (.bool (formB g s r sl p n1 n2 n3 nm sp ty ln hd rg bd IL I T)) /\ Below w.heap.size w w' := by
 have HS := lh (fun (W : World) => sized_any g s r sl p n1 c1 n2 c2 n3 c3 A1 A2 A3 W)
 have HA := lh (fun (W : World) (hW : OneK w 110 #[g, s, r, sl, p, .slice A1 n1 c1, .slice A2 n2 c2, .slice A3 n3 c3] W) => allArr_any n1 c1 96 A1 nm sp ty ln (fun j => arrB (nm j) (sp j) (ty j) (ln j)) W hn1 (hc.arr.at hW.below) (enters_of Tryz.func96 (by kernel_rfl) rfl) (fun j V _ => isArray_any (nm j) (sp j) (ty j) (ln j) V (hc.names j)))
 have HL := lh (fun (W : World) (hW : OneK w 110 #[g, s, r, sl, p, .slice A1 n1 c1, .slice A2 n2 c2, .slice A3 n3 c3] W) (r0 : 0 <= r) => allLo_any n2 c2 98 (.agg #[g, s, r, sl, p, .slice A1 n1 c1, .slice A2 n2 c2, .slice A3 n3 c3]) A2 hd rg bd (fun j => loopB r n3 (hd j) (rg j) (bd j)) W hn2 (hc.loops.at hW.below) (enters_of Tryz.func98 (by kernel_rfl) rfl) (fun j V _ _ => isLoop_any g s r sl p n1 c1 n2 c2 n3 c3 A1 A2 A3 (hd j) (rg j) (bd j) V hn3 r0 r1))
 have HB := lh (fun (W : World) (hW : OneK w 110 #[g, s, r, sl, p, .slice A1 n1 c1, .slice A2 n2 c2, .slice A3 n3 c3] W) (hp : 0 <= r /\ 0 <= sl /\ 0 <= p) => allBl_any n3 c3 100 (.agg #[g, s, r, sl, p, .slice A1 n1 c1, .slice A2 n2 c2, .slice A3 n3 c3]) A3 IA IL IC T (fun j => blockB p sl r n1 n3 sp (IL j) (I j) (T j)) W hn3 (hc.blocks.at hW.below) (enters_of Tryz.func100 (by kernel_rfl) rfl)
  (fun j V hj hV => isBlock_any g s r sl p n1 c1 n2 c2 n3 c3 A1 A2 A3 nm sp ty ln (IA j) (IL j) (IC j) (I j) (T j) V (hc.arr.at (hW.below.trans (hV.mono hW.below.size))) hp.1 r1 hp.2.2 p1 hp.2.1 s1 hn1 hn3 ((hc.insts j hj).at (hW.below.trans (hV.mono hW.below.size))) (hc.lens j hj)))
 have HP := lh (fun h => sizB_pos (g := g) (s := s) (r := r) (sl := sl) (p := p) h)
 unfold formB
 obtain ⟨z1, hz1⟩ : ∃ z, sizB g s r sl p = z := ⟨_, rfl⟩
 rw [hz1] at HS HP ⊢
 obtain ⟨z2, hz2⟩ : ∃ z, ((List.range n1).all fun j => arrB (nm j) (sp j) (ty j) (ln j)) = z := ⟨_, rfl⟩
 rw [hz2] at HA ⊢
 obtain ⟨z3, hz3⟩ : ∃ z, ((List.range n2).all fun j => loopB r n3 (hd j) (rg j) (bd j)) = z := ⟨_, rfl⟩
 rw [hz3] at HL ⊢
 obtain ⟨z5, hz5⟩ : ∃ z, ((List.range n3).all fun j => blockB p sl r n1 n3 sp (IL j) (I j) (T j)) = z := ⟨_, rfl⟩
 rw [hz5] at HB ⊢
 clear hz1 hz2 hz3 hz5 hc
 have HK0 := lh (OneK.start (w := w) (T := 110) (K := #[g, s, r, sl, p, .slice A1 n1 c1, .slice A2 n2 c2, .slice A3 n3 c3]))
 cases z1
 . go_enter Tryz.func55, Tryz.ntmps55
   go_wp2_with (first | (go_at_call 95; (with_reducible refine (HS.out _).mono ?_); rintro e w1 ⟨rfl, hb1⟩; have HK2 := lh (HK0.out.step hb1); clear HK0; clear hb1; have HK := HK2; clear HK2; have ck := HK.out.ck))
   go_ret
   exact ⟨rfl, HK.out.below⟩
 . have HP1 := lh (HP.out rfl)
   clear HP
   rw [Bool.true_and]
   cases z2
   . go_enter Tryz.func55, Tryz.ntmps55
     go_wp2_with (first | (go_at_call 95; (with_reducible refine (HS.out _).mono ?_); rintro e w1 ⟨rfl, hb1⟩; have HK2 := lh (HK0.out.step hb1); clear HK0; clear hb1; have HK := HK2; clear HK2; have ck := HK.out.ck) | (go_at_call 93; (with_reducible refine (HA.out _ HK.out).mono ?_); rintro e w1 ⟨rfl, hb1⟩; have HK2 := lh (HK.out.step hb1); clear HK ck; clear hb1; have HK := HK2; clear HK2; have ck := HK.out.ck))
     go_ret
     exact ⟨rfl, HK.out.below⟩
   . rw [Bool.true_and]
     cases z3
     . go_enter Tryz.func55, Tryz.ntmps55
       go_wp2_with (first | (go_at_call 95; (with_reducible refine (HS.out _).mono ?_); rintro e w1 ⟨rfl, hb1⟩; have HK2 := lh (HK0.out.step hb1); clear HK0; clear hb1; have HK := HK2; clear HK2; have ck := HK.out.ck) | ((first | go_at_call 93 | go_at_call 97); (with_reducible first | refine (HA.out _ HK.out).mono ?_ | refine (HL.out _ HK.out HP1.out.1).mono ?_); rintro e w1 ⟨rfl, hb1⟩; have HK2 := lh (HK.out.step hb1); clear HK ck; clear hb1; have HK := HK2; clear HK2; have ck := HK.out.ck))
       go_ret
       exact ⟨rfl, HK.out.below⟩
     . rw [Bool.true_and]
       by_cases h0 : 0 < n3
       . rw [decide_eq_true h0, Bool.true_and]
         go_enter Tryz.func55, Tryz.ntmps55
         go_wp2_with (first | (go_at_call 95; (with_reducible refine (HS.out _).mono ?_); rintro e w1 ⟨rfl, hb1⟩; have HK2 := lh (HK0.out.step hb1); clear HK0; clear hb1; have HK := HK2; clear HK2; have ck := HK.out.ck) | ((first | go_at_call 93 | go_at_call 97 | go_at_call 99); (with_reducible first | refine (HA.out _ HK.out).mono ?_ | refine (HL.out _ HK.out HP1.out.1).mono ?_ | refine (HB.out _ HK.out HP1.out).mono ?_); rintro e w1 ⟨rfl, hb1⟩; have HK2 := lh (HK.out.step hb1); clear HK ck; clear hb1; have HK := HK2; clear HK2; have ck := HK.out.ck))
         go_ret
         exact ⟨rfl, HK.out.below⟩
       . rw [decide_eq_false h0, Bool.false_and]
         have h00 : n3 = 0 := by omega
         subst h00
         go_enter Tryz.func55, Tryz.ntmps55
         go_wp2_with (first | (go_at_call 95; (with_reducible refine (HS.out _).mono ?_); rintro e w1 ⟨rfl, hb1⟩; have HK2 := lh (HK0.out.step hb1); clear HK0; clear hb1; have HK := HK2; clear HK2; have ck := HK.out.ck) | ((first | go_at_call 93 | go_at_call 97); (with_reducible first | refine (HA.out _ HK.out).mono ?_ | refine (HL.out _ HK.out HP1.out.1).mono ?_); rintro e w1 ⟨rfl, hb1⟩; have HK2 := lh (HK.out.step hb1); clear HK ck; clear hb1; have HK := HK2; clear HK2; have ck := HK.out.ck))
         go_ret
         exact ⟨rfl, HK.out.below⟩
def checkE (g s r sl p : Int) (n1 n2 n3 : Nat) (nm : Nat -> ByteArray) (sp ty ln hd rg bd : Nat -> Int) (IL : Nat -> Nat) (I : Nat -> Nat -> InstV) (T : Nat -> TermV) : Int :=
 if limB r sl p n1 n2 n3 IL nm = true then (if formB g s r sl p n1 n2 n3 nm sp ty ln hd rg bd IL I T = true then 0 else 50) else 2
theorem limB_bounds {r sl p : Int} {n1 n2 n3 : Nat} {IL : Nat -> Nat} {nm : Nat -> ByteArray} (h : limB r sl p n1 n2 n3 IL nm = true) : n1 <= 8 /\ n2 <= 400 /\ n3 <= 400 /\ r <= 256 /\ sl <= 256 /\ p <= 8 := by
 unfold limB at h
 simp only [Bool.and_eq_true, decide_eq_true_eq] at h
 exact ⟨h.1, h.2.1, h.2.2.1, h.2.2.2.1, h.2.2.2.2.1, h.2.2.2.2.2.1⟩
theorem Check_any (w : World) (hc : CodeM n1 n2 n3 A1 A2 A3 nm sp ty ln hd rg bd IA IL IC I T w w.heap.size) (hm1 : n1 <= 9223372036854775807) (hm2 : n2 <= 9223372036854775807) (hm3 : n3 <= 9223372036854775807) :
 Calls Tryz.prog 17 #[.agg #[g, s, r, sl, p, .slice A1 n1 c1, .slice A2 n2 c2, .slice A3 n3 c3]] w fun e w' => e = .returned (.int .i64 (checkE g s r sl p n1 n2 n3 nm sp ty ln hd rg bd IL I T)) /\ Below w.heap.size w w' := by
 have HL := lh (fun (W : World) (hW : OneK w 36 #[g, s, r, sl, p, .slice A1 n1 c1, .slice A2 n2 c2, .slice A3 n3 c3] W) => limited_any g s r sl p n1 c1 n2 c2 n3 c3 A1 A2 A3 nm sp ty ln IA IL IC T W (hc.arr.at hW.below) (hc.blocks.at hW.below) hc.lens hm2 hm1 hm3)
 have HF := lh (fun (W : World) (hW : OneK w 36 #[g, s, r, sl, p, .slice A1 n1 c1, .slice A2 n2 c2, .slice A3 n3 c3] W) (hb : n1 <= 8 /\ n2 <= 400 /\ n3 <= 400 /\ r <= 256 /\ sl <= 256 /\ p <= 8) => formed_any g s r sl p n1 c1 n2 c2 n3 c3 A1 A2 A3 nm sp ty ln hd rg bd IA IL IC I T W (hc.at hW.below) (by omega) (by omega) (by omega) (by omega) (by omega) (by omega))
 have HBD := lh (fun h => limB_bounds (r := r) (sl := sl) (p := p) (n1 := n1) (n2 := n2) (n3 := n3) (IL := IL) (nm := nm) h)
 unfold checkE
 obtain ⟨zl, hzl⟩ : ∃ z, limB r sl p n1 n2 n3 IL nm = z := ⟨_, rfl⟩
 rw [hzl] at HL HBD ⊢
 obtain ⟨zf, hzf⟩ : ∃ z, formB g s r sl p n1 n2 n3 nm sp ty ln hd rg bd IL I T = z := ⟨_, rfl⟩
 rw [hzf] at HF ⊢
 clear hzl hzf hc
 have HK0 := lh (OneK.start (w := w) (T := 36) (K := #[g, s, r, sl, p, .slice A1 n1 c1, .slice A2 n2 c2, .slice A3 n3 c3]))
 cases zl
 . rw [if_neg (by decide)]
   go_enter Tryz.func17, Tryz.ntmps17
   go_wp2_with (first | (go_at_call 54; (with_reducible refine (HL.out _ HK0.out).mono ?_); rintro e w1 ⟨rfl, hb1⟩; have HK2 := lh (HK0.out.step hb1); clear HK0; clear hb1; have HK := HK2; clear HK2; have ck := HK.out.ck))
   go_ret
   exact ⟨rfl, HK.out.below⟩
 . have HB1 := lh (HBD.out rfl)
   clear HBD
   rw [if_pos rfl]
   cases zf
   . rw [if_neg (by decide)]
     go_enter Tryz.func17, Tryz.ntmps17
     go_wp2_with (first | (go_at_call 54; (with_reducible refine (HL.out _ HK0.out).mono ?_); rintro e w1 ⟨rfl, hb1⟩; have HK2 := lh (HK0.out.step hb1); clear HK0; clear hb1; have HK := HK2; clear HK2; have ck := HK.out.ck) | (go_at_call 55; (with_reducible refine (HF.out _ HK.out HB1.out).mono ?_); rintro e w1 ⟨rfl, hb1⟩; have HK2 := lh (HK.out.step hb1); clear HK ck; clear hb1; have HK := HK2; clear HK2; have ck := HK.out.ck))
     go_ret
     exact ⟨rfl, HK.out.below⟩
   . rw [if_pos rfl]
     go_enter Tryz.func17, Tryz.ntmps17
     go_wp2_with (first | (go_at_call 54; (with_reducible refine (HL.out _ HK0.out).mono ?_); rintro e w1 ⟨rfl, hb1⟩; have HK2 := lh (HK0.out.step hb1); clear HK0; clear hb1; have HK := HK2; clear HK2; have ck := HK.out.ck) | (go_at_call 55; (with_reducible refine (HF.out _ HK.out HB1.out).mono ?_); rintro e w1 ⟨rfl, hb1⟩; have HK2 := lh (HK.out.step hb1); clear HK ck; clear hb1; have HK := HK2; clear HK2; have ck := HK.out.ck))
     go_ret
     exact ⟨rfl, HK.out.below⟩
end
end Go.Proofs.YtkncilgmlkeifaaGreatDoor
