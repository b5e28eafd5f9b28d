/-
  Package code: the contracts of isInst, isEnd.
-/
import Derived.Test.YtkncilgmlkeifaaGreatDoorHas
import Derived.Deep.RegionHeld3
set_option linter.unusedVariables false
set_option linter.unusedSimpArgs false
namespace Go.Proofs.YtkncilgmlkeifaaGreatDoor
open Go.ChangeShapes Go.WideShapes Go.ChangeAt Go.RowKit Go.Shelf

/-- Two boxes: the checker, and an instruction or an end. -/
structure IsK (w : World) (T : TypeId) (K I : Array Value) (wx : World) : Prop where
  on : Below (w.heap.size + 2) ((w.alloc (.cells K 110)).alloc (.cells I T)) wx
section
variable {w wx : World} {T : TypeId} {K I : Array Value}
theorem IsK.start : IsK w T K I ((w.alloc (.cells K 110)).alloc (.cells I T)) := ⟨Below.refl _ _⟩
theorem IsK.size (h : IsK w T K I wx) : w.heap.size + 2 ≤ wx.heap.size := by
  have := h.on.size
  simp only [World.size_alloc] at this
  omega
theorem IsK.step {w' : World} (h : IsK w T K I wx) (hb : Below wx.heap.size wx w') : IsK w T K I w' := ⟨h.on.trans (hb.mono h.size)⟩
theorem IsK.drew (h : IsK w T K I wx) : IsK w T K I wx.drew := ⟨h.on.drew⟩
theorem IsK.below (h : IsK w T K I wx) : Below w.heap.size w wx := (((Below.refl _ _).alloc (Nat.le_refl _) _).alloc (by simp) _).trans (h.on.mono (by omega))
theorem IsK.ck (h : IsK w T K I wx) (o : Nat) : wx.cell? ⟨w.heap.size, o, none⟩ = K[o]? := by
  rw [h.on.cell (p := ⟨w.heap.size, o, none⟩) (by simp), World.cell?_alloc_lt _ _ _ (by simp), World.cell?_alloc_at _ _ _ _ rfl]
theorem IsK.ci (h : IsK w T K I wx) (o : Nat) : wx.cell? ⟨w.heap.size + 1, o, none⟩ = I[o]? := by
  rw [h.on.cell (p := ⟨w.heap.size + 1, o, none⟩) (by simp), World.cell?_alloc_at _ _ _ _ (by simp)]
end
theorem RAr.at {w W : World} {A : Option Addr} {n : Nat} {nm : Nat → ByteArray} {sp ty ln : Nat → Int} (h : RAr w w.heap.size A n nm sp ty ln) (hW : Below w.heap.size w W) : RAr W W.heap.size A n nm sp ty ln := fun hn => by
  obtain ⟨b, off, e, hlt, hc⟩ := (h.below hW) hn
  exact ⟨b, off, e, by have := hW.size; omega, hc⟩
def instOK (op : Int) : Bool := decide (1 ≤ op ∧ op ≤ 12)
def endOK (k : Int) : Bool := decide (1 ≤ k ∧ k ≤ 5)
theorem instF_good {op : Int} (h : instOK op = true) : (instF op).Good := by
  have h1 : 1 ≤ op ∧ op ≤ 12 := by simpa [instOK] using h
  have hop : op = 1 ∨ op = 2 ∨ op = 3 ∨ op = 4 ∨ op = 5 ∨ op = 6 ∨ op = 7 ∨ op = 8 ∨ op = 9 ∨ op = 10 ∨ op = 11 ∨ op = 12 := by omega
  rcases hop with rfl | rfl | rfl | rfl | rfl | rfl | rfl | rfl | rfl | rfl | rfl | rfl <;> exact ⟨by decide, by decide, by decide, by decide⟩
theorem instF_no {op : Int} (h : instOK op = false) : instF op = noForm := by
  have h1 : ¬ (1 ≤ op ∧ op ≤ 12) := by simpa [instOK] using h
  unfold instF
  rw [if_neg (by omega), if_neg (by omega), if_neg (by omega), if_neg (by omega), if_neg (by omega), if_neg (by omega), if_neg (by omega), if_neg (by omega), if_neg (by omega), if_neg (by omega), if_neg (by omega), if_neg (by omega)]
theorem endF_good {op : Int} (h : endOK op = true) : (endF op).Good := by
  have h1 : 1 ≤ op ∧ op ≤ 5 := by simpa [endOK] using h
  have hop : op = 1 ∨ op = 2 ∨ op = 3 ∨ op = 4 ∨ op = 5 := by omega
  rcases hop with rfl | rfl | rfl | rfl | rfl <;> exact ⟨by decide, by decide, by decide, by decide⟩
theorem endF_no {op : Int} (h : endOK op = false) : endF op = noForm := by
  have h1 : ¬ (1 ≤ op ∧ op ≤ 5) := by simpa [endOK] using h
  unfold endF
  rw [if_neg (by omega), if_neg (by omega), if_neg (by omega), if_neg (by omega), if_neg (by omega)]
section
variable (g s r sl p : Int) (n1 c1 n2 c2 n3 c3 : Nat) (A1 A2 A3 : Option Addr) (nm : Nat → ByteArray) (sp ty ln : Nat → Int)
set_option maxRecDepth 100000 in
set_option maxHeartbeats 4000000 in
theorem has_no (q : PartV) (w : World) :
    Calls Tryz.prog 147 #[.agg #[.int .i64 g, .int .i64 s, .int .i64 r, .int .i64 sl, .int .i64 p, .slice A1 n1 c1, .slice A2 n2 c2, .slice A3 n3 c3], noForm.val, q.val] w fun e w' => e = .returned (.bool false) ∧ Below w.heap.size w w' := by
  obtain ⟨qs, qn, ⟨qdk, qdn, qdv⟩, ⟨qak, qan, qav⟩, ⟨qbk, qbn, qbv⟩, ⟨qck, qcn, qcv⟩, qt0, qt1⟩ := q
  simp only [FormV.val, noForm, PartV.val]
  go_enter Tryz.func147, Tryz.ntmps147
  go_wp2
  go_ret
  exact ⟨rfl, (((Below.refl _ _).alloc (Nat.le_refl _) _).alloc (by simp) _).alloc (by simp; omega) _⟩
/-- has at the form of a number: FF, OK. -/
def instB (p sl r : Int) (n1 n3 : Nat) (sp : Nat → Int) (i : InstV) : Bool := instOK i.op && hasV p sl r n1 n3 sp (instF i.op) i.parts
def endB (p sl r : Int) (n1 n3 : Nat) (sp : Nat → Int) (t : TermV) : Bool := endOK t.kind && hasV p sl r n1 n3 sp (endF t.kind) t.parts
theorem isInst_any_has (i : InstV) (w : World) (hr : RAr w w.heap.size A1 n1 nm sp ty ln) (r0 : 0 ≤ r) (r1 : r ≤ 9223372036854775807) (p0 : 0 ≤ p) (p1 : p ≤ 9223372036854775807) (s0 : 0 ≤ sl) (s1 : sl ≤ 9223372036854775807) (hn1 : n1 ≤ 65536) (hn3 : n3 ≤ 65536) (W : World) (hW : Below w.heap.size w W) :
    Calls Tryz.prog 147 #[.agg #[.int .i64 g, .int .i64 s, .int .i64 r, .int .i64 sl, .int .i64 p, .slice A1 n1 c1, .slice A2 n2 c2, .slice A3 n3 c3], (instF i.op).val, i.parts.val] W fun e w' => e = .returned (.bool (instB p sl r n1 n3 sp i)) ∧ Below W.heap.size W w' := by
  cases h : instOK i.op
  · unfold instB
    rw [h, instF_no h, Bool.false_and]
    exact has_no g s r sl p n1 c1 n2 c2 n3 c3 A1 A2 A3 _ W
  · unfold instB
    rw [h, Bool.true_and]
    exact has_any g s r sl p n1 c1 n2 c2 n3 c3 A1 A2 A3 nm sp ty ln _ _ W (instF_good h) (hr.at hW) r0 r1 p0 p1 s0 s1 hn1 hn3
set_option maxRecDepth 100000 in
set_option maxHeartbeats 4000000 in
theorem isInst_any (i : InstV) (w : World) (hr : RAr w w.heap.size A1 n1 nm sp ty ln) (r0 : 0 ≤ r) (r1 : r ≤ 9223372036854775807) (p0 : 0 ≤ p) (p1 : p ≤ 9223372036854775807) (s0 : 0 ≤ sl) (s1 : sl ≤ 9223372036854775807) (hn1 : n1 ≤ 65536) (hn3 : n3 ≤ 65536) :
    Calls Tryz.prog 131 #[.agg #[.int .i64 g, .int .i64 s, .int .i64 r, .int .i64 sl, .int .i64 p, .slice A1 n1 c1, .slice A2 n2 c2, .slice A3 n3 c3], i.val] w fun e w' => e = .returned (.bool (instB p sl r n1 n3 sp i)) ∧ Below w.heap.size w w' := by
  have HH := Lib.hid (isInst_any_has g s r sl p n1 c1 n2 c2 n3 c3 A1 A2 A3 nm sp ty ln i w hr r0 r1 p0 p1 s0 s1 hn1 hn3)
  have HF := Lib.hid (fun (W : World) => instForm_any i.op W)
  have HP := Lib.hid (fun (W : World) => instParts_any i W)
  obtain ⟨bb, hbb⟩ : ∃ bb, instB p sl r n1 n3 sp i = bb := ⟨_, rfl⟩
  rw [hbb] at HH ⊢
  obtain ⟨ff, hff⟩ : ∃ ff, instF i.op = ff := ⟨_, rfl⟩
  rw [hff] at HH HF
  obtain ⟨pp, hpp⟩ : ∃ pp, i.parts = pp := ⟨_, rfl⟩
  rw [hpp] at HH HP
  clear hbb hff hpp hr
  obtain ⟨fw, fs, ft, fd, fa, fb, fc, fg⟩ := ff
  obtain ⟨rs, rn, ⟨rdk, rdn, rdv⟩, ⟨rak, ran, rav⟩, ⟨rbk, rbn, rbv⟩, ⟨rck, rcn, rcv⟩, rt0, rt1⟩ := pp
  obtain ⟨op, sub, n, ⟨dk, dn, dv⟩, ⟨ak, an, av⟩, ⟨bk, bn, bv⟩, ⟨ck, cn, cv⟩⟩ := i
  simp only [InstV.val, FormV.val, PartV.val] at HH HF HP ⊢
  have HB0 := Lib.hid (IsK.start (w := w) (T := 61) (K := #[.int .i64 g, .int .i64 s, .int .i64 r, .int .i64 sl, .int .i64 p, .slice A1 n1 c1, .slice A2 n2 c2, .slice A3 n3 c3]) (I := #[.int .i64 op, .int .i64 sub, .int .i64 n, .int .i64 dk, .int .i64 dn, .int .i32 dv, .int .i64 ak, .int .i64 an, .int .i32 av, .int .i64 bk, .int .i64 bn, .int .i32 bv, .int .i64 ck, .int .i64 cn, .int .i32 cv])).drew
  have HX := HB0
  go_enter Tryz.func131, Tryz.ntmps131
  go_wp2
  go_region_held3 (fun w' => (∀ o : Nat, w'.cell? ⟨w.heap.size, o, none⟩ = (#[.int .i64 g, .int .i64 s, .int .i64 r, .int .i64 sl, .int .i64 p, .slice A1 n1 c1, .slice A2 n2 c2, .slice A3 n3 c3] : Array Value)[o]?) ∧ (∀ o : Nat, w'.cell? ⟨w.heap.size + 1, o, none⟩ = (#[.int .i64 op, .int .i64 sub, .int .i64 n, .int .i64 dk, .int .i64 dn, .int .i32 dv, .int .i64 ak, .int .i64 an, .int .i32 av, .int .i64 bk, .int .i64 bn, .int .i32 bv, .int .i64 ck, .int .i64 cn, .int .i32 cv] : Array Value)[o]?) ∧ IsK w 61 #[.int .i64 g, .int .i64 s, .int .i64 r, .int .i64 sl, .int .i64 p, .slice A1 n1 c1, .slice A2 n2 c2, .slice A3 n3 c3] #[.int .i64 op, .int .i64 sub, .int .i64 n, .int .i64 dk, .int .i64 dn, .int .i32 dv, .int .i64 ak, .int .i64 an, .int .i32 av, .int .i64 bk, .int .i64 bn, .int .i32 bv, .int .i64 ck, .int .i64 cn, .int .i32 cv] w') (exact ⟨HX.out.ck, HX.out.ci, HX.out⟩)
    (first
      | (go_at_call 87; (with_reducible refine (HF.out _).mono ?_); rintro e w1 ⟨rfl, hb1⟩; have HX := Lib.hid ((‹_ ∧ _ ∧ IsK w 61 #[.int .i64 g, .int .i64 s, .int .i64 r, .int .i64 sl, .int .i64 p, .slice A1 n1 c1, .slice A2 n2 c2, .slice A3 n3 c3] #[.int .i64 op, .int .i64 sub, .int .i64 n, .int .i64 dk, .int .i64 dn, .int .i32 dv, .int .i64 ak, .int .i64 an, .int .i32 av, .int .i64 bk, .int .i64 bn, .int .i32 bv, .int .i64 ck, .int .i64 cn, .int .i32 cv] _›).2.2.step hb1); clear hb1)
      | (go_at_call 88; (with_reducible refine (HP.out _).mono ?_); rintro e w1 ⟨rfl, hb1⟩; have HX := Lib.hid ((‹_ ∧ _ ∧ IsK w 61 #[.int .i64 g, .int .i64 s, .int .i64 r, .int .i64 sl, .int .i64 p, .slice A1 n1 c1, .slice A2 n2 c2, .slice A3 n3 c3] #[.int .i64 op, .int .i64 sub, .int .i64 n, .int .i64 dk, .int .i64 dn, .int .i32 dv, .int .i64 ak, .int .i64 an, .int .i32 av, .int .i64 bk, .int .i64 bn, .int .i32 bv, .int .i64 ck, .int .i64 cn, .int .i32 cv] _›).2.2.step hb1); clear hb1)
      | (go_at_call 147; (with_reducible refine (HH.out _ (‹_ ∧ _ ∧ IsK w 61 #[.int .i64 g, .int .i64 s, .int .i64 r, .int .i64 sl, .int .i64 p, .slice A1 n1 c1, .slice A2 n2 c2, .slice A3 n3 c3] #[.int .i64 op, .int .i64 sub, .int .i64 n, .int .i64 dk, .int .i64 dn, .int .i32 dv, .int .i64 ak, .int .i64 an, .int .i32 av, .int .i64 bk, .int .i64 bn, .int .i32 bv, .int .i64 ck, .int .i64 cn, .int .i32 cv] _›).2.2.below).mono ?_); rintro e w1 ⟨rfl, hb1⟩; have HX := Lib.hid ((‹_ ∧ _ ∧ IsK w 61 #[.int .i64 g, .int .i64 s, .int .i64 r, .int .i64 sl, .int .i64 p, .slice A1 n1 c1, .slice A2 n2 c2, .slice A3 n3 c3] #[.int .i64 op, .int .i64 sub, .int .i64 n, .int .i64 dk, .int .i64 dn, .int .i32 dv, .int .i64 ak, .int .i64 an, .int .i32 av, .int .i64 bk, .int .i64 bn, .int .i32 bv, .int .i64 ck, .int .i64 cn, .int .i32 cv] _›).2.2.step hb1); clear hb1))
  all_goals
    go_wp2
    go_ret
    exact ⟨rfl, (‹_ ∧ _ ∧ IsK w 61 #[.int .i64 g, .int .i64 s, .int .i64 r, .int .i64 sl, .int .i64 p, .slice A1 n1 c1, .slice A2 n2 c2, .slice A3 n3 c3] #[.int .i64 op, .int .i64 sub, .int .i64 n, .int .i64 dk, .int .i64 dn, .int .i32 dv, .int .i64 ak, .int .i64 an, .int .i32 av, .int .i64 bk, .int .i64 bn, .int .i32 bv, .int .i64 ck, .int .i64 cn, .int .i32 cv] _›).2.2.below⟩
theorem isEnd_any_has (t : TermV) (w : World) (hr : RAr w w.heap.size A1 n1 nm sp ty ln) (r0 : 0 ≤ r) (r1 : r ≤ 9223372036854775807) (p0 : 0 ≤ p) (p1 : p ≤ 9223372036854775807) (s0 : 0 ≤ sl) (s1 : sl ≤ 9223372036854775807) (hn1 : n1 ≤ 65536) (hn3 : n3 ≤ 65536) (W : World) (hW : Below w.heap.size w W) :
    Calls Tryz.prog 147 #[.agg #[.int .i64 g, .int .i64 s, .int .i64 r, .int .i64 sl, .int .i64 p, .slice A1 n1 c1, .slice A2 n2 c2, .slice A3 n3 c3], (endF t.kind).val, t.parts.val] W fun e w' => e = .returned (.bool (endB p sl r n1 n3 sp t)) ∧ Below W.heap.size W w' := by
  cases h : endOK t.kind
  · unfold endB
    rw [h, endF_no h, Bool.false_and]
    exact has_no g s r sl p n1 c1 n2 c2 n3 c3 A1 A2 A3 _ W
  · unfold endB
    rw [h, Bool.true_and]
    exact has_any g s r sl p n1 c1 n2 c2 n3 c3 A1 A2 A3 nm sp ty ln _ _ W (endF_good h) (hr.at hW) r0 r1 p0 p1 s0 s1 hn1 hn3
set_option maxRecDepth 100000 in
set_option maxHeartbeats 4000000 in
theorem isEnd_any (t : TermV) (w : World) (hr : RAr w w.heap.size A1 n1 nm sp ty ln) (r0 : 0 ≤ r) (r1 : r ≤ 9223372036854775807) (p0 : 0 ≤ p) (p1 : p ≤ 9223372036854775807) (s0 : 0 ≤ sl) (s1 : sl ≤ 9223372036854775807) (hn1 : n1 ≤ 65536) (hn3 : n3 ≤ 65536) :
    Calls Tryz.prog 132 #[.agg #[.int .i64 g, .int .i64 s, .int .i64 r, .int .i64 sl, .int .i64 p, .slice A1 n1 c1, .slice A2 n2 c2, .slice A3 n3 c3], t.val] w fun e w' => e = .returned (.bool (endB p sl r n1 n3 sp t)) ∧ Below w.heap.size w w' := by
  have HH := Lib.hid (isEnd_any_has g s r sl p n1 c1 n2 c2 n3 c3 A1 A2 A3 nm sp ty ln t w hr r0 r1 p0 p1 s0 s1 hn1 hn3)
  have HF := Lib.hid (fun (W : World) => endForm_any t.kind W)
  have HP := Lib.hid (fun (W : World) => endParts_any t W)
  obtain ⟨bb, hbb⟩ : ∃ bb, endB p sl r n1 n3 sp t = bb := ⟨_, rfl⟩
  rw [hbb] at HH ⊢
  obtain ⟨ff, hff⟩ : ∃ ff, endF t.kind = ff := ⟨_, rfl⟩
  rw [hff] at HH HF
  obtain ⟨pp, hpp⟩ : ∃ pp, t.parts = pp := ⟨_, rfl⟩
  rw [hpp] at HH HP
  clear hbb hff hpp hr
  obtain ⟨fw, fs, ft, fd, fa, fb, fc, fg⟩ := ff
  obtain ⟨rs, rn, ⟨rdk, rdn, rdv⟩, ⟨rak, ran, rav⟩, ⟨rbk, rbn, rbv⟩, ⟨rck, rcn, rcv⟩, rt0, rt1⟩ := pp
  obtain ⟨kind, sub, ⟨dk, dn, dv⟩, ⟨ak, an, av⟩, ⟨bk, bn, bv⟩, t0, t1⟩ := t
  simp only [TermV.val, FormV.val, PartV.val] at HH HF HP ⊢
  have HB0 := Lib.hid (IsK.start (w := w) (T := 53) (K := #[.int .i64 g, .int .i64 s, .int .i64 r, .int .i64 sl, .int .i64 p, .slice A1 n1 c1, .slice A2 n2 c2, .slice A3 n3 c3]) (I := #[.int .i64 kind, .int .i64 sub, .int .i64 dk, .int .i64 dn, .int .i32 dv, .int .i64 ak, .int .i64 an, .int .i32 av, .int .i64 bk, .int .i64 bn, .int .i32 bv, .int .i64 t0, .int .i64 t1])).drew
  have HX := HB0
  go_enter Tryz.func132, Tryz.ntmps132
  go_wp2
  go_region_held3 (fun w' => (∀ o : Nat, w'.cell? ⟨w.heap.size, o, none⟩ = (#[.int .i64 g, .int .i64 s, .int .i64 r, .int .i64 sl, .int .i64 p, .slice A1 n1 c1, .slice A2 n2 c2, .slice A3 n3 c3] : Array Value)[o]?) ∧ (∀ o : Nat, w'.cell? ⟨w.heap.size + 1, o, none⟩ = (#[.int .i64 kind, .int .i64 sub, .int .i64 dk, .int .i64 dn, .int .i32 dv, .int .i64 ak, .int .i64 an, .int .i32 av, .int .i64 bk, .int .i64 bn, .int .i32 bv, .int .i64 t0, .int .i64 t1] : Array Value)[o]?) ∧ IsK w 53 #[.int .i64 g, .int .i64 s, .int .i64 r, .int .i64 sl, .int .i64 p, .slice A1 n1 c1, .slice A2 n2 c2, .slice A3 n3 c3] #[.int .i64 kind, .int .i64 sub, .int .i64 dk, .int .i64 dn, .int .i32 dv, .int .i64 ak, .int .i64 an, .int .i32 av, .int .i64 bk, .int .i64 bn, .int .i32 bv, .int .i64 t0, .int .i64 t1] w') (exact ⟨HX.out.ck, HX.out.ci, HX.out⟩)
    (first
      | (go_at_call 58; (with_reducible refine (HF.out _).mono ?_); rintro e w1 ⟨rfl, hb1⟩; have HX := Lib.hid ((‹_ ∧ _ ∧ IsK w 53 #[.int .i64 g, .int .i64 s, .int .i64 r, .int .i64 sl, .int .i64 p, .slice A1 n1 c1, .slice A2 n2 c2, .slice A3 n3 c3] #[.int .i64 kind, .int .i64 sub, .int .i64 dk, .int .i64 dn, .int .i32 dv, .int .i64 ak, .int .i64 an, .int .i32 av, .int .i64 bk, .int .i64 bn, .int .i32 bv, .int .i64 t0, .int .i64 t1] _›).2.2.step hb1); clear hb1)
      | (go_at_call 89; (with_reducible refine (HP.out _).mono ?_); rintro e w1 ⟨rfl, hb1⟩; have HX := Lib.hid ((‹_ ∧ _ ∧ IsK w 53 #[.int .i64 g, .int .i64 s, .int .i64 r, .int .i64 sl, .int .i64 p, .slice A1 n1 c1, .slice A2 n2 c2, .slice A3 n3 c3] #[.int .i64 kind, .int .i64 sub, .int .i64 dk, .int .i64 dn, .int .i32 dv, .int .i64 ak, .int .i64 an, .int .i32 av, .int .i64 bk, .int .i64 bn, .int .i32 bv, .int .i64 t0, .int .i64 t1] _›).2.2.step hb1); clear hb1)
      | (go_at_call 147; (with_reducible refine (HH.out _ (‹_ ∧ _ ∧ IsK w 53 #[.int .i64 g, .int .i64 s, .int .i64 r, .int .i64 sl, .int .i64 p, .slice A1 n1 c1, .slice A2 n2 c2, .slice A3 n3 c3] #[.int .i64 kind, .int .i64 sub, .int .i64 dk, .int .i64 dn, .int .i32 dv, .int .i64 ak, .int .i64 an, .int .i32 av, .int .i64 bk, .int .i64 bn, .int .i32 bv, .int .i64 t0, .int .i64 t1] _›).2.2.below).mono ?_); rintro e w1 ⟨rfl, hb1⟩; have HX := Lib.hid ((‹_ ∧ _ ∧ IsK w 53 #[.int .i64 g, .int .i64 s, .int .i64 r, .int .i64 sl, .int .i64 p, .slice A1 n1 c1, .slice A2 n2 c2, .slice A3 n3 c3] #[.int .i64 kind, .int .i64 sub, .int .i64 dk, .int .i64 dn, .int .i32 dv, .int .i64 ak, .int .i64 an, .int .i32 av, .int .i64 bk, .int .i64 bn, .int .i32 bv, .int .i64 t0, .int .i64 t1] _›).2.2.step hb1); clear hb1))
  all_goals
    go_wp2
    go_ret
    exact ⟨rfl, (‹_ ∧ _ ∧ IsK w 53 #[.int .i64 g, .int .i64 s, .int .i64 r, .int .i64 sl, .int .i64 p, .slice A1 n1 c1, .slice A2 n2 c2, .slice A3 n3 c3] #[.int .i64 kind, .int .i64 sub, .int .i64 dk, .int .i64 dn, .int .i32 dv, .int .i64 ak, .int .i64 an, .int .i32 av, .int .i64 bk, .int .i64 bn, .int .i32 bv, .int .i64 t0, .int .i64 t1] _›).2.2.below⟩
end
end Go.Proofs.YtkncilgmlkeifaaGreatDoor
