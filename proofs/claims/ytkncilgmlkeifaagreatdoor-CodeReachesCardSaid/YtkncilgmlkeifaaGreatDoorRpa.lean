/-
  Package code: the reader: the contracts of parts, inst and end.
-/
import Derived.Test.YtkncilgmlkeifaaGreatDoorRpt
set_option linter.unusedVariables false
set_option linter.unusedSimpArgs false
namespace Go.Proofs.YtkncilgmlkeifaaGreatDoor
open Go.ChangeShapes Go.WideShapes Go.ChangeAt Go.RowKit Go.Shelf

/-- The reader kept while a box is written. -/
structure RK (rb a : Nat) (G : Nat → Value) (v : Value) (fs : List ByteArray) (w W : World) : Prop where
  row : W.rowIs rb 166 9 G
  fl : FSl W v fs
  ch : Ch rb rb w W
  ra : ∃ h, W.rowIs a 147 16 h
theorem RK.set {rb a : Nat} {G : Nat → Value} {v : Value} {fs : List ByteArray} {w W : World} (h : RK rb a G v fs w W) (hne : rb ≠ a) (ha : w.heap.size ≤ a) (o : Nat) (u : Value) : RK rb a G v fs w (W.setCell ⟨a, o, none⟩ u) := by
  obtain ⟨h1, h2, h3, k, h4⟩ := h
  exact ⟨h1.setOther (a := ⟨a, o, none⟩) hne u, h2.setR h4 (by decide) o u, h3.setNew ha u, _, h4.set o u⟩
theorem rfacts {w1 : World} {n : Nat} {r : PartV} (hr : w1.rowIs (n + 1 + 1 + 1) 147 16 r.cell) : w1.cell? ⟨n + 1 + 1 + 1, 0, none⟩ = some (.int .i64 r.sub) ∧ w1.cell? ⟨n + 1 + 1 + 1, 1, none⟩ = some (.int .i64 r.n) ∧ w1.cell? ⟨n + 1 + 1 + 1, 2, none⟩ = some (.int .i64 r.d.k) ∧ w1.cell? ⟨n + 1 + 1 + 1, 3, none⟩ = some (.int .i64 r.d.n) ∧ w1.cell? ⟨n + 1 + 1 + 1, 4, none⟩ = some (.int .i32 r.d.v) ∧ w1.cell? ⟨n + 1 + 1 + 1, 5, none⟩ = some (.int .i64 r.a.k) ∧ w1.cell? ⟨n + 1 + 1 + 1, 6, none⟩ = some (.int .i64 r.a.n) ∧ w1.cell? ⟨n + 1 + 1 + 1, 7, none⟩ = some (.int .i32 r.a.v) ∧ w1.cell? ⟨n + 1 + 1 + 1, 8, none⟩ = some (.int .i64 r.b.k) ∧ w1.cell? ⟨n + 1 + 1 + 1, 9, none⟩ = some (.int .i64 r.b.n) ∧ w1.cell? ⟨n + 1 + 1 + 1, 10, none⟩ = some (.int .i32 r.b.v) ∧ w1.cell? ⟨n + 1 + 1 + 1, 11, none⟩ = some (.int .i64 r.c.k) ∧ w1.cell? ⟨n + 1 + 1 + 1, 12, none⟩ = some (.int .i64 r.c.n) ∧ w1.cell? ⟨n + 1 + 1 + 1, 13, none⟩ = some (.int .i32 r.c.v) ∧ w1.cell? ⟨n + 1 + 1 + 1, 14, none⟩ = some (.int .i64 r.t0) ∧ w1.cell? ⟨n + 1 + 1 + 1, 15, none⟩ = some (.int .i64 r.t1) :=
  ⟨hr.cell (i := 0) (by decide), hr.cell (i := 1) (by decide), hr.cell (i := 2) (by decide), hr.cell (i := 3) (by decide), hr.cell (i := 4) (by decide), hr.cell (i := 5) (by decide), hr.cell (i := 6) (by decide), hr.cell (i := 7) (by decide), hr.cell (i := 8) (by decide), hr.cell (i := 9) (by decide), hr.cell (i := 10) (by decide), hr.cell (i := 11) (by decide), hr.cell (i := 12) (by decide), hr.cell (i := 13) (by decide), hr.cell (i := 14) (by decide), hr.cell (i := 15) (by decide)⟩
theorem zfacts {w1 : World} {n : Nat} (hz : w1.heap[n + 1 + 1]? = some (.cells (⟨0, 0, noOpd, noOpd, noOpd, noOpd, 0, 0⟩ : PartV).cells 147 (0, 0))) : w1.cell? ⟨n + 1 + 1, 0, none⟩ = some (.int .i64 0) ∧ w1.cell? ⟨n + 1 + 1, 1, none⟩ = some (.int .i64 0) ∧ w1.cell? ⟨n + 1 + 1, 2, none⟩ = some (.int .i64 0) ∧ w1.cell? ⟨n + 1 + 1, 3, none⟩ = some (.int .i64 0) ∧ w1.cell? ⟨n + 1 + 1, 4, none⟩ = some (.int .i32 0) ∧ w1.cell? ⟨n + 1 + 1, 5, none⟩ = some (.int .i64 0) ∧ w1.cell? ⟨n + 1 + 1, 6, none⟩ = some (.int .i64 0) ∧ w1.cell? ⟨n + 1 + 1, 7, none⟩ = some (.int .i32 0) ∧ w1.cell? ⟨n + 1 + 1, 8, none⟩ = some (.int .i64 0) ∧ w1.cell? ⟨n + 1 + 1, 9, none⟩ = some (.int .i64 0) ∧ w1.cell? ⟨n + 1 + 1, 10, none⟩ = some (.int .i32 0) ∧ w1.cell? ⟨n + 1 + 1, 11, none⟩ = some (.int .i64 0) ∧ w1.cell? ⟨n + 1 + 1, 12, none⟩ = some (.int .i64 0) ∧ w1.cell? ⟨n + 1 + 1, 13, none⟩ = some (.int .i32 0) ∧ w1.cell? ⟨n + 1 + 1, 14, none⟩ = some (.int .i64 0) ∧ w1.cell? ⟨n + 1 + 1, 15, none⟩ = some (.int .i64 0) := by
  simp only [World.cell?, hz]
  exact ⟨rfl, rfl, rfl, rfl, rfl, rfl, rfl, rfl, rfl, rfl, rfl, rfl, rfl, rfl, rfl, rfl⟩
set_option maxRecDepth 100000 in
set_option maxHeartbeats 8000000 in
theorem rparts_any (rb : Nat) (g : Nat → Value) (f : FormV) (fs : List ByteArray) (w w0 : World) (ht : 0 ≤ f.targets ∧ f.targets ≤ 2) (hr : w.rowIs rb 166 9 g) (hf : FSl w (g 8) fs) (hl : fs.length ≤ 1000000) (hsz : ∀ s, s ∈ fs → s.size ≤ 281474976710656) (hE : EnvP w0) (hW : Below w0.heap.size w0 w) (hb : w0.heap.size ≤ rb) :
    Calls Tryz.prog 162 #[.pointer (some ⟨rb, 0, none⟩), f.val] w fun e w' => e = .returned (rdV f fs).val ∧ ∃ v', w'.rowIs rb 166 9 (upd g 8 v') ∧ FSl w' v' (fs.drop (cnt f 8)) ∧ Ch rb rb w w' := by
  have hlt := hr.lt
  obtain ⟨W4, hW4⟩ : ∃ W4 : World, ((((w.alloc (.cells #[.pointer (some ⟨rb, 0, none⟩)] 198)).alloc (.cells #[.string ⟨f.word⟩, .int .u32 f.subs, .int .i64 f.table, .bool f.d, .bool f.a, .bool f.b, .bool f.c, .int .i64 f.targets] 117)).alloc (.cells (⟨0, 0, noOpd, noOpd, noOpd, noOpd, 0, 0⟩ : PartV).cells 147)).alloc (.cells (⟨0, 0, noOpd, noOpd, noOpd, noOpd, 0, 0⟩ : PartV).cells 147)) = W4 := ⟨_, rfl⟩
  have hsz4 : W4.heap.size = w.heap.size + 4 := by rw [← hW4]; simp
  have hb4 : Below w.heap.size w W4 := by rw [← hW4]; exact ((((Below.refl _ _).alloc (Nat.le_refl _) _).alloc (by simp) _).alloc (by simp; omega) _).alloc (by simp; omega) _
  have hk0 : W4.heap[w.heap.size]? = some (.cells #[.pointer (some ⟨rb, 0, none⟩)] 198 (0, 0)) := by
    rw [← hW4, Below.heap_alloc _ _ _ (by simp; omega), Below.heap_alloc _ _ _ (by simp; omega), Below.heap_alloc _ _ _ (by simp)]
    exact heap_alloc_new _ _
  have hk2 : W4.heap[w.heap.size + 1 + 1]? = some (.cells (⟨0, 0, noOpd, noOpd, noOpd, noOpd, 0, 0⟩ : PartV).cells 147 (0, 0)) := by
    rw [← hW4, Below.heap_alloc _ _ _ (by simp)]
    have h := heap_alloc_new ((w.alloc (.cells #[.pointer (some ⟨rb, 0, none⟩)] 198)).alloc (.cells #[.string ⟨f.word⟩, .int .u32 f.subs, .int .i64 f.table, .bool f.d, .bool f.a, .bool f.b, .bool f.c, .int .i64 f.targets] 117)) (.cells (⟨0, 0, noOpd, noOpd, noOpd, noOpd, 0, 0⟩ : PartV).cells 147)
    rw [World.size_alloc, World.size_alloc] at h
    exact h
  have hk3 : W4.heap[w.heap.size + 1 + 1 + 1]? = some (.cells (⟨0, 0, noOpd, noOpd, noOpd, noOpd, 0, 0⟩ : PartV).cells 147 (0, 0)) := by
    rw [← hW4]
    have h := heap_alloc_new (((w.alloc (.cells #[.pointer (some ⟨rb, 0, none⟩)] 198)).alloc (.cells #[.string ⟨f.word⟩, .int .u32 f.subs, .int .i64 f.table, .bool f.d, .bool f.a, .bool f.b, .bool f.c, .int .i64 f.targets] 117)).alloc (.cells (⟨0, 0, noOpd, noOpd, noOpd, noOpd, 0, 0⟩ : PartV).cells 147)) (.cells (⟨0, 0, noOpd, noOpd, noOpd, noOpd, 0, 0⟩ : PartV).cells 147)
    rw [World.size_alloc, World.size_alloc, World.size_alloc] at h
    exact h
  have hbox : Below W4.heap.size W4 (W4.alloc (.cells #[.string ⟨f.word⟩, .int .u32 f.subs, .int .i64 f.table, .bool f.d, .bool f.a, .bool f.b, .bool f.c, .int .i64 f.targets] 117)) := (Below.refl _ _).alloc (Nat.le_refl _) _
  have kf : (W4.alloc (.cells #[.string ⟨f.word⟩, .int .u32 f.subs, .int .i64 f.table, .bool f.d, .bool f.a, .bool f.b, .bool f.c, .int .i64 f.targets] 117)).heap[W4.heap.size]? = some (.cells #[.string ⟨f.word⟩, .int .u32 f.subs, .int .i64 f.table, .bool f.d, .bool f.a, .bool f.b, .bool f.c, .int .i64 f.targets] 117 (0, 0)) := heap_alloc_new _ _
  have hW1 : Below w0.heap.size w0 (W4.alloc (.cells #[.string ⟨f.word⟩, .int .u32 f.subs, .int .i64 f.table, .bool f.d, .bool f.a, .bool f.b, .bool f.c, .int .i64 f.targets] 117)) := hW.trans ((hb4.trans (hbox.mono (by omega))).mono hW.size)
  have HV : Calls Tryz.prog 123 #[f.val, .pointer (some ⟨w.heap.size + 1 + 1 + 1, 0, none⟩), .func (.func 181) #[] #[.pointer (some ⟨w.heap.size, 0, none⟩)], .func (.func 182) #[] #[.pointer (some ⟨w.heap.size, 0, none⟩)]] W4 fun e w' => (∃ v, e = .returned v) ∧ RJ rb (w.heap.size + 1 + 1 + 1) g f fs (W4.alloc (.cells #[.string ⟨f.word⟩, .int .u32 f.subs, .int .i64 f.table, .bool f.d, .bool f.a, .bool f.b, .bool f.c, .int .i64 f.targets] 117)) 8 w' := by
    refine visit_1 f 181 182 (w.heap.size + 1 + 1 + 1) w.heap.size (RJ rb (w.heap.size + 1 + 1 + 1) g f fs (W4.alloc (.cells #[.string ⟨f.word⟩, .int .u32 f.subs, .int .i64 f.table, .bool f.d, .bool f.a, .bool f.b, .bool f.c, .int .i64 f.targets] 117))) W4 ht (enters_of Tryz.func181 (by kernel_rfl) rfl) (enters_of Tryz.func182 (by kernel_rfl) rfl) ?_ ?_ ?_ ?_ ?_
    · have hbb := hb4.trans (hbox.mono (by omega))
      refine ⟨g 8, by rw [upd_self]; exact hr.of_block (hbb.block rb hlt), ?_, ?_, Ch.refl _ _ _⟩
      · rw [cnt, List.drop_zero]
        exact hf.of_blocks (fun k C fr hk => (hbb.block k (Array.getElem?_eq_some_iff.1 hk).1).trans hk)
      · refine ⟨(⟨0, 0, noOpd, noOpd, noOpd, noOpd, 0, 0⟩ : PartV).cells, (hbox.block _ (by omega)).trans hk3, rfl, fun i hi => ?_⟩
        rw [rdC_zero]
        rcases lt16 hi with rfl | rfl | rfl | rfl | rfl | rfl | rfl | rfl | rfl | rfl | rfl | rfl | rfl | rfl | rfl | rfl <;> rfl
    · rintro s V ⟨v, h1, h2, h3, h4⟩
      have hbk := (h4.block W4.heap.size (by simp) (by omega) (by omega)).trans kf
      exact ⟨cell_blk hbk rfl, cell_blk hbk rfl, cell_blk hbk rfl, cell_blk hbk rfl, cell_blk hbk rfl, cell_blk hbk rfl, cell_blk hbk rfl⟩
    · rintro s V hs hw ⟨v, h1, h2, h3, h4⟩
      exact ⟨v, h1, by rw [cnt, hw]; exact h2, by rw [← rdC_skip hw]; exact h3, h4⟩
    · intro s V hs hn hw hJ
      refine r181_any rb (w.heap.size + 1 + 1 + 1) w.heap.size g f fs w0 _ (by omega) hl hsz hE hW1 hb (by have := hW.size; omega) s V hs hn hw ?_ hJ
      obtain ⟨v, h1, h2, h3, h4⟩ := hJ
      exact cell_blk ((h4.block w.heap.size (by simp; omega) (by omega) (by omega)).trans ((hbox.block _ (by omega)).trans hk0)) rfl
    · intro s V hs hn hw hJ
      refine r182_any rb (w.heap.size + 1 + 1 + 1) w.heap.size g f fs w0 _ (by omega) hl hsz hE hW1 hb (by have := hW.size; omega) s V hs hn hw ?_ hJ
      obtain ⟨v, h1, h2, h3, h4⟩ := hJ
      exact cell_blk ((h4.block w.heap.size (by simp; omega) (by omega) (by omega)).trans ((hbox.block _ (by omega)).trans hk0)) rfl
  have HF := Lib.hid (fun (w1 : World) (h : RJ rb (w.heap.size + 1 + 1 + 1) g f fs (W4.alloc (.cells #[.string ⟨f.word⟩, .int .u32 f.subs, .int .i64 f.table, .bool f.d, .bool f.a, .bool f.b, .bool f.c, .int .i64 f.targets] 117)) 8 w1) => by
    obtain ⟨v, h1, h2, h3, h4⟩ := h
    have hz2 := (h4.block (w.heap.size + 1 + 1) (by simp; omega) (by omega) (by omega)).trans ((hbox.block _ (by omega)).trans hk2)
    have hbb := hb4.trans (hbox.mono (by omega))
    exact And.intro (rfacts (n := w.heap.size) (h3.congr (fun j hj => rdC_end f fs j hj))) (And.intro (zfacts hz2) (And.intro (frozen_blk hz2) (show ∃ v', RK rb (w.heap.size + 1 + 1) (upd g 8 v') v' (fs.drop (cnt f 8)) w w1 from ⟨v, h1, h2, ⟨h4.os.trans hbb.os, h4.tape.trans hbb.tape, h4.output.trans hbb.output, by have := h4.size; have := hbb.size; omega, fun k hk ha _ => (h4.block k (by have := hbb.size; omega) ha (by omega)).trans (hbb.block k hk)⟩, _, row_of_blk hz2⟩))))
  have HNE := Lib.hid (show rb ≠ w.heap.size + 1 + 1 from by omega)
  obtain ⟨r, hrr⟩ : ∃ r, rdV f fs = r := ⟨_, rfl⟩
  rw [hrr] at HF ⊢
  subst hW4
  have HVV := Lib.hid HV
  clear hrr HV hsz4 hb4 hk0 hk2 hk3 hbox kf hW1 hlt hr hf hl hsz hE hW hb
  obtain ⟨word, subs, table, d, a, b, c, targets⟩ := f
  obtain ⟨rs, rn, ⟨rdk, rdn, rdv⟩, ⟨rak, ran, rav⟩, ⟨rbk, rbn, rbv⟩, ⟨rck, rcn, rcv⟩, rt0, rt1⟩ := r
  simp only [FormV.val, PartV.val, PartV.cells, noOpd] at HVV HF ⊢
  go_enter Tryz.func162, Tryz.ntmps162
  go_wp2_with (first | (go_at_call 123; (with_reducible refine HVV.out.mono ?_); rintro e w1 ⟨⟨v, rfl⟩, hj⟩; obtain ⟨⟨c0, c1, c2, c3, c4, c5, c6, c7, c8, c9, c10, c11, c12, c13, c14, c15⟩, ⟨z0, z1, z2, z3, z4, z5, z6, z7, z8, z9, z10, z11, z12, z13, z14, z15⟩, hf, v', hk⟩ := HF.out w1 hj; have HX := Lib.hid hk; clear hk hj))
  refine bodyPost_ret (v := .agg #[.int .i64 rs, .int .i64 rn, .int .i64 rdk, .int .i64 rdn, .int .i32 rdv, .int .i64 rak, .int .i64 ran, .int .i32 rav, .int .i64 rbk, .int .i64 rbn, .int .i32 rbv, .int .i64 rck, .int .i64 rcn, .int .i32 rcv, .int .i64 rt0, .int .i64 rt1]) (by simp [results, Tryz.results162, go_sem, z0, z1, z2, z3, z4, z5, z6, z7, z8, z9, z10, z11, z12, z13, z14, z15]) rfl ?_
  have hfin := HX.out.set HNE.out (by omega)
  have hst : ∀ W, RK rb (w.heap.size + 1 + 1) (upd g 8 v') v' (fs.drop (cnt ⟨word, subs, table, d, a, b, c, targets⟩ 8)) w W → ∀ o u, RK rb (w.heap.size + 1 + 1) (upd g 8 v') v' (fs.drop (cnt ⟨word, subs, table, d, a, b, c, targets⟩ 8)) w (W.setCell ⟨w.heap.size + 1 + 1, o, none⟩ u) := fun W h o u => h.set HNE.out (by omega) o u
  have hall := hst _ (hst _ (hst _ (hst _ (hst _ (hst _ (hst _ (hst _ (hst _ (hst _ (hst _ (hst _ (hst _ (hst _ (hst _ (hst _ (HX.out) 0 (.int .i64 rs)) 1 (.int .i64 rn)) 2 (.int .i64 rdk)) 3 (.int .i64 rdn)) 4 (.int .i32 rdv)) 5 (.int .i64 rak)) 6 (.int .i64 ran)) 7 (.int .i32 rav)) 8 (.int .i64 rbk)) 9 (.int .i64 rbn)) 10 (.int .i32 rbv)) 11 (.int .i64 rck)) 12 (.int .i64 rcn)) 13 (.int .i32 rcv)) 14 (.int .i64 rt0)) 15 (.int .i64 rt1)
  exact ⟨rfl, v', hall.row, hall.fl, hall.ch⟩
theorem rinst_any (q : PartV) (op : Int) (w : World) : Calls Tryz.prog 163 #[q.val, .int .i64 op] w fun e w' => e = .returned (⟨op, q.sub, q.n, q.d, q.a, q.b, q.c⟩ : InstV).val ∧ Below w.heap.size w w' := by
  obtain ⟨rs, rn, ⟨rdk, rdn, rdv⟩, ⟨rak, ran, rav⟩, ⟨rbk, rbn, rbv⟩, ⟨rck, rcn, rcv⟩, rt0, rt1⟩ := q
  simp only [InstV.val, PartV.val]
  go_enter Tryz.func163, Tryz.ntmps163
  go_wp2
  exact bodyPost_ret (v := .agg #[.int .i64 op, .int .i64 rs, .int .i64 rn, .int .i64 rdk, .int .i64 rdn, .int .i32 rdv, .int .i64 rak, .int .i64 ran, .int .i32 rav, .int .i64 rbk, .int .i64 rbn, .int .i32 rbv, .int .i64 rck, .int .i64 rcn, .int .i32 rcv]) (by simp [results, Tryz.results163, go_sem]) rfl ⟨rfl, ((Below.refl _ _).alloc (Nat.le_refl _) _).alloc (by simp) _⟩
theorem rend_any (q : PartV) (kind : Int) (w : World) : Calls Tryz.prog 164 #[q.val, .int .i64 kind] w fun e w' => e = .returned (⟨kind, q.sub, q.d, q.a, q.b, q.t0, q.t1⟩ : TermV).val ∧ Below w.heap.size w w' := by
  obtain ⟨rs, rn, ⟨rdk, rdn, rdv⟩, ⟨rak, ran, rav⟩, ⟨rbk, rbn, rbv⟩, ⟨rck, rcn, rcv⟩, rt0, rt1⟩ := q
  simp only [TermV.val, PartV.val]
  go_enter Tryz.func164, Tryz.ntmps164
  go_wp2
  exact bodyPost_ret (v := .agg #[.int .i64 kind, .int .i64 rs, .int .i64 rdk, .int .i64 rdn, .int .i32 rdv, .int .i64 rak, .int .i64 ran, .int .i32 rav, .int .i64 rbk, .int .i64 rbn, .int .i32 rbv, .int .i64 rt0, .int .i64 rt1]) (by simp [results, Tryz.results164, go_sem]) rfl ⟨rfl, ((Below.refl _ _).alloc (Nat.le_refl _) _).alloc (by simp) _⟩
end Go.Proofs.YtkncilgmlkeifaaGreatDoor
