/-
  Package code: the reader: the contract of line, for the words code, array, loop and block.
-/
import Derived.Test.YtkncilgmlkeifaaGreatDoorRst
import Derived.Deep.RegionWith
import Derived.Deep.Onto
import Derived.Deep.RegionLaw
import Derived.Deep.AppendLies
set_option linter.unusedVariables false
set_option linter.unusedSimpArgs false
namespace Go.Proofs.YtkncilgmlkeifaaGreatDoor
open Go.ChangeShapes Go.WideShapes Go.ChangeAt Go.RowKit Go.Shelf

theorem infoArr : (Tryz.prog.info? 91).map (fun i => (i.zero, i.size, i.bytes)) = some (some (.agg #[.string ByteArray.empty, .int .i64 0, .int .i64 0, .int .i64 0]), 4, 40) := by kernel_rfl
theorem infoLoop : (Tryz.prog.info? 85).map (fun i => (i.zero, i.size, i.bytes)) = some (some (.agg #[.int .i64 0, .int .i64 0, .int .i64 0]), 3, 24) := by kernel_rfl
theorem infoBlk : (Tryz.prog.info? 55).map (fun i => (i.zero, i.size, i.bytes)) = some (some (.agg #[.slice none 0 0, .int .i64 0, .int .i64 0, .int .i64 0, .int .i64 0, .int .i32 0, .int .i64 0, .int .i64 0, .int .i32 0, .int .i64 0, .int .i64 0, .int .i32 0, .int .i64 0, .int .i64 0]), 14, 128) := by kernel_rfl
def zeroT : TermV := ⟨0, 0, noOpd, noOpd, noOpd, 0, 0⟩
section
variable {rb n0 n1 : Nat} {g : Nat → Value} {qs : List ArV} {ls : List LoV} {init : List BlE} {last : Option BlE} {fs : List ByteArray} {w0 W : World}
theorem RD.cell (h : RD rb n0 n1 g qs ls init last fs w0 W) (i : Nat) (hi : i < 8) : W.cell? ⟨rb, i, none⟩ = some (g i) := by
  obtain ⟨v, h1, _⟩ := h
  rw [h1.row.cell (by omega), upd_ne _ _ _ _ (by omega)]
theorem RD.frozen (h : RD rb n0 n1 g qs ls init last fs w0 W) (i : Nat) : W.frozen? ⟨rb, i, none⟩ = false := by
  obtain ⟨v, h1, _⟩ := h
  exact h1.row.frozen i
theorem RD.size (h : RD rb n0 n1 g qs ls init last fs w0 W) : n0 ≤ W.heap.size := by
  obtain ⟨v, h1, _⟩ := h
  have := h1.hn
  omega
theorem RD.rowA (h : RD rb n0 n1 g qs ls init last fs w0 W) : W.ownsRow n0 91 4 (g 5) qs.length (flatA qs) := by
  obtain ⟨v, h1, _⟩ := h
  have := h1.arr
  rwa [upd_ne _ _ _ _ (by decide)] at this
theorem RD.rowL (h : RD rb n0 n1 g qs ls init last fs w0 W) : W.ownsRow n0 85 3 (g 6) ls.length (flatL ls) := by
  obtain ⟨v, h1, _⟩ := h
  have := h1.loops
  rwa [upd_ne _ _ _ _ (by decide)] at this
theorem RD.rowB (h : RD rb n0 n1 g qs ls init last fs w0 W) : W.ownsRow n0 55 14 (g 7) (init ++ last.toList).length (flatB (init ++ last.toList)) := by
  obtain ⟨v, h1, _⟩ := h
  have := h1.blocks
  rwa [upd_ne _ _ _ _ (by decide)] at this
theorem set_kept {W : World} {rb : Nat} {f : Nat → Value} (hr : W.rowIs rb 166 9 f) (o : Nat) (u : Value) : Kept (· ≠ 166) W (W.setCell ⟨rb, o, none⟩ u) :=
  fun k C T fr hk hT => Below.heap_setCell W ⟨rb, o, none⟩ u k (row_ne hr hk (fun e => hT e.symm))
theorem row_grow {W W' : World} {base e size n m : Nat} {v : Value} {xs : List Value} {f : Nat → Value} {b T : Nat} (hr : W.rowIs b T m f) (h : W.ownsRow base e size v n xs) (hg : W.grownBy W' v.ownBlock) (hT : T ≠ e) : W'.rowIs b T m f := by
  obtain ⟨c, hc, _⟩ := id hr
  exact hr.of_block (grow_kept h hg b _ _ _ hc hT)
theorem fsl_grow {W W' : World} {base e size n : Nat} {v u : Value} {xs : List Value} {fs : List ByteArray} (hf : FSl W u fs) (h : W.ownsRow base e size v n xs) (hg : W.grownBy W' v.ownBlock) (hT : 9 ≠ e) : FSl W' u fs :=
  hf.of_blocks (fun k C fr hk => (grow_kept h hg k C 9 fr hk hT).trans hk)
theorem grow_below {W W' : World} {base e size n B : Nat} {v : Value} {xs : List Value} {w0 : World} (h0 : Below B w0 W) (h : W.ownsRow base e size v n xs) (hg : W.grownBy W' v.ownBlock) (hb : B ≤ base) (hB : B ≤ w0.heap.size) : Below B w0 W' := by
  refine ⟨hg.os.trans h0.os, hg.tape.trans h0.tape, hg.output.trans h0.output, Nat.le_trans h0.size hg.size, fun i hi => ?_⟩
  have := h0.size
  refine (hg.block i (by omega) (fun e => ?_)).trans (h0.block i hi)
  have := (h.lt i e.symm).1
  omega
theorem below_set {B : Nat} {w0 W : World} (h : Below B w0 W) {a : Addr} (ha : B ≤ a.block) (v : Value) : Below B w0 (W.setCell a v) := h.setCell ha v
theorem ch_push {W W' : World} {base e size n rb : Nat} {v u : Value} {xs : List Value} {w0 : World} (h0 : Ch rb rb w0 W) (h : W.ownsRow base e size v n xs) (hg : W.grownBy W' v.ownBlock) (hb : w0.heap.size ≤ base) (o : Nat) : Ch rb rb w0 (W'.setCell ⟨rb, o, none⟩ u) := by
  refine Ch.trans (w1 := W') ⟨hg.os.trans h0.os, hg.tape.trans h0.tape, hg.output.trans h0.output, Nat.le_trans h0.size hg.size, fun i hi ha _ => ?_⟩ (Ch.set1 rb rb W' o u)
  have := h0.size
  refine (hg.block i (by omega) (fun e => ?_)).trans (h0.block i hi ha ha)
  have := (h.lt i e.symm).1
  omega
theorem RD.pushA {W' : World} {v : Value} {a : ArV} (h : RD rb n0 n1 g qs ls init last fs w0 W) (hr : W'.ownsRow n0 91 4 v (qs.length + 1) (flatA qs ++ arC a)) (hg : W.grownBy W' (g 5).ownBlock) :
    RD rb n0 n1 (upd g 5 v) (qs ++ [a]) ls init last fs w0 (W'.setCell ⟨rb, 5, none⟩ v) := by
  have hA := h.rowA
  obtain ⟨u, h1, h2, h3, h4⟩ := h
  have hrow := row_grow h1.row hA hg (by decide)
  have hk := grow_kept hA hg
  have hs := set_kept hrow 5 v
  have hn := h1.hn
  have hgs := hg.size
  refine ⟨u, ⟨?_, ?_, ?_, ?_, ?_, ?_, ?_⟩, ?_, ?_, h4⟩
  · rw [upd_comm _ _ _ _ _ (by decide)]; exact hrow.set 5 v
  · rw [upd_ne _ _ _ _ (by decide), flatA_snoc, List.length_append]
    rw [show upd g 5 v 5 = v from by simp [upd]]
    exact row_kept hr hs (by decide)
  · rw [upd_ne _ _ _ _ (by decide), upd_ne _ _ _ _ (by decide)]
    have := h1.loops
    rw [upd_ne _ _ _ _ (by decide)] at this
    exact row_kept (row_kept this hk (by decide)) hs (by decide)
  · rw [upd_ne _ _ _ _ (by decide), upd_ne _ _ _ _ (by decide)]
    have := h1.blocks
    rw [upd_ne _ _ _ _ (by decide)] at this
    exact row_kept (row_kept this hk (by decide)) hs (by decide)
  · exact fun e he => ⟨row_kept (row_kept (h1.old e he).1 hk (by decide)) hs (by decide), (h1.old e he).2⟩
  · exact fun e he => row_kept (row_kept (h1.new e he) hk (by decide)) hs (by decide)
  · simp [World.setCell]; omega
  · exact (fsl_grow h2 hA hg (by decide)).setR hrow (by decide) 5 v
  · exact ch_push h3 hA hg h4 _
theorem RD.pushL {W' : World} {v : Value} {a : LoV} (h : RD rb n0 n1 g qs ls init last fs w0 W) (hr : W'.ownsRow n0 85 3 v (ls.length + 1) (flatL ls ++ loC a)) (hg : W.grownBy W' (g 6).ownBlock) :
    RD rb n0 n1 (upd g 6 v) qs (ls ++ [a]) init last fs w0 (W'.setCell ⟨rb, 6, none⟩ v) := by
  have hA := h.rowL
  obtain ⟨u, h1, h2, h3, h4⟩ := h
  have hrow := row_grow h1.row hA hg (by decide)
  have hk := grow_kept hA hg
  have hs := set_kept hrow 6 v
  have hn := h1.hn
  have hgs := hg.size
  refine ⟨u, ⟨?_, ?_, ?_, ?_, ?_, ?_, ?_⟩, ?_, ?_, h4⟩
  · rw [upd_comm _ _ _ _ _ (by decide)]; exact hrow.set 6 v
  · rw [upd_ne _ _ _ _ (by decide), upd_ne _ _ _ _ (by decide)]
    have := h1.arr
    rw [upd_ne _ _ _ _ (by decide)] at this
    exact row_kept (row_kept this hk (by decide)) hs (by decide)
  · rw [upd_ne _ _ _ _ (by decide), flatL_snoc, List.length_append]
    rw [show upd g 6 v 6 = v from by simp [upd]]
    exact row_kept hr hs (by decide)
  · rw [upd_ne _ _ _ _ (by decide), upd_ne _ _ _ _ (by decide)]
    have := h1.blocks
    rw [upd_ne _ _ _ _ (by decide)] at this
    exact row_kept (row_kept this hk (by decide)) hs (by decide)
  · exact fun e he => ⟨row_kept (row_kept (h1.old e he).1 hk (by decide)) hs (by decide), (h1.old e he).2⟩
  · exact fun e he => row_kept (row_kept (h1.new e he) hk (by decide)) hs (by decide)
  · simp [World.setCell]; omega
  · exact (fsl_grow h2 hA hg (by decide)).setR hrow (by decide) 6 v
  · exact ch_push h3 hA hg h4 _
theorem RD.pushB {W' : World} {v : Value} (h : RD rb n0 n1 g qs ls init last fs w0 W) (hr : W'.ownsRow n0 55 14 v ((init ++ last.toList).length + 1) (flatB (init ++ last.toList) ++ blC (.slice none 0 0, [], zeroT))) (hg : W.grownBy W' (g 7).ownBlock) :
    RD rb n0 W'.heap.size (upd g 7 v) qs ls (init ++ last.toList) (some (.slice none 0 0, [], zeroT)) fs w0 (W'.setCell ⟨rb, 7, none⟩ v) := by
  have hA := h.rowB
  obtain ⟨u, h1, h2, h3, h4⟩ := h
  have hrow := row_grow h1.row hA hg (by decide)
  have hk := grow_kept hA hg
  have hs := set_kept hrow 7 v
  have hn := h1.hn
  have hgs := hg.size
  refine ⟨u, ⟨?_, ?_, ?_, ?_, ?_, ?_, ?_⟩, ?_, ?_, h4⟩
  · rw [upd_comm _ _ _ _ _ (by decide)]; exact hrow.set 7 v
  · rw [upd_ne _ _ _ _ (by decide), upd_ne _ _ _ _ (by decide)]
    have := h1.arr
    rw [upd_ne _ _ _ _ (by decide)] at this
    exact row_kept (row_kept this hk (by decide)) hs (by decide)
  · rw [upd_ne _ _ _ _ (by decide), upd_ne _ _ _ _ (by decide)]
    have := h1.loops
    rw [upd_ne _ _ _ _ (by decide)] at this
    exact row_kept (row_kept this hk (by decide)) hs (by decide)
  · rw [upd_ne _ _ _ _ (by decide)]
    rw [show upd g 7 v 7 = v from by simp [upd]]
    simp only [Option.toList]
    rw [flatB_snoc, List.length_append]
    exact row_kept hr hs (by decide)
  · intro e he
    rw [List.mem_append] at he
    have hold : W.ownsRow n0 61 15 e.1 e.2.1.length (flatI e.2.1) := by
      rcases he with he | he
      · exact (h1.old e he).1
      · have : last = some e := by cases last with
          | none => cases he
          | some x => simp [Option.toList] at he; rw [he]
        exact (h1.new e this).mono (by omega)
    exact ⟨row_kept (row_kept hold hk (by decide)) hs (by decide), fun k hk2 => Nat.lt_of_lt_of_le (hold.lt k hk2).2 hgs⟩
  · intro e he
    injection he with he
    subst he
    exact World.ownsRow_nil _ _ _ _
  · simp [World.setCell]; omega
  · exact (fsl_grow h2 hA hg (by decide)).setR hrow (by decide) 7 v
  · exact ch_push h3 hA hg h4 _
end
theorem RPt.drew {w : World} {rb tb : Nat} {A : Option Addr} {n : Nat} {o : Nat → Nat} (h : RPt w rb tb A n o) : RPt w.drew rb tb A n o := h
theorem rpt5 (W : World) (rb T : Nat) (hlt : rb < W.heap.size) : RPt (W.alloc (.cells #[.pointer (some ⟨rb, 0, none⟩), .pointer (some ⟨rb, 1, none⟩), .pointer (some ⟨rb, 2, none⟩), .pointer (some ⟨rb, 3, none⟩), .pointer (some ⟨rb, 4, none⟩)] T)) rb rb (some ⟨W.heap.size, 0, none⟩) 5 (fun j => j) := fun _ => by
  refine ⟨W.heap.size, 0, _, T, (0, 0), rfl, by omega, by omega, heap_alloc_new _ _, fun j hj => ?_⟩
  match j, hj with
  | 0, _ => rfl
  | 1, _ => rfl
  | 2, _ => rfl
  | 3, _ => rfl
  | 4, _ => rfl
theorem rpt3 (W W' : World) (rb tb T : Nat) (o1 o2 o3 : Nat) (hlt : rb < W.heap.size) (htb : tb < W.heap.size) (hW : W' = W.alloc (.cells #[.pointer (some ⟨tb, o1, none⟩), .pointer (some ⟨tb, o2, none⟩), .pointer (some ⟨tb, o3, none⟩)] T)) (A : Addr) (hA : A = ⟨W.heap.size, 0, none⟩) (o : Nat → Nat) (h1 : o 0 = o1) (h2 : o 1 = o2) (h3 : o 2 = o3) : RPt W' rb tb (some A) 3 o := fun _ => by
  subst hW hA h1 h2 h3
  refine ⟨W.heap.size, 0, _, T, (0, 0), rfl, by omega, by omega, heap_alloc_new _ _, fun j hj => ?_⟩
  match j, hj with
  | 0, _ => rfl
  | 1, _ => rfl
  | 2, _ => rfl
section
variable (rb n0 n1 : Nat) (g : Nat → Value) (qs : List ArV) (ls : List LoV) (init : List BlE) (last : Option BlE) (fs : List ByteArray) (w0 W : World)
set_option maxRecDepth 100000 in
set_option maxHeartbeats 4000000 in
theorem line_code (h : RD rb n0 n1 g qs ls init last fs w0 W) (hE : EnvX rb w0) (hl : fs.length ≤ 1000000) (hsz : ∀ s, s ∈ fs → s.size ≤ 281474976710656) (hw : fldV fs = ⟨#[99, 111, 100, 101]⟩) :
    Calls Tryz.prog 106 #[.pointer (some ⟨rb, 0, none⟩)] W fun e w' => (∃ v, e = .returned v) ∧ RD rb n0 n1 (updN g (fun j => j) fs.tail 5) qs ls init last (fs.tail.drop 5) w0 w' := by
  have HF := Lib.hid (h.field hl)
  rw [hw] at HF
  have hl2 : fs.tail.length ≤ 1000000 := by simp; omega
  have hsz2 : ∀ s, s ∈ fs.tail → s.size ≤ 281474976710656 := fun s hs => hsz s (List.mem_of_mem_tail hs)
  have HN := Lib.hid (fun (W1 : World) (h1 : RD rb n0 n1 g qs ls init last fs.tail w0 W1) (A : Option Addr) (c : Nat) (hp : RPt W1 rb rb A 5 (fun j => j)) => h1.five hE hl2 hsz2 A c hp)
  clear h hE hl hsz hw hl2 hsz2
  go_enter Tryz.func106, Tryz.ntmps106
  go_wp2_with (go_at_call 138; (with_reducible refine HF.out.mono ?_); rintro e W1 ⟨rfl, h1⟩; have H1 := Lib.hid h1; clear h1)
  have hlt : rb < W1.heap.size := by obtain ⟨v, h1, _⟩ := H1.out; exact h1.row.lt
  go_region_with (first | (go_at_call 139; refine (HN.out _ ?_ _ _ ?_).mono ?_; (first | exact H1.out.drew.alloc _ | exact (H1.out.alloc _).drew); exact (rpt5 W1 rb 186 hlt).drew; rintro e w2 ⟨⟨v, rfl⟩, h2⟩; have H2 := Lib.hid h2; clear h2))
  all_goals
    go_wp2
    go_end0
    exact ⟨⟨_, rfl⟩, H2.out⟩
end

theorem updN3 (h : Nat → Value) (fs : List ByteArray) : updN h (fun j => j + 1) fs 3 0 = h 0 ∧ updN h (fun j => j + 1) fs 3 1 = .int .i64 (atoiV (fs.getD 0 ⟨#[]⟩).data.toList) ∧ updN h (fun j => j + 1) fs 3 2 = .int .i64 (atoiV (fs.getD 1 ⟨#[]⟩).data.toList) ∧ updN h (fun j => j + 1) fs 3 3 = .int .i64 (atoiV (fs.getD 2 ⟨#[]⟩).data.toList) := by
  simp [updN, upd]
theorem updN3' (h : Nat → Value) (fs : List ByteArray) : updN h (fun j => j) fs 3 0 = .int .i64 (atoiV (fs.getD 0 ⟨#[]⟩).data.toList) ∧ updN h (fun j => j) fs 3 1 = .int .i64 (atoiV (fs.getD 1 ⟨#[]⟩).data.toList) ∧ updN h (fun j => j) fs 3 2 = .int .i64 (atoiV (fs.getD 2 ⟨#[]⟩).data.toList) := by
  simp [updN, upd]
section
variable {rb n0 n1 : Nat} {g : Nat → Value} {qs : List ArV} {ls : List LoV} {init : List BlE} {last : Option BlE} {fs : List ByteArray} {w0 W : World}
theorem RD.afterA {W' : World} (h : RD rb n0 n1 g qs ls init last fs w0 W) (hg : W.grownBy W' (g 5).ownBlock) : W'.cell? ⟨rb, 5, none⟩ = some (g 5) ∧ W'.frozen? ⟨rb, 5, none⟩ = false := by
  have hA := h.rowA
  obtain ⟨v, h1, _⟩ := h
  have hr := row_grow h1.row hA hg (by decide)
  exact ⟨by rw [hr.cell (by decide), upd_ne _ _ _ _ (by decide)], hr.frozen _⟩
theorem RD.afterL {W' : World} (h : RD rb n0 n1 g qs ls init last fs w0 W) (hg : W.grownBy W' (g 6).ownBlock) : W'.cell? ⟨rb, 6, none⟩ = some (g 6) ∧ W'.frozen? ⟨rb, 6, none⟩ = false := by
  have hA := h.rowL
  obtain ⟨v, h1, _⟩ := h
  have hr := row_grow h1.row hA hg (by decide)
  exact ⟨by rw [hr.cell (by decide), upd_ne _ _ _ _ (by decide)], hr.frozen _⟩
theorem RD.afterB {W' : World} (h : RD rb n0 n1 g qs ls init last fs w0 W) (hg : W.grownBy W' (g 7).ownBlock) : W'.cell? ⟨rb, 7, none⟩ = some (g 7) ∧ W'.frozen? ⟨rb, 7, none⟩ = false := by
  have hA := h.rowB
  obtain ⟨v, h1, _⟩ := h
  have hr := row_grow h1.row hA hg (by decide)
  exact ⟨by rw [hr.cell (by decide), upd_ne _ _ _ _ (by decide)], hr.frozen _⟩
theorem RD.rlt (h : RD rb n0 n1 g qs ls init last fs w0 W) : rb < W.heap.size := by
  obtain ⟨v, h1, _⟩ := h
  exact h1.row.lt
end
section
variable (rb n0 n1 : Nat) (g : Nat → Value) (qs : List ArV) (ls : List LoV) (init : List BlE) (last : Option BlE) (fs : List ByteArray) (w0 W : World)
set_option maxRecDepth 100000 in
set_option maxHeartbeats 4000000 in
theorem line_block (h : RD rb n0 n1 g qs ls init last fs w0 W) (hl : fs.length ≤ 1000000) (hq : (init ++ last.toList).length ≤ 1000000) (hw : fldV fs = ⟨#[98, 108, 111, 99, 107]⟩) :
    Calls Tryz.prog 106 #[.pointer (some ⟨rb, 0, none⟩)] W fun e w' => (∃ v, e = .returned v) ∧ ∃ v n1', RD rb n0 n1' (upd g 7 v) qs ls (init ++ last.toList) (some (.slice none 0 0, [], zeroT)) fs.tail w0 w' := by
  obtain ⟨i0, hi0, hz0, hz1, hz2⟩ := info_parts infoBlk
  have HF := Lib.hid (h.field hl)
  rw [hw] at HF
  clear h hl hw
  go_enter Tryz.func106, Tryz.ntmps106
  go_wp2_with (first
    | (go_at_call 138; (with_reducible refine HF.out.mono ?_); rintro e W1 ⟨rfl, h1⟩; have c7 := h1.cell 7 (by decide); have ca7 := (fun C => (h1.alloc (.cells C 55)).cell 7 (by decide)); have H1 := Lib.hid h1; clear h1)
    | (at_builtin; refine wpList_append_own _ rfl _ _ 34 rfl n0 55 i0 (.agg #[.slice none 0 0, .int .i64 0, .int .i64 0, .int .i64 0, .int .i64 0, .int .i32 0, .int .i64 0, .int .i64 0, .int .i32 0, .int .i64 0, .int .i64 0, .int .i32 0, .int .i64 0, .int .i64 0]) 14 128 Tryz.underlying34 hi0 hz0 hz1 hz2 rfl (by decide) (g 7) (init ++ last.toList).length (flatB (init ++ last.toList)) rfl (H1.out.alloc _).rowB ⟨W1.heap.size, 0, none⟩ 1 1 (blC (.slice none 0 0, [], zeroT)) rfl rfl (row_new W1 #[.slice none 0 0, .int .i64 0, .int .i64 0, .int .i64 0, .int .i64 0, .int .i32 0, .int .i64 0, .int .i64 0, .int .i32 0, .int .i64 0, .int .i64 0, .int .i32 0, .int .i64 0, .int .i64 0] 55) (by simp [blC, TermV.cells, zeroT, noOpd, Value.oneCell']) (by unfold maxLen; omega) (by omega) (H1.out.alloc _).size ?_; intro v' w8 hown' hgrow _; obtain ⟨gg, cap, rfl, _, _⟩ := hown'.form (by omega); obtain ⟨cc8, cf8⟩ := (H1.out.alloc _).afterB hgrow; have HP8 := Lib.hid ((H1.out.alloc _).pushB hown' hgrow); clear hown' hgrow))
  all_goals
    go_end0
    have hh := HP8.out
    rw [List.length_append] at hh
    exact ⟨⟨_, rfl⟩, _, _, hh⟩
end
end Go.Proofs.YtkncilgmlkeifaaGreatDoor
