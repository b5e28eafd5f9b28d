import Derived.Test.YtkncilgmlkeifaaGreatDoorRst
import Derived.Deep.RegionWith
import Derived.Deep.Onto
import Derived.Deep.RegionLaw
import Derived.Deep.AppendLies
/-
  Package code: the reader: the contract of line, for the words code, array, loop and block.
-/
set_option linter.unusedVariables false
set_option linter.unusedSimpArgs false
set_option maxRecDepth 100000
set_option maxHeartbeats 4000000
namespace Go.Proofs.YtkncilgmlkeifaaGreatDoor
open Go.ChangeShapes Go.WideShapes Go.ChangeAt Go.RowKit Go.Shelf
theorem infoArr : (Tryz.prog.info? 91).map (fun i => (i.zero, i.size, i.bytes)) = some (some (.agg #[.string ByteArray.empty, (0:Int), (0:Int), (0:Int)]), 4, 40) := by kernel_rfl
theorem infoLoop : (Tryz.prog.info? 85).map (fun i => (i.zero, i.size, i.bytes)) = some (some (.agg #[(0:Int), (0:Int), (0:Int)]), 3, 24) := by kernel_rfl
theorem infoBlk : (Tryz.prog.info? 55).map (fun i => (i.zero, i.size, i.bytes)) = some (some (.agg #[.slice none 0 0, (0:Int), (0:Int), (0:Int), (0:Int), .int .i32 0, (0:Int), (0:Int), .int .i32 0, (0:Int), (0:Int), .int .i32 0, (0:Int), (0:Int)]), 14, 128) := by kernel_rfl
def zeroT : TermV := ⟨0, 0, noOpd, noOpd, noOpd, 0, 0⟩
section
variable {rb n0 n1 : Nat} {g : Nat -> Value} {qs : List ArV} {ls : List LoV} {init : List BlE} {last : Option BlE} {fs : List ByteArray} {w0 W : World}
theorem RD.cell (h : RD rb n0 n1 g qs ls init last fs w0 W) (i : Nat) (hi : i < 8) : W.cell? ⟨rb, i, none⟩ = some (g i) := by
 obtain ⟨v, h1, _⟩ := h
 rw [h1.row.cell (by omega), upd_ne _ _ _ _ (by omega)]
theorem RD.frozen (h : RD rb n0 n1 g qs ls init last fs w0 W) (i : Nat) : W.frozen? ⟨rb, i, none⟩ = false := by
 obtain ⟨v, h1, _⟩ := h
 exact h1.row.frozen i
theorem RD.size (h : RD rb n0 n1 g qs ls init last fs w0 W) : n0 <= W.heap.size := by
 obtain ⟨v, h1, _⟩ := h
 have := h1.hn
 omega
theorem RD.rowA (h : RD rb n0 n1 g qs ls init last fs w0 W) : W.ownsRow n0 91 4 (g 5) qs.length (flatA qs) := by
 obtain ⟨v, h1, _⟩ := h
 have := h1.arr
 rwa [upd_ne _ _ _ _ (by decide)] at this
theorem RD.rowL (h : RD rb n0 n1 g qs ls init last fs w0 W) : W.ownsRow n0 85 3 (g 6) ls.length (flatL ls) := by
 obtain ⟨v, h1, _⟩ := h
 have := h1.loops
 rwa [upd_ne _ _ _ _ (by decide)] at this
theorem RD.rowB (h : RD rb n0 n1 g qs ls init last fs w0 W) : W.ownsRow n0 55 14 (g 7) (init ++ last.toList).length (flatB (init ++ last.toList)) := by
 obtain ⟨v, h1, _⟩ := h
 have := h1.blocks
 rwa [upd_ne _ _ _ _ (by decide)] at this
theorem set_kept {W : World} {rb : Nat} {f : Nat -> Value} (hr : W.rowIs rb 166 9 f) (o : Nat) (u : Value) : Kept (. ≠ 166) W (W.setCell ⟨rb, o, none⟩ u) :=
 fun k C T fr hk hT => Below.heap_setCell W ⟨rb, o, none⟩ u k (row_ne hr hk (fun e => hT e.symm))
theorem row_grow {W W' : World} {base e size n m : Nat} {v : Value} {xs : List Value} {f : Nat -> Value} {b T : Nat} (hr : W.rowIs b T m f) (h : W.ownsRow base e size v n xs) (hg : W.grownBy W' v.ownBlock) (hT : T ≠ e) : W'.rowIs b T m f := by
 obtain ⟨c, hc, _⟩ := id hr
 exact hr.of_block (grow_kept h hg b _ _ _ hc hT)
theorem fsl_grow {W W' : World} {base e size n : Nat} {v u : Value} {xs : List Value} {fs : List ByteArray} (hf : FSl W u fs) (h : W.ownsRow base e size v n xs) (hg : W.grownBy W' v.ownBlock) (hT : 9 ≠ e) : FSl W' u fs :=
 hf.of_blocks (fun k C fr hk => (grow_kept h hg k C 9 fr hk hT).trans hk)
theorem grow_below {W W' : World} {base e size n B : Nat} {v : Value} {xs : List Value} {w0 : World} (h0 : Below B w0 W) (h : W.ownsRow base e size v n xs) (hg : W.grownBy W' v.ownBlock) (hb : B <= base) (hB : B <= w0.heap.size) : Below B w0 W' := by
 refine ⟨hg.os.trans h0.os, hg.tape.trans h0.tape, hg.output.trans h0.output, Nat.le_trans h0.size hg.size, fun i hi => ?_⟩
 have := h0.size
 refine (hg.block i (by omega) (fun e => ?_)).trans (h0.block i hi)
 have := (h.lt i e.symm).1
 omega
theorem ch_push {W W' : World} {base e size n rb : Nat} {v u : Value} {xs : List Value} {w0 : World} (h0 : Ch rb rb w0 W) (h : W.ownsRow base e size v n xs) (hg : W.grownBy W' v.ownBlock) (hb : w0.heap.size <= base) (o : Nat) : Ch rb rb w0 (W'.setCell ⟨rb, o, none⟩ u) := by
 refine Ch.trans (w1 := W') ⟨hg.os.trans h0.os, hg.tape.trans h0.tape, hg.output.trans h0.output, Nat.le_trans h0.size hg.size, fun i hi ha _ => ?_⟩ (Ch.set1 rb rb W' o u)
 have := h0.size
 refine (hg.block i (by omega) (fun e => ?_)).trans (h0.block i hi ha ha)
 have := (h.lt i e.symm).1
 omega
theorem RD.pushA {W' : World} {v : Value} {a : ArV} (h : RD rb n0 n1 g qs ls init last fs w0 W) (hr : W'.ownsRow n0 91 4 v (qs.length + 1) (flatA qs ++ arC a)) (hg : W.grownBy W' (g 5).ownBlock) :
 RD rb n0 n1 (upd g 5 v) (qs ++ [a]) ls init last fs w0 (W'.setCell ⟨rb, 5, none⟩ v) := by
 have hA := h.rowA
 obtain ⟨u, h1, h2, h3, h4⟩ := h
 have hrow := row_grow h1.row hA hg (by decide)
 have hk := grow_kept hA hg
 have hs := set_kept hrow 5 v
 have hn := h1.hn
 have hgs := hg.size
 refine ⟨u, ⟨?_, ?_, ?_, ?_, ?_, ?_, ?_⟩, ?_, ?_, h4⟩
 . rw [upd_comm _ _ _ _ _ (by decide)]; exact hrow.set 5 v
 . rw [upd_ne _ _ _ _ (by decide), flatA_snoc, List.length_append]
   rw [show upd g 5 v 5 = v from by simp [upd]]
   exact row_kept hr hs (by decide)
 . rw [upd_ne _ _ _ _ (by decide), upd_ne _ _ _ _ (by decide)]
   have := h1.loops
   rw [upd_ne _ _ _ _ (by decide)] at this
   exact row_kept (row_kept this hk (by decide)) hs (by decide)
 . rw [upd_ne _ _ _ _ (by decide), upd_ne _ _ _ _ (by decide)]
   have := h1.blocks
   rw [upd_ne _ _ _ _ (by decide)] at this
   exact row_kept (row_kept this hk (by decide)) hs (by decide)
 . exact fun e he => ⟨row_kept (row_kept (h1.old e he).1 hk (by decide)) hs (by decide), (h1.old e he).2⟩
 . exact fun e he => row_kept (row_kept (h1.new e he) hk (by decide)) hs (by decide)
 . simp [World.setCell]; omega
 . exact (fsl_grow h2 hA hg (by decide)).setR hrow (by decide) 5 v
 . exact ch_push h3 hA hg h4 _
theorem RD.pushL {W' : World} {v : Value} {a : LoV} (h : RD rb n0 n1 g qs ls init last fs w0 W) (hr : W'.ownsRow n0 85 3 v (ls.length + 1) (flatL ls ++ loC a)) (hg : W.grownBy W' (g 6).ownBlock) :
 RD rb n0 n1 (upd g 6 v) qs (ls ++ [a]) init last fs w0 (W'.setCell ⟨rb, 6, none⟩ v) := by
 have hA := h.rowL
 obtain ⟨u, h1, h2, h3, h4⟩ := h
 have hrow := row_grow h1.row hA hg (by decide)
 have hk := grow_kept hA hg
 have hs := set_kept hrow 6 v
 have hn := h1.hn
 have hgs := hg.size
 refine ⟨u, ⟨?_, ?_, ?_, ?_, ?_, ?_, ?_⟩, ?_, ?_, h4⟩
 . rw [upd_comm _ _ _ _ _ (by decide)]; exact hrow.set 6 v
 . rw [upd_ne _ _ _ _ (by decide), upd_ne _ _ _ _ (by decide)]
   have := h1.arr
   rw [upd_ne _ _ _ _ (by decide)] at this
   exact row_kept (row_kept this hk (by decide)) hs (by decide)
 . rw [upd_ne _ _ _ _ (by decide), flatL_snoc, List.length_append]
   rw [show upd g 6 v 6 = v from by simp [upd]]
   exact row_kept hr hs (by decide)
 . rw [upd_ne _ _ _ _ (by decide), upd_ne _ _ _ _ (by decide)]
   have := h1.blocks
   rw [upd_ne _ _ _ _ (by decide)] at this
   exact row_kept (row_kept this hk (by decide)) hs (by decide)
 . exact fun e he => ⟨row_kept (row_kept (h1.old e he).1 hk (by decide)) hs (by decide), (h1.old e he).2⟩
 . exact fun e he => row_kept (row_kept (h1.new e he) hk (by decide)) hs (by decide)
 . simp [World.setCell]; omega
 . exact (fsl_grow h2 hA hg (by decide)).setR hrow (by decide) 6 v
 . exact ch_push h3 hA hg h4 _
theorem RD.pushB {W' : World} {v : Value} (h : RD rb n0 n1 g qs ls init last fs w0 W) (hr : W'.ownsRow n0 55 14 v ((init ++ last.toList).length + 1) (flatB (init ++ last.toList) ++ blC (.slice none 0 0, [], zeroT))) (hg : W.grownBy W' (g 7).ownBlock) :
 RD rb n0 W'.heap.size (upd g 7 v) qs ls (init ++ last.toList) (some (.slice none 0 0, [], zeroT)) fs w0 (W'.setCell ⟨rb, 7, none⟩ v) := by
 have hA := h.rowB
 obtain ⟨u, h1, h2, h3, h4⟩ := h
 have hrow := row_grow h1.row hA hg (by decide)
 have hk := grow_kept hA hg
 have hs := set_kept hrow 7 v
 have hn := h1.hn
 have hgs := hg.size
 refine ⟨u, ⟨?_, ?_, ?_, ?_, ?_, ?_, ?_⟩, ?_, ?_, h4⟩
 . rw [upd_comm _ _ _ _ _ (by decide)]; exact hrow.set 7 v
 . rw [upd_ne _ _ _ _ (by decide), upd_ne _ _ _ _ (by decide)]
   have := h1.arr
   rw [upd_ne _ _ _ _ (by decide)] at this
   exact row_kept (row_kept this hk (by decide)) hs (by decide)
 . rw [upd_ne _ _ _ _ (by decide), upd_ne _ _ _ _ (by decide)]
   have := h1.loops
   rw [upd_ne _ _ _ _ (by decide)] at this
   exact row_kept (row_kept this hk (by decide)) hs (by decide)
 . rw [upd_ne _ _ _ _ (by decide)]
   rw [show upd g 7 v 7 = v from by simp [upd]]
   simp only [Option.toList]
   rw [flatB_snoc, List.length_append]
   exact row_kept hr hs (by decide)
 . intro e he
   rw [List.mem_append] at he
   have hold : W.ownsRow n0 61 15 e.1 e.2.1.length (flatI e.2.1) := by
    rcases he with he | he
    . exact (h1.old e he).1
    . have : last = some e := by cases last with
       | none => cases he
       | some x => simp [Option.toList] at he; rw [he]
      exact (h1.new e this).mono (by omega)
   exact ⟨row_kept (row_kept hold hk (by decide)) hs (by decide), fun k hk2 => Nat.lt_of_lt_of_le (hold.lt k hk2).2 hgs⟩
 . intro e he
   injection he with he
   subst he
   exact World.ownsRow_nil _ _ _ _
 . simp [World.setCell]; omega
 . exact (fsl_grow h2 hA hg (by decide)).setR hrow (by decide) 7 v
 . exact ch_push h3 hA hg h4 _
end
theorem RPt.drew {w : World} {rb tb : Nat} {A : Option Addr} {n : Nat} {o : Nat -> Nat} (h : RPt w rb tb A n o) : RPt w.drew rb tb A n o := h
theorem rpt5 (W : World) (rb T : Nat) (hlt : rb < W.heap.size) : RPt (W.alloc (.cells #[.pointer (some ⟨rb, 0, none⟩), .pointer (some ⟨rb, 1, none⟩), .pointer (some ⟨rb, 2, none⟩), .pointer (some ⟨rb, 3, none⟩), .pointer (some ⟨rb, 4, none⟩)] T)) rb rb (some ⟨W.heap.size, 0, none⟩) 5 (fun j => j) := fun _ => by
 refine ⟨W.heap.size, 0, _, T, (0, 0), rfl, by omega, by omega, heap_alloc_new _ _, fun j hj => ?_⟩
 match j, hj with
 | 0, _ => rfl
 | 1, _ => rfl
 | 2, _ => rfl
 | 3, _ => rfl
 | 4, _ => rfl
theorem rpt3 (W W' : World) (rb tb T : Nat) (o1 o2 o3 : Nat) (hlt : rb < W.heap.size) (htb : tb < W.heap.size) (hW : W' = W.alloc (.cells #[.pointer (some ⟨tb, o1, none⟩), .pointer (some ⟨tb, o2, none⟩), .pointer (some ⟨tb, o3, none⟩)] T)) (A : Addr) (hA : A = ⟨W.heap.size, 0, none⟩) (o : Nat -> Nat) (h1 : o 0 = o1) (h2 : o 1 = o2) (h3 : o 2 = o3) : RPt W' rb tb (some A) 3 o := fun _ => by
 subst hW hA h1 h2 h3
 refine ⟨W.heap.size, 0, _, T, (0, 0), rfl, by omega, by omega, heap_alloc_new _ _, fun j hj => ?_⟩
 match j, hj with
 | 0, _ => rfl
 | 1, _ => rfl
 | 2, _ => rfl
section
variable (rb n0 n1 : Nat) (g : Nat -> Value) (qs : List ArV) (ls : List LoV) (init : List BlE) (last : Option BlE) (fs : List ByteArray) (w0 W : World)
theorem line_code (h : RD rb n0 n1 g qs ls init last fs w0 W) (hE : EnvX rb w0) (hl : fs.length <= 1000000) (hsz : ∀ s, s ∈ fs -> s.size <= 281474976710656) (hw : fldV fs = ⟨#[99, 111, 100, 101]⟩) :
 Calls Tryz.prog 106 #[.pointer (some ⟨rb, 0, none⟩)] W fun e w' => (∃ v, e = .returned v) /\ RD rb n0 n1 (updN g (fun j => j) fs.tail 5) qs ls init last (fs.tail.drop 5) w0 w' := by
 have HF := lh (h.field hl)
 rw [hw] at HF
 have hl2 : fs.tail.length <= 1000000 := by simp; omega
 have hsz2 : ∀ s, s ∈ fs.tail -> s.size <= 281474976710656 := fun s hs => hsz s (List.mem_of_mem_tail hs)
 have HN := lh (fun (W1 : World) (h1 : RD rb n0 n1 g qs ls init last fs.tail w0 W1) (A : Option Addr) (c : Nat) (hp : RPt W1 rb rb A 5 (fun j => j)) => h1.five hE hl2 hsz2 A c hp)
 clear h hE hl hsz hw hl2 hsz2
 go_enter Tryz.func106, Tryz.ntmps106
 go_wp2_with (go_at_call 138; (with_reducible refine HF.out.mono ?_); rintro e W1 ⟨rfl, h1⟩; have H1 := lh h1; clear h1)
 have hlt : rb < W1.heap.size := by obtain ⟨v, h1, _⟩ := H1.out; exact h1.row.lt
 go_region_with (first | (go_at_call 139; refine (HN.out _ ?_ _ _ ?_).mono ?_; (first | exact H1.out.drew.alloc _ | exact (H1.out.alloc _).drew); exact (rpt5 W1 rb 186 hlt).drew; rintro e w2 ⟨⟨v, rfl⟩, h2⟩; have H2 := lh h2; clear h2))
 all_goals
  go_wp2
  go_end0
  exact ⟨⟨_, rfl⟩, H2.out⟩
end
theorem updN3 (h : Nat -> Value) (fs : List ByteArray) : updN h (fun j => j + 1) fs 3 0 = h 0 /\ updN h (fun j => j + 1) fs 3 1 = .int .i64 (atoiV (fs.getD 0 ⟨#[]⟩).data.toList) /\ updN h (fun j => j + 1) fs 3 2 = .int .i64 (atoiV (fs.getD 1 ⟨#[]⟩).data.toList) /\ updN h (fun j => j + 1) fs 3 3 = .int .i64 (atoiV (fs.getD 2 ⟨#[]⟩).data.toList) := by
 simp [updN, upd]
theorem updN3' (h : Nat -> Value) (fs : List ByteArray) : updN h (fun j => j) fs 3 0 = .int .i64 (atoiV (fs.getD 0 ⟨#[]⟩).data.toList) /\ updN h (fun j => j) fs 3 1 = .int .i64 (atoiV (fs.getD 1 ⟨#[]⟩).data.toList) /\ updN h (fun j => j) fs 3 2 = .int .i64 (atoiV (fs.getD 2 ⟨#[]⟩).data.toList) := by
 simp [updN, upd]
section
variable {rb n0 n1 : Nat} {g : Nat -> Value} {qs : List ArV} {ls : List LoV} {init : List BlE} {last : Option BlE} {fs : List ByteArray} {w0 W : World}
theorem RD.afterA {W' : World} (h : RD rb n0 n1 g qs ls init last fs w0 W) (hg : W.grownBy W' (g 5).ownBlock) : W'.cell? ⟨rb, 5, none⟩ = some (g 5) /\ W'.frozen? ⟨rb, 5, none⟩ = false := by
 have hA := h.rowA
 obtain ⟨v, h1, _⟩ := h
 have hr := row_grow h1.row hA hg (by decide)
 exact ⟨by rw [hr.cell (by decide), upd_ne _ _ _ _ (by decide)], hr.frozen _⟩
theorem RD.afterL {W' : World} (h : RD rb n0 n1 g qs ls init last fs w0 W) (hg : W.grownBy W' (g 6).ownBlock) : W'.cell? ⟨rb, 6, none⟩ = some (g 6) /\ W'.frozen? ⟨rb, 6, none⟩ = false := by
 have hA := h.rowL
 obtain ⟨v, h1, _⟩ := h
 have hr := row_grow h1.row hA hg (by decide)
 exact ⟨by rw [hr.cell (by decide), upd_ne _ _ _ _ (by decide)], hr.frozen _⟩
theorem RD.afterB {W' : World} (h : RD rb n0 n1 g qs ls init last fs w0 W) (hg : W.grownBy W' (g 7).ownBlock) : W'.cell? ⟨rb, 7, none⟩ = some (g 7) /\ W'.frozen? ⟨rb, 7, none⟩ = false := by
 have hA := h.rowB
 obtain ⟨v, h1, _⟩ := h
 have hr := row_grow h1.row hA hg (by decide)
 exact ⟨by rw [hr.cell (by decide), upd_ne _ _ _ _ (by decide)], hr.frozen _⟩
theorem RD.rlt (h : RD rb n0 n1 g qs ls init last fs w0 W) : rb < W.heap.size := by
 obtain ⟨v, h1, _⟩ := h
 exact h1.row.lt
end
section
variable (rb n0 n1 : Nat) (g : Nat -> Value) (qs : List ArV) (ls : List LoV) (init : List BlE) (last : Option BlE) (fs : List ByteArray) (w0 W : World)
theorem line_block (h : RD rb n0 n1 g qs ls init last fs w0 W) (hl : fs.length <= 1000000) (hq : (init ++ last.toList).length <= 1000000) (hw : fldV fs = ⟨#[98, 108, 111, 99, 107]⟩) :
 Calls Tryz.prog 106 #[.pointer (some ⟨rb, 0, none⟩)] W fun e w' => (∃ v, e = .returned v) /\ ∃ v n1', RD rb n0 n1' (upd g 7 v) qs ls (init ++ last.toList) (some (.slice none 0 0, [], zeroT)) fs.tail w0 w' := by
 obtain ⟨i0, hi0, hz0, hz1, hz2⟩ := info_parts infoBlk
 have HF := lh (h.field hl)
 rw [hw] at HF
 clear h hl hw
 go_enter Tryz.func106, Tryz.ntmps106
 go_wp2_with (first
  | (go_at_call 138; (with_reducible refine HF.out.mono ?_); rintro e W1 ⟨rfl, h1⟩; have c7 := h1.cell 7 (by decide); have ca7 := (fun C => (h1.alloc (.cells C 55)).cell 7 (by decide)); have H1 := lh h1; clear h1)
  | (at_builtin; refine wpList_append_own _ rfl _ _ 34 rfl n0 55 i0 (.agg #[.slice none 0 0, (0:Int), (0:Int), (0:Int), (0:Int), .int .i32 0, (0:Int), (0:Int), .int .i32 0, (0:Int), (0:Int), .int .i32 0, (0:Int), (0:Int)]) 14 128 Tryz.underlying34 hi0 hz0 hz1 hz2 rfl (by decide) (g 7) (init ++ last.toList).length (flatB (init ++ last.toList)) rfl (H1.out.alloc _).rowB ⟨W1.heap.size, 0, none⟩ 1 1 (blC (.slice none 0 0, [], zeroT)) rfl rfl (row_new W1 #[.slice none 0 0, (0:Int), (0:Int), (0:Int), (0:Int), .int .i32 0, (0:Int), (0:Int), .int .i32 0, (0:Int), (0:Int), .int .i32 0, (0:Int), (0:Int)] 55) (by simp [blC, TermV.cells, zeroT, noOpd, Value.oneCell']) (by unfold maxLen; omega) (by omega) (H1.out.alloc _).size ?_; intro v' w8 hown' hgrow _; obtain ⟨gg, cap, rfl, _, _⟩ := hown'.form (by omega); obtain ⟨cc8, cf8⟩ := (H1.out.alloc _).afterB hgrow; have HP8 := lh ((H1.out.alloc _).pushB hown' hgrow); clear hown' hgrow))
 all_goals
  go_end0
  have hh := HP8.out
  rw [List.length_append] at hh
  exact ⟨⟨_, rfl⟩, _, _, hh⟩
end
section
variable (rb n0 n1 : Nat) (g : Nat -> Value) (qs : List ArV) (ls : List LoV) (init : List BlE) (last : Option BlE) (fs : List ByteArray) (w0 W : World)
theorem line_array (h : RD rb n0 n1 g qs ls init last fs w0 W) (hE : EnvX rb w0) (hl : fs.length <= 1000000) (hsz : ∀ s, s ∈ fs -> s.size <= 281474976710656) (hq : qs.length <= 1000000) (hw : fldV fs = ⟨#[97, 114, 114, 97, 121]⟩) :
 Calls Tryz.prog 106 #[.pointer (some ⟨rb, 0, none⟩)] W fun e w' => (∃ v, e = .returned v) /\ ∃ v, RD rb n0 n1 (upd g 5 v) (qs ++ [(fldV fs.tail, atoiV (fs.tail.tail.getD 0 ⟨#[]⟩).data.toList, atoiV (fs.tail.tail.getD 1 ⟨#[]⟩).data.toList, atoiV (fs.tail.tail.getD 2 ⟨#[]⟩).data.toList)]) ls init last (fs.tail.tail.drop 3) w0 w' := by
 obtain ⟨i0, hi0, hz0, hz1, hz2⟩ := info_parts infoArr
 have HF := lh (h.field hl)
 rw [hw] at HF
 have hl1 : fs.tail.length <= 1000000 := by simp; omega
 have hl2 : fs.tail.tail.length <= 1000000 := by simp; omega
 have hsz2 : ∀ s, s ∈ fs.tail.tail -> s.size <= 281474976710656 := fun s hs => hsz s (List.mem_of_mem_tail (List.mem_of_mem_tail hs))
 have HF2 := lh (fun (W1 : World) (h1 : RD rb n0 n1 g qs ls init last fs.tail w0 W1) => h1.field hl1)
 have HN := lh (fun (nm : ByteArray) (W1 : World) (h1 : RD rb n0 n1 g qs ls init last fs.tail.tail w0 W1) (W2 : World) (hW2 : Below (W1.alloc (.cells #[.string nm, (0:Int), (0:Int), (0:Int)] 91)).heap.size (W1.alloc (.cells #[.string nm, (0:Int), (0:Int), (0:Int)] 91)) W2) (A : Option Addr) (c : Nat) (hp : RPt W2 rb W1.heap.size A 3 (fun j => j + 1)) => h1.three hE hl2 hsz2 91 4 _ rfl (by decide) (fun j => j + 1) (fun j hj => by omega) W2 hW2 A c hp)
 obtain ⟨nm, hnm⟩ : ∃ nm, fldV fs.tail = nm := ⟨_, rfl⟩
 obtain ⟨x0, hx0⟩ : ∃ x, atoiV (fs.tail.tail.getD 0 ⟨#[]⟩).data.toList = x := ⟨_, rfl⟩
 obtain ⟨x1, hx1⟩ : ∃ x, atoiV (fs.tail.tail.getD 1 ⟨#[]⟩).data.toList = x := ⟨_, rfl⟩
 obtain ⟨x2, hx2⟩ : ∃ x, atoiV (fs.tail.tail.getD 2 ⟨#[]⟩).data.toList = x := ⟨_, rfl⟩
 rw [hnm] at HF2
 have HC := lh (fun (w4 : World) (tb : Nat) (hr : w4.rowIs tb 91 4 (updN (fun i => (#[.string nm, (0:Int), (0:Int), (0:Int)] : Array Value).getD i undef) (fun j => j + 1) fs.tail.tail 3)) => (show w4.cell? ⟨tb, 0, none⟩ = some (.string nm) /\ w4.cell? ⟨tb, 1, none⟩ = some (.int .i64 x0) /\ w4.cell? ⟨tb, 2, none⟩ = some (.int .i64 x1) /\ w4.cell? ⟨tb, 3, none⟩ = some (.int .i64 x2) from by
  obtain ⟨k0, k1, k2, k3⟩ := updN3 (fun i => (#[.string nm, (0:Int), (0:Int), (0:Int)] : Array Value).getD i undef) fs.tail.tail
  refine ⟨by rw [hr.cell (i := 0) (by decide), k0]; rfl, by rw [hr.cell (i := 1) (by decide), k1, hx0], by rw [hr.cell (i := 2) (by decide), k2, hx1], by rw [hr.cell (i := 3) (by decide), k3, hx2]⟩))
 rw [hnm, hx0, hx1, hx2]
 clear h hE hl hsz hw hl1 hl2 hsz2 hnm hx0 hx1 hx2
 go_enter Tryz.func106, Tryz.ntmps106
 go_upto_region 10 with (first
  | (go_at_call 138; (with_reducible refine HF.out.mono ?_); rintro e W1 ⟨rfl, h1⟩; have H1 := lh h1; clear h1)
  | (go_at_call 138; (with_reducible refine (HF2.out _ H1.out).mono ?_); rintro e W2 ⟨rfl, h2⟩; have H2 := lh h2; clear h2)
  | (go_at_call 139; refine (HN.out nm W2 H2.out _ ?_ _ _ ?_).mono ?_; exact (Below.refl _ _).alloc (Nat.le_refl _) _; exact rpt3 (W2.alloc (.cells #[.string nm, (0:Int), (0:Int), (0:Int)] 91)) _ rb W2.heap.size 186 1 2 3 (by have := H2.out.rlt; simp; omega) (by simp) rfl _ (by simp) _ rfl rfl rfl; rintro e w4 ⟨⟨v, rfl⟩, h4, hr4⟩; obtain ⟨b0, b1, b2, b3⟩ := HC.out w4 _ hr4; have c5 := h4.cell 5 (by decide); have ca5 := (fun C => (h4.alloc (.cells C 91)).cell 5 (by decide)); have H4 := lh h4; clear h4 hr4))
 go_region_law (refine step_append_own rfl _ _ 32 (by rfl) n0 91 i0 _ 4 40 Tryz.underlying32 hi0 hz0 hz1 hz2 rfl (by decide) (g 5) qs.length (flatA qs) (by rfl) ((H4.out.alloc _).drew).rowA ⟨w4.heap.size, 0, none⟩ 1 1 (arC (nm, x0, x1, x2)) (by rfl) (by rfl) (row_new w4 #[.string nm, x0, x1, x2] 91) (by simp [arC, Value.oneCell']) (by unfold maxLen; omega) (by omega) ((H4.out.alloc _).drew).size ?_; intro v' w8 hown' hgrow _; obtain ⟨gg, cap, rfl, _, _⟩ := hown'.form (by omega); obtain ⟨cc8, cf8⟩ := ((H4.out.alloc _).drew).afterA hgrow; have HP8 := lh (((H4.out.alloc _).drew).pushA hown' hgrow); clear hown' hgrow)
 all_goals
  go_wp2
  go_end0
  exact ⟨⟨_, rfl⟩, _, HP8.out⟩
theorem line_loop (h : RD rb n0 n1 g qs ls init last fs w0 W) (hE : EnvX rb w0) (hl : fs.length <= 1000000) (hsz : ∀ s, s ∈ fs -> s.size <= 281474976710656) (hq : ls.length <= 1000000) (hw : fldV fs = ⟨#[108, 111, 111, 112]⟩) :
 Calls Tryz.prog 106 #[.pointer (some ⟨rb, 0, none⟩)] W fun e w' => (∃ v, e = .returned v) /\ ∃ v, RD rb n0 n1 (upd g 6 v) qs (ls ++ [(atoiV (fs.tail.getD 0 ⟨#[]⟩).data.toList, atoiV (fs.tail.getD 1 ⟨#[]⟩).data.toList, atoiV (fs.tail.getD 2 ⟨#[]⟩).data.toList)]) init last (fs.tail.drop 3) w0 w' := by
 obtain ⟨i0, hi0, hz0, hz1, hz2⟩ := info_parts infoLoop
 have HF := lh (h.field hl)
 rw [hw] at HF
 have hl1 : fs.tail.length <= 1000000 := by simp; omega
 have hsz2 : ∀ s, s ∈ fs.tail -> s.size <= 281474976710656 := fun s hs => hsz s (List.mem_of_mem_tail hs)
 have HN := lh (fun (W1 : World) (h1 : RD rb n0 n1 g qs ls init last fs.tail w0 W1) (W2 : World) (hW2 : Below (W1.alloc (.cells #[(0:Int), (0:Int), (0:Int)] 85)).heap.size (W1.alloc (.cells #[(0:Int), (0:Int), (0:Int)] 85)) W2) (A : Option Addr) (c : Nat) (hp : RPt W2 rb W1.heap.size A 3 (fun j => j)) => h1.three hE hl1 hsz2 85 3 _ rfl (by decide) (fun j => j) (fun j hj => hj) W2 hW2 A c hp)
 obtain ⟨x0, hx0⟩ : ∃ x, atoiV (fs.tail.getD 0 ⟨#[]⟩).data.toList = x := ⟨_, rfl⟩
 obtain ⟨x1, hx1⟩ : ∃ x, atoiV (fs.tail.getD 1 ⟨#[]⟩).data.toList = x := ⟨_, rfl⟩
 obtain ⟨x2, hx2⟩ : ∃ x, atoiV (fs.tail.getD 2 ⟨#[]⟩).data.toList = x := ⟨_, rfl⟩
 have HC := lh (fun (w4 : World) (tb : Nat) (hr : w4.rowIs tb 85 3 (updN (fun i => (#[(0:Int), (0:Int), (0:Int)] : Array Value).getD i undef) (fun j => j) fs.tail 3)) => (show w4.cell? ⟨tb, 0, none⟩ = some (.int .i64 x0) /\ w4.cell? ⟨tb, 1, none⟩ = some (.int .i64 x1) /\ w4.cell? ⟨tb, 2, none⟩ = some (.int .i64 x2) from by
  obtain ⟨k1, k2, k3⟩ := updN3' (fun i => (#[(0:Int), (0:Int), (0:Int)] : Array Value).getD i undef) fs.tail
  refine ⟨by rw [hr.cell (i := 0) (by decide), k1, hx0], by rw [hr.cell (i := 1) (by decide), k2, hx1], by rw [hr.cell (i := 2) (by decide), k3, hx2]⟩))
 rw [hx0, hx1, hx2]
 clear h hE hl hsz hw hl1 hsz2 hx0 hx1 hx2
 go_enter Tryz.func106, Tryz.ntmps106
 go_upto_region 14 with (first
  | (go_at_call 138; (with_reducible refine HF.out.mono ?_); rintro e W2 ⟨rfl, h1⟩; have H2 := lh h1; clear h1)
  | (go_at_call 139; refine (HN.out W2 H2.out _ ?_ _ _ ?_).mono ?_; exact (Below.refl _ _).alloc (Nat.le_refl _) _; exact rpt3 (W2.alloc (.cells #[(0:Int), (0:Int), (0:Int)] 85)) _ rb W2.heap.size 186 0 1 2 (by have := H2.out.rlt; simp; omega) (by simp) rfl _ (by simp) _ rfl rfl rfl; rintro e w4 ⟨⟨v, rfl⟩, h4, hr4⟩; obtain ⟨b0, b1, b2⟩ := HC.out w4 _ hr4; have c6 := h4.cell 6 (by decide); have ca6 := (fun C => (h4.alloc (.cells C 85)).cell 6 (by decide)); have H4 := lh h4; clear h4 hr4))
 go_region_law (refine step_append_own rfl _ _ 33 (by rfl) n0 85 i0 _ 3 24 Tryz.underlying33 hi0 hz0 hz1 hz2 rfl (by decide) (g 6) ls.length (flatL ls) (by rfl) ((H4.out.alloc _).drew).rowL ⟨w4.heap.size, 0, none⟩ 1 1 (loC (x0, x1, x2)) (by rfl) (by rfl) (row_new w4 #[x0, x1, x2] 85) (by simp [loC, Value.oneCell']) (by unfold maxLen; omega) (by omega) ((H4.out.alloc _).drew).size ?_; intro v' w8 hown' hgrow _; obtain ⟨gg, cap, rfl, _, _⟩ := hown'.form (by omega); obtain ⟨cc8, cf8⟩ := ((H4.out.alloc _).drew).afterL hgrow; have HP8 := lh (((H4.out.alloc _).drew).pushL hown' hgrow); clear hown' hgrow)
 all_goals
  go_wp2
  go_end0
  exact ⟨⟨_, rfl⟩, _, HP8.out⟩
end
theorem bs_ne' {a : ByteArray} {l : List UInt8} (h : a ≠ ⟨l.toArray⟩) : (a.toList == l) = false := by
 rw [beq_eq_false_iff_ne]
 intro e
 rw [ByteArray.toList_eq] at e
 exact h (ByteArray.ext (by rw [<- e]))
section
variable {rb n0 n1 : Nat} {g : Nat -> Value} {qs : List ArV} {ls : List LoV} {init : List BlE} {last : Option BlE} {fs : List ByteArray} {w0 W : World}
theorem BK.cells {hh h : Nat -> Value} {off : Nat} {vI : Value} {t : TermV} {is : List InstV} (k : BK hh off vI t h) : ∀ i, i < 14 -> (blC (vI, is, t))[i]? = some (hh (off + i)) := by
 intro i hi
 match i, hi with
 | 0, _ => exact congrArg some k.i.symm
 | 1, _ => exact congrArg some k.t1.symm
 | 2, _ => exact congrArg some k.t2.symm
 | 3, _ => exact congrArg some k.t3.symm
 | 4, _ => exact congrArg some k.t4.symm
 | 5, _ => exact congrArg some k.t5.symm
 | 6, _ => exact congrArg some k.t6.symm
 | 7, _ => exact congrArg some k.t7.symm
 | 8, _ => exact congrArg some k.t8.symm
 | 9, _ => exact congrArg some k.t9.symm
 | 10, _ => exact congrArg some k.t10.symm
 | 11, _ => exact congrArg some k.t11.symm
 | 12, _ => exact congrArg some k.t12.symm
 | 13, _ => exact congrArg some k.t13.symm
theorem BK.of {hh : Nat -> Value} {off : Nat} {vI : Value} {t : TermV} {is : List InstV} (k : ∀ i, i < 14 -> (blC (vI, is, t))[i]? = some (hh (off + i))) : BK hh off vI t hh := by
 have e : ∀ i u, i < 14 -> (blC (vI, is, t))[i]? = some u -> hh (off + i) = u := fun i u hi hu => by
  have := (k i hi).symm.trans hu
  injection this
 exact ⟨e 0 _ (by decide) rfl, e 1 _ (by decide) rfl, e 2 _ (by decide) rfl, e 3 _ (by decide) rfl, e 4 _ (by decide) rfl, e 5 _ (by decide) rfl, e 6 _ (by decide) rfl, e 7 _ (by decide) rfl, e 8 _ (by decide) rfl, e 9 _ (by decide) rfl, e 10 _ (by decide) rfl, e 11 _ (by decide) rfl, e 12 _ (by decide) rfl, e 13 _ (by decide) rfl, fun _ _ => rfl⟩
theorem RD.toPS {e : BlE} (h : RD rb n0 n1 g qs ls init (some e) fs w0 W) : ∃ gB cap hB, g 7 = .slice (some ⟨gB, 0, none⟩) (init.length + 1) cap /\ n0 <= gB /\ init.length * 14 + 14 <= cap * 14 /\ cap <= maxLen /\ PS rb gB n1 (cap * 14) g fs hB e.1 e.2.1 W W /\ BK hB (init.length * 14) e.1 e.2.2 hB /\ (∀ j, j < init.length * 14 -> (flatB init)[j]? = some (hB j)) := by
 have hr := h.rowB
 obtain ⟨v, h1, h2, h3, h4⟩ := h
 simp only [Option.toList, List.length_append, List.length_cons, List.length_nil, flatB_snoc] at hr
 obtain ⟨hlen, hr⟩ := hr
 rcases hr with ⟨_, hn⟩ | ⟨gB, cap, cur, hv, hb, hg, hc, hm, hs, ht⟩
 . omega
 . have hcell : ∀ j, j < init.length * 14 + 14 -> (flatB init ++ blC e)[j]? = some (cur.getD j undef) := by
    intro j hj
    rw [<- ht, List.getElem?_take_of_lt (by omega), Array.getElem?_toList, Array.getD_eq_getD_getElem?]
    have : j < cur.size := by omega
    rw [Array.getElem?_eq_getElem this]
    rfl
   refine ⟨gB, cap, fun j => cur.getD j undef, hv, hb, by omega, hm, ⟨⟨v, h1.row, h2⟩, ?_, h1.new e rfl, ChT.refl _ _ _ _⟩, BK.of (is := e.2.1) (fun i hi => ?_), fun j hj => ?_⟩
   . have := row_of_blk hg
     rw [hs] at this
     exact this
   . have := hcell (init.length * 14 + i) (by omega)
     rw [List.getElem?_append_right (by rw [flatB_len]; omega), flatB_len, Nat.add_sub_cancel_left] at this
     exact this
   . have := hcell j (by omega)
     rwa [List.getElem?_append_left (by rw [flatB_len]; omega)] at this
theorem RD.ofPS {e : BlE} {gB cap : Nat} {hB hh : Nat -> Value} {fs' : List ByteArray} {vI : Value} {is : List InstV} {t : TermV} {W' : World} (h : RD rb n0 n1 g qs ls init (some e) fs w0 W) (h7 : g 7 = .slice (some ⟨gB, 0, none⟩) (init.length + 1) cap) (hgB : n0 <= gB) (hcap : init.length * 14 + 14 <= cap * 14) (hm : cap <= maxLen)
 (hin : ∀ j, j < init.length * 14 -> (flatB init)[j]? = some (hB j)) (hP : PS rb gB n1 (cap * 14) g fs' hh vI is W W') (hK : BK hh (init.length * 14) vI t hB) : RD rb n0 n1 g qs ls init (some (vI, is, t)) fs' w0 W' := by
 obtain ⟨v, h1, h2, h3, h4⟩ := h
 obtain ⟨v', hr', hf'⟩ := hP.rd
 have hn := h1.hn
 have hBt : W.heap[gB]? = none \/ ∃ cur, W.heap[gB]? = some (.cells cur 55 (0, 0)) := by
  have := h1.blocks
  rw [upd_ne _ _ _ _ (by decide), h7] at this
  rcases this.2 with ⟨hv, _⟩ | ⟨gB', cap', cur, hv, hb, hg, _⟩
  . cases hv
  . injection hv with hv
    injection hv with hv
    injection hv with hv
    subst hv
    exact .inr ⟨cur, hg⟩
 have hk : Kept (fun T => T ≠ 166 /\ T ≠ 55 /\ T ≠ 61) W W' := by
  intro k C T fr hk hT
  refine hP.ch.block k (Array.getElem?_eq_some_iff.1 hk).1 (row_ne h1.row hk (fun e => hT.1 e.symm)) ?_ (.inr ⟨C, T, fr, hk, hT.2.2⟩)
  rintro rfl
  rcases hBt with hBt | ⟨cur, hBt⟩
  . rw [hBt] at hk; cases hk
  . rw [hBt] at hk
    injection hk with hk
    injection hk with _ h2 _
    exact hT.2.1 h2.symm
 have e5 : ∀ (i : Nat), i ≠ 8 -> upd g 8 v' i = upd g 8 v i := fun i hi => by rw [upd_ne _ _ _ _ hi, upd_ne _ _ _ _ hi]
 refine ⟨v', ⟨hr', ?_, ?_, ?_, ?_, ?_, ?_⟩, hf', ⟨hP.ch.os.trans h3.os, hP.ch.tape.trans h3.tape, hP.ch.output.trans h3.output, Nat.le_trans h3.size hP.ch.size, fun i hi ha _ => (hP.ch.block i (Nat.lt_of_lt_of_le hi h3.size) ha (by omega) (.inl (by omega))).trans (h3.block i hi ha ha)⟩, h4⟩
 . rw [e5 5 (by decide)]; exact row_kept h1.arr hk (by decide)
 . rw [e5 6 (by decide)]; exact row_kept h1.loops hk (by decide)
 . rw [upd_ne _ _ _ _ (by decide), h7]
   simp only [Option.toList, List.length_append, List.length_cons, List.length_nil, flatB_snoc]
   obtain ⟨c, hc, hsz, hcl⟩ := hP.blk
   refine ⟨by rw [List.length_append, flatB_len]; simp [blC, TermV.cells]; omega, .inr ⟨gB, cap, c, rfl, hgB, hc, by omega, hm, hsz, ?_⟩⟩
   apply List.ext_getElem?
   intro j
   by_cases hj : j < init.length * 14 + 14
   . rw [List.getElem?_take_of_lt (by omega), Array.getElem?_toList, hcl j (by omega)]
     by_cases hj2 : j < init.length * 14
     . rw [List.getElem?_append_left (by rw [flatB_len]; omega), hin j hj2, hK.rest j (.inl hj2)]
     . rw [List.getElem?_append_right (by rw [flatB_len]; omega), flatB_len, hK.cells (is := is) _ (by omega)]
       rw [show init.length * 14 + (j - init.length * 14) = j from by omega]
   . rw [List.getElem?_eq_none (by simp [List.length_take]; omega), List.getElem?_eq_none (by rw [List.length_append, flatB_len]; simp [blC, TermV.cells]; omega)]
 . intro e' he'
   refine ⟨?_, (h1.old e' he').2⟩
   have hr := (h1.old e' he').1
   refine ⟨hr.1, ?_⟩
   rcases hr.2 with hnn | ⟨k, cap', cur, hv, hbk, hkk, rest⟩
   . exact .inl hnn
   . refine .inr ⟨k, cap', cur, hv, hbk, ?_, rest⟩
     refine (hP.ch.block k (Array.getElem?_eq_some_iff.1 hkk).1 (row_ne h1.row hkk (by decide)) ?_ (.inl ((h1.old e' he').2 k (by rw [hv]; rfl)))).trans hkk
     rintro rfl
     rcases hBt with hBt | ⟨cur', hBt⟩
     . rw [hBt] at hkk; cases hkk
     . rw [hBt] at hkk
       injection hkk with hkk
       injection hkk with _ h2 _
       cases h2
 . intro e' he'
   injection he' with he'
   subst he'
   exact hP.row
 . have := hP.ch.size
   omega
end
section
variable (rb n0 n1 : Nat) (g : Nat -> Value) (qs : List ArV) (ls : List LoV) (init : List BlE) (last : Option BlE) (fs : List ByteArray) (w0 W : World)
theorem line_none (h : RD rb n0 n1 g qs ls [] none fs w0 W) (hl : fs.length <= 1000000) (k1 : fldV fs ≠ ⟨#[99, 111, 100, 101]⟩) (k2 : fldV fs ≠ ⟨#[97, 114, 114, 97, 121]⟩) (k3 : fldV fs ≠ ⟨#[108, 111, 111, 112]⟩) (k4 : fldV fs ≠ ⟨#[98, 108, 111, 99, 107]⟩) :
 Calls Tryz.prog 106 #[.pointer (some ⟨rb, 0, none⟩)] W fun e w' => (∃ v, e = .returned v) /\ RD rb n0 n1 g qs ls [] none fs.tail w0 w' := by
 have hg7 : ∃ A c, g 7 = .slice A 0 c := by
  rcases h.rowB.2 with ⟨hv, _⟩ | ⟨gB, cap, cur, hv, _⟩
  . exact ⟨_, _, hv⟩
  . exact ⟨_, _, hv⟩
 obtain ⟨A, c, hg7⟩ := hg7
 have HF := lh (h.field hl)
 obtain ⟨wd, hwd⟩ : ∃ wd, fldV fs = wd := ⟨_, rfl⟩
 rw [hwd] at HF k1 k2 k3 k4
 have j1 := bs_ne' k1
 have j2 := bs_ne' k2
 have j3 := bs_ne' k3
 have j4 := bs_ne' k4
 have HG := lh hg7
 clear h hl hwd k1 k2 k3 k4 hg7
 go_enter Tryz.func106, Tryz.ntmps106
 go_wp2_with (go_at_call 138; (with_reducible refine HF.out.mono ?_); rintro e W1 ⟨rfl, h1⟩; have c7 := h1.cell 7 (by decide); rw [HG.out] at c7; have H1 := lh h1; clear h1)
 go_end0
 exact ⟨⟨_, rfl⟩, H1.out⟩
theorem line_part (e : BlE) (h : RD rb n0 n1 g qs ls init (some e) fs w0 W) (hE : EnvX rb w0) (hl : fs.length <= 1000000) (hsz : ∀ s, s ∈ fs -> s.size <= 281474976710656) (hi : e.2.1.length <= 1000000) (hin : init.length <= 1000000) (k1 : fldV fs ≠ ⟨#[99, 111, 100, 101]⟩) (k2 : fldV fs ≠ ⟨#[97, 114, 114, 97, 121]⟩) (k3 : fldV fs ≠ ⟨#[108, 111, 111, 112]⟩) (k4 : fldV fs ≠ ⟨#[98, 108, 111, 99, 107]⟩) :
 Calls Tryz.prog 106 #[.pointer (some ⟨rb, 0, none⟩)] W fun e1 w' => (∃ v, e1 = .returned v) /\ ∃ v, RD rb n0 n1 g qs ls init (some (v, (stI (fldV fs) fs.tail e.2.1 12).2, (stT (fldV fs) (stI (fldV fs) fs.tail e.2.1 12).1 e.2.2 5).2)) (stT (fldV fs) (stI (fldV fs) fs.tail e.2.1 12).1 e.2.2 5).1 w0 w' := by
 obtain ⟨gB, cap, _, hg7, hgB, hcap, hmx, _⟩ := h.toPS
 have HF := lh (h.field hl)
 have hl1 : fs.tail.length <= 1000000 := by simp; omega
 have hsz2 : ∀ s, s ∈ fs.tail -> s.size <= 281474976710656 := fun s hs => hsz s (List.mem_of_mem_tail hs)
 have HPA := lh (fun (W1 : World) (h1 : RD rb n0 n1 g qs ls init (some e) fs.tail w0 W1) => (show Calls Tryz.prog 140 #[.pointer (some ⟨rb, 0, none⟩), .pointer (some ⟨gB, init.length * 14, none⟩), .string (fldV fs)] W1 fun e1 w' => (∃ v, e1 = .returned v) /\ ∃ v, RD rb n0 n1 g qs ls init (some (v, (stI (fldV fs) fs.tail e.2.1 12).2, (stT (fldV fs) (stI (fldV fs) fs.tail e.2.1 12).1 e.2.2 5).2)) (stT (fldV fs) (stI (fldV fs) fs.tail e.2.1 12).1 e.2.2 5).1 w0 w' from by
  obtain ⟨gB', cap', hB, hg7', _, _, _, hP, hK, hj⟩ := h1.toPS
  rw [hg7] at hg7'
  injection hg7' with h5 h6 h7
  injection h5 with h5
  injection h5 with h5
  subst h5 h7
  have h1' := h1
  obtain ⟨v, h2, h3, h4, h5⟩ := h1
  have hn := h2.hn
  obtain ⟨w00, q1, q2, q3, q4⟩ := hE.at h4
  refine (part_any rb gB (init.length * 14) n1 (cap * 14) g hB fs.tail e.1 e.2.1 e.2.2 (fldV fs) W1 w00 hcap hP hK hl1 hi hsz2 q1 q2 (by omega) (by omega) (by omega) hn.2).mono ?_
  rintro e1 w' ⟨he, vI', hh, hP', hK'⟩
  exact ⟨he, vI', h1'.ofPS hg7 hgB hcap hmx hj hP' hK'⟩))
 obtain ⟨wd, hwd⟩ : ∃ wd, fldV fs = wd := ⟨_, rfl⟩
 rw [hwd] at HF HPA k1 k2 k3 k4 ⊢
 have j1 := bs_ne' k1
 have j2 := bs_ne' k2
 have j3 := bs_ne' k3
 have j4 := bs_ne' k4
 have HG := lh hg7
 obtain ⟨S, hS⟩ : ∃ S, stI wd fs.tail e.2.1 12 = S := ⟨_, rfl⟩
 rw [hS] at HPA ⊢
 obtain ⟨V, hV⟩ : ∃ V, stT wd S.1 e.2.2 5 = V := ⟨_, rfl⟩
 rw [hV] at HPA ⊢
 have HL := lh (show init.length * 14 + 14 <= cap * 14 from hcap)
 clear h hl hwd k1 k2 k3 k4 hg7 hE hsz hi hl1 hsz2 hS hV hcap hgB
 obtain ⟨nb, hnb⟩ : ∃ nb, init.length = nb := ⟨_, rfl⟩
 rw [hnb] at HG HPA HL hin
 clear hnb
 have wnb : IntKind.i64.wrap (nb : Int) = nb := IntWalk.i64_in _ (by omega)
 have hn0 : 0 <= (nb : Int) := by omega
 have hn1 : (nb : Int) < (nb : Int) + 1 := by omega
 go_enter Tryz.func106, Tryz.ntmps106
 go_upto_region 4 with (go_at_call 138; (with_reducible refine HF.out.mono ?_); rintro e W1 ⟨rfl, h1⟩; have c7 := h1.cell 7 (by decide); rw [HG.out] at c7; have H1 := lh h1; clear h1)
 go_region_with (first | (go_at_call 140; (with_reducible refine (HPA.out _ ?_).mono ?_); exact H1.out.drew; rintro e w2 ⟨⟨v, rfl⟩, h2⟩; have H2 := lh h2; clear h2))
 all_goals
  go_wp2
  go_end0
  obtain ⟨v, h2⟩ := H2.out
  exact ⟨⟨_, rfl⟩, v, h2⟩
end
end Go.Proofs.YtkncilgmlkeifaaGreatDoor
