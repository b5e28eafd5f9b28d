/-
  The reference: the maker: put, place, an end of a block.
-/
import Derived.Test.YtkncilgmlkeifaaGreatDoorMkr
set_option linter.unusedVariables false
set_option linter.unusedSimpArgs false
namespace Go.Proofs.YtkncilgmlkeifaaGreatDoor
open Go.ChangeShapes Go.WideShapes Go.ChangeAt Go.RowKit Go.Shelf

/-- The last block, found. -/
theorem MX.last {rb n0 n1 : Nat} {g : Nat → Value} {qs : List ArV} {ls : List LoV} {I : List BlE} {e : BlE} {W : World} (h : MX rb n0 n1 g qs ls I (some e) (I ++ (some e).toList).length (flatB (I ++ (some e).toList)) W) :
    ∃ gB cap, g 9 = .slice (some ⟨gB, 0, none⟩) (I.length + 1) cap ∧ W.cell? ⟨gB, I.length * 14, none⟩ = some e.1 ∧ (∀ o, W.frozen? ⟨gB, o, none⟩ = false) ∧ n0 ≤ gB ∧ ∃ C, W.heap[gB]? = some (.cells C 55 (0, 0)) := by
  have hb := h.blocks
  simp only [Option.toList, List.length_append, List.length_cons, List.length_nil] at hb
  rcases id hb.2 with ⟨_, hn⟩ | ⟨gB, cap, cur, hv, hbg, hgg, _⟩
  · omega
  · refine ⟨gB, cap, hv, ?_, fun o => ?_, hbg, cur, hgg⟩
    · rw [hv] at hb
      rw [hb.cellAt (I.length * 14) (by omega), flatB_snoc, List.getElem?_append_right (by rw [flatB_len]; exact Nat.le_refl _), flatB_len, Nat.sub_self]
      rfl
    · rw [hv] at hb
      exact hb.frozenAt o
section
variable (rb n0 K : Nat) (L : Value × Value) (num : Nat → Int) (qs : List ArV) (ls : List LoV) (init : List BlV) (w0 W : World)
set_option maxRecDepth 100000 in
set_option maxHeartbeats 8000000 in
/-- put. -/
theorem put_any (is : List InstV) (t : TermV) (op sub nn dk dn dv ak an av bk bn bv ck cn cv : Int) (h : MT rb n0 L K num qs ls init (some (is, t)) w0 W) (hq : init.length ≤ 1000000) (hi : is.length ≤ 1000000) :
    Calls Tryz.prog 107 #[.pointer (some ⟨rb, 0, none⟩), .agg #[.int .i64 op, .int .i64 sub, .int .i64 nn, .int .i64 dk, .int .i64 dn, .int .i32 dv, .int .i64 ak, .int .i64 an, .int .i32 av, .int .i64 bk, .int .i64 bn, .int .i32 bv, .int .i64 ck, .int .i64 cn, .int .i32 cv]] W fun e w' => (∃ v, e = .returned v) ∧ MT rb n0 L K num qs ls init (some (is ++ [⟨op, sub, nn, ⟨dk, dn, dv⟩, ⟨ak, an, av⟩, ⟨bk, bn, bv⟩, ⟨ck, cn, cv⟩⟩], t)) w0 w' ∧ KM W w' := by
  obtain ⟨i0, hi0, hz0, hz1, hz2⟩ := info_parts infoInst
  obtain ⟨n1, g, I, La, h1, rfl, hL, h4, h5, h6, h7, h8, h9⟩ := h
  obtain ⟨e, rfl⟩ : ∃ e, La = some e := by cases La with
    | none => cases hL
    | some e => exact ⟨e, rfl⟩
  obtain ⟨vI, is', t'⟩ := e
  simp only [Option.map_some, Option.some.injEq, Prod.mk.injEq] at hL
  obtain ⟨rfl, rfl⟩ := hL
  rw [List.length_map] at hq
  obtain ⟨i, hii⟩ : ∃ i : InstV, i = ⟨op, sub, nn, ⟨dk, dn, dv⟩, ⟨ak, an, av⟩, ⟨bk, bn, bv⟩, ⟨ck, cn, cv⟩⟩ := ⟨_, rfl⟩
  rw [← hii]
  have HIC : Hid (i.cells = [.int .i64 op, .int .i64 sub, .int .i64 nn, .int .i64 dk, .int .i64 dn, .int .i32 dv, .int .i64 ak, .int .i64 an, .int .i32 av, .int .i64 bk, .int .i64 bn, .int .i32 bv, .int .i64 ck, .int .i64 cn, .int .i32 cv]) := Lib.hid (by rw [hii]; rfl)
  clear hii
  have hB1 : Below W.heap.size W (W.alloc (.cells #[.int .i64 op, .int .i64 sub, .int .i64 nn, .int .i64 dk, .int .i64 dn, .int .i32 dv, .int .i64 ak, .int .i64 an, .int .i32 av, .int .i64 bk, .int .i64 bn, .int .i32 bv, .int .i64 ck, .int .i64 cn, .int .i32 cv] 61)) := (Below.refl _ _).alloc (Nat.le_refl _) _
  have hkf : (W.alloc (.cells #[.int .i64 op, .int .i64 sub, .int .i64 nn, .int .i64 dk, .int .i64 dn, .int .i32 dv, .int .i64 ak, .int .i64 an, .int .i32 av, .int .i64 bk, .int .i64 bn, .int .i32 bv, .int .i64 ck, .int .i64 cn, .int .i32 cv] 61)).heap[W.heap.size]? = some (.cells #[.int .i64 op, .int .i64 sub, .int .i64 nn, .int .i64 dk, .int .i64 dn, .int .i32 dv, .int .i64 ak, .int .i64 an, .int .i32 av, .int .i64 bk, .int .i64 bn, .int .i32 bv, .int .i64 ck, .int .i64 cn, .int .i32 cv] 61 (0, 0)) := heap_alloc_new _ _
  have h1 := h1.on hB1
  have h7 := h7.trans (hB1.mono h7.size)
  have HK1 := Lib.hid (KM.of hB1)
  go_enter Tryz.func107, Tryz.ntmps107
  have hlast := h1.last
  go_upto_region 1 with (fail)
  generalize (W.alloc (.cells #[.int .i64 op, .int .i64 sub, .int .i64 nn, .int .i64 dk, .int .i64 dn, .int .i32 dv, .int .i64 ak, .int .i64 an, .int .i32 av, .int .i64 bk, .int .i64 bn, .int .i32 bv, .int .i64 ck, .int .i64 cn, .int .i32 cv] 61)) = W1 at *
  generalize W.heap.size = bx at *
  obtain ⟨gB, cap, h9g, cI, cf, hgB, C55, hC55⟩ := hlast
  have c9 : W1.cell? ⟨rb, 9, none⟩ = some (.slice (some ⟨gB, 0, none⟩) (I.length + 1) cap) := by rw [h1.row.cell (by decide), h9g]
  have b0 := cell_blk hkf (i := 0) rfl
  have b1 := cell_blk hkf (i := 1) rfl
  have b2 := cell_blk hkf (i := 2) rfl
  have b3 := cell_blk hkf (i := 3) rfl
  have b4 := cell_blk hkf (i := 4) rfl
  have b5 := cell_blk hkf (i := 5) rfl
  have b6 := cell_blk hkf (i := 6) rfl
  have b7 := cell_blk hkf (i := 7) rfl
  have b8 := cell_blk hkf (i := 8) rfl
  have b9 := cell_blk hkf (i := 9) rfl
  have b10 := cell_blk hkf (i := 10) rfl
  have b11 := cell_blk hkf (i := 11) rfl
  have b12 := cell_blk hkf (i := 12) rfl
  have b13 := cell_blk hkf (i := 13) rfl
  have b14 := cell_blk hkf (i := 14) rfl
  have hw0 : IntKind.i64.wrap (I.length : Int) = (I.length : Int) := IntWalk.i64_in _ (by omega)
  have HROW := Lib.hid (fun (WA : World) (hA : Below W1.heap.size W1 WA) => show WA.ownsRow n1 61 15 vI is'.length (flatI is') from (h1.on hA).new _ rfl)
  have hsz : n1 ≤ W1.heap.size := h1.hn.2
  have ca9 : ∀ C, (W1.alloc (.cells C 61)).cell? ⟨rb, 9, none⟩ = some (.slice (some ⟨gB, 0, none⟩) (I.length + 1) cap) := fun C => by rw [(h1.on ((Below.refl _ _).alloc (Nat.le_refl _) _)).row.cell (by decide), h9g]
  have caI : ∀ C, (W1.alloc (.cells C 61)).cell? ⟨gB, I.length * 14, none⟩ = some vI := fun C => by
    have hb : Below W1.heap.size W1 (W1.alloc (.cells C 61)) := (Below.refl _ _).alloc (Nat.le_refl _) _
    rw [World.cell?_of_block (hb.block gB (Array.getElem?_eq_some_iff.1 hC55).1)]
    exact cI
  have HFIN := Lib.hid (fun (WA : World) (hA : Below W1.heap.size W1 WA) (v : Value) (w8 : World) (hr : w8.ownsRow n1 61 15 v (is'.length + 1) (flatI is' ++ i.cells)) (hg : WA.grownBy w8 vI.ownBlock) =>
    (show (w8.cell? ⟨rb, 9, none⟩ = some (.slice (some ⟨gB, 0, none⟩) (I.length + 1) cap) ∧ w8.cell? ⟨gB, I.length * 14, none⟩ = some vI ∧ w8.frozen? ⟨gB, I.length * 14, none⟩ = false) ∧ MT rb n0 L K num qs ls (I.map (·.2)) (some (is' ++ [i], t')) w0 (w8.setCell ⟨gB, I.length * 14, none⟩ v) ∧ KM W (w8.setCell ⟨gB, I.length * 14, none⟩ v) from by
      have hA1 := h1.on hA
      have hx : MX rb n0 n1 g qs ls I (some (v, is' ++ [i], t')) (I ++ (some ((vI, is', t') : BlE)).toList).length (flatB (I ++ (some ((vI, is', t') : BlE)).toList)) w8 := hA1.grown (by rw [flatI_snoc, List.length_append]; exact hr) hg
      have hk := grow_kept (hA1.new _ rfl) hg
      have hcw : w8.heap[gB]? = some (.cells C55 55 (0, 0)) := by
        have e1 := hA.block gB (Array.getElem?_eq_some_iff.1 hC55).1
        exact (hk gB C55 55 (0, 0) (e1.trans hC55) (by decide)).trans (e1.trans hC55)
      have hst := hx.store (gB := gB) (cap := cap) (by rw [h9g]; simp) (I.length * 14) v
      rw [show (some ((vI, is', t') : BlE)).toList = [(vI, is', t')] from rfl, flatB_set0 I (vI, is', t') v (is' ++ [i])] at hst
      refine ⟨⟨by rw [hx.row.cell (by decide), h9g], ?_, frozen_of_row w8 gB _ _ _ hcw⟩, ⟨n1, g, I, some (v, is' ++ [i], t'), by simpa using hst, rfl, rfl, h4, h5, h6, ?_, h8, h9⟩, ?_⟩
      · have e1 := hA.block gB (Array.getElem?_eq_some_iff.1 hC55).1
        rw [World.cell?_of_block (w' := w8) (w := W1) (a := ⟨gB, I.length * 14, none⟩) (hcw.trans hC55.symm)]
        exact cI
      · have hn := h1.hn
        exact (grow_below (h7.trans (hA.mono h7.size)) (hA1.new _ rfl) hg (by omega) (Nat.le_refl _)).setCell (show w0.heap.size ≤ gB by omega) v
      · refine HK1.out.trans ⟨fun b C' T fr hb' hT => ?_, ?_⟩
        · have e1 := hA.block b (Array.getElem?_eq_some_iff.1 hb').1
          have e2 := hk b C' T fr (e1.trans hb') hT.2.2.1
          have hne : b ≠ gB := by
            rintro rfl
            rw [hC55] at hb'
            injection hb' with hb'
            injection hb' with _ h2 _
            exact hT.2.1 h2.symm
          exact (Below.heap_setCell w8 ⟨gB, I.length * 14, none⟩ v b hne).trans (e2.trans e1)
        · have := hg.size; have := hA.size; simp [World.setCell]; omega))
  have HB2 := Lib.hid (fun o => show Below W1.heap.size W1 (W1.alloc o).drew from below_drewN ((Below.refl _ _).alloc (Nat.le_refl _) _) 1)
  clear h1 h4 h5 h6 h7 h8 h9 hB1 hC55 hkf HK1 h9g hgB
  have hlt : (I.length : Int) < (I.length : Int) + 1 := by omega
  go_wp2
  go_region_law (refine step_append_own rfl _ _ 50 (by rfl) n1 61 i0 _ 15 120 Tryz.underlying50 hi0 hz0 hz1 hz2 rfl (by decide) vI is'.length (flatI is') (by rfl) (HROW.out _ (HB2.out _)) ⟨W1.heap.size, 0, none⟩ 1 1 [.int .i64 op, .int .i64 sub, .int .i64 nn, .int .i64 dk, .int .i64 dn, .int .i32 dv, .int .i64 ak, .int .i64 an, .int .i32 av, .int .i64 bk, .int .i64 bn, .int .i32 bv, .int .i64 ck, .int .i64 cn, .int .i32 cv] (by rfl) (by rfl) (row_new W1 #[.int .i64 op, .int .i64 sub, .int .i64 nn, .int .i64 dk, .int .i64 dn, .int .i32 dv, .int .i64 ak, .int .i64 an, .int .i32 av, .int .i64 bk, .int .i64 bn, .int .i32 bv, .int .i64 ck, .int .i64 cn, .int .i32 cv] 61) (by simp [Value.oneCell']) (by unfold maxLen; omega) (by omega) (by simp; omega) ?_; intro v' w8 hown' hgrow _; obtain ⟨⟨c98, cI8, cf8⟩, hf8⟩ := HFIN.out _ (HB2.out _) _ _ (by rw [HIC.out]; exact hown') hgrow; have HF8 := Lib.hid hf8; obtain ⟨gg, cap', rfl, _, _⟩ := hown'.form (by omega); clear hown' hgrow hf8)
  all_goals
    go_wp2
    go_end0
    exact ⟨⟨_, rfl⟩, HF8.out⟩
end
end Go.Proofs.YtkncilgmlkeifaaGreatDoor
