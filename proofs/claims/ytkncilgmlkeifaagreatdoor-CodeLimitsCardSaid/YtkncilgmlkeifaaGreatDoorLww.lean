/-
  CodeLimits: the law's walk.
-/
import Derived.Test.YtkncilgmlkeifaaGreatDoorLwm
import Derived.Deep.RegionLaw
import Derived.Deep.LoopGhost
import Derived.Deep.CutBlock
import Derived.Deep.CutRange
set_option linter.unusedVariables false
set_option linter.unusedSimpArgs false
namespace Go.Proofs.YtkncilgmlkeifaaGreatDoor
open Go.ChangeShapes Go.WideShapes Go.ChangeAt Go.RowKit Go.Shelf

/-- Behind the switch: the code of the law. -/
def LE (w : World) (b n0 kq : Nat) (m : Int) (W : World) : Prop := ∃ r s p v5 v6 v7 qs ls es, LK w b n0 4 r s p v5 v6 v7 qs ls es W ∧ ∀ g, (⟨qs, ls, es.map (·.2), lwN g r s p⟩ : CdV) = lw kq m g
theorem LK.rowA' {w W : World} {b n0 k : Nat} {g r s p : Int} {v5 v6 v7 : Value} {a0 : ArV} {ls : List LoV} {es : List BlE} (h : LK w b n0 g r s p v5 v6 v7 (List.replicate (k + 1) a0) ls es W) : W.ownsRow n0 91 4 v5 (k + 1) (flatA (List.replicate (k + 1) a0)) := by
  have := h.rows.arr
  rwa [List.length_replicate] at this
theorem lwI_succ (k : Nat) : lwI (k + 1) = lwI k ++ [fen] := by unfold lwI; rw [List.replicate_succ']; rfl
theorem LK.rowI' {w W : World} {b n0 k : Nat} {g r s p : Int} {v5 v6 v7 vI : Value} {te : TermV} {qs : List ArV} {ls : List LoV} (h : LK w b n0 g r s p v5 v6 v7 qs ls [(vI, lwI k, te)] W) : W.ownsRow n0 61 15 vI (k + 2) (flatI (lwI k)) := by
  have := h.rows.insts _ (List.mem_singleton.2 rfl)
  simp only at this
  rwa [lwI_len] at this
theorem lk_calls {w W : World} {b n0 : Nat} {g r s p : Int} {v5 v6 v7 : Value} {qs : List ArV} {ls : List LoV} {es : List BlE} (h : LK w b n0 g r s p v5 v6 v7 qs ls es W) (ho : LwOk ⟨qs, ls, es.map (·.2), lwN g r s p⟩) (hE : EnvP W) (z : Int) (hz : chkC ⟨qs, ls, es.map (·.2), lwN g r s p⟩ = z) :
    ∃ A1 n1 c1 A2 n2 c2 A3 n3 c3, v5 = .slice A1 n1 c1 ∧ v6 = .slice A2 n2 c2 ∧ v7 = .slice A3 n3 c3 ∧
      (∀ W', Below W.heap.size W W' → Calls Tryz.prog 15 #[.agg #[.int .i64 g, .int .i64 2, .int .i64 r, .int .i64 s, .int .i64 p, .slice A1 n1 c1, .slice A2 n2 c2, .slice A3 n3 c3]] W' fun e w' => (∃ x, e = .returned (.tuple #[.string x, .int .i64 z])) ∧ Below W.heap.size W w') ∧
      (∀ W', Below W.heap.size W W' → Calls Tryz.prog 17 #[.agg #[.int .i64 g, .int .i64 2, .int .i64 r, .int .i64 s, .int .i64 p, .slice A1 n1 c1, .slice A2 n2 c2, .slice A3 n3 c3]] W' fun e w' => e = .returned (.int .i64 z) ∧ Below W.heap.size W w') := by
  obtain ⟨a, e5, e6, e7, hk⟩ := h.cdk ho.names (fun e he => ho.insts e.2 (List.mem_map.2 ⟨e, he, rfl⟩))
  have hv : cdval ⟨qs, ls, es.map (·.2), lwN g r s p⟩ a = .agg #[.int .i64 g, .int .i64 2, .int .i64 r, .int .i64 s, .int .i64 p, .slice a.a1 qs.length a.c1, .slice a.a2 ls.length a.c2, .slice a.a3 es.length a.c3] := by
    unfold cdval
    simp only [List.length_map]
    rfl
  refine ⟨_, _, _, _, _, _, _, _, _, e5, e6, e7, fun W' hW => ?_, fun W' hW => ?_⟩
  · have H := text_e _ a W' (hk.on hW) ho (hE.on hW)
    rw [hv, hz] at H
    exact H.mono fun e w' hh => ⟨hh.1, hW.trans (hh.2.mono hW.size)⟩
  · have H := Check_c _ a W' (hk.on hW).mem ho.fits
    rw [hv, hz] at H
    exact H.mono fun e w' hh => ⟨hh.1, hW.trans (hh.2.mono hW.size)⟩
set_option maxRecDepth 100000 in
set_option maxHeartbeats 16000000 in
theorem limits_any (n kd : Int) (wr : Bool) (w : World) (hn : 0 ≤ n ∧ n ≤ 255) (hk : 0 ≤ kd ∧ kd ≤ 255) (hE : EnvP w) : Calls Tryz.prog 9 #[.int .u8 n, .int .u8 kd, .bool wr] w fun e w' => e = .returned (.bool true) ∧ Below w.heap.size w w' := by
  have HX := Lib.hid (examples_any w hE)
  have HR := Lib.hid (fun (W : World) => example_rc W)
  obtain ⟨iA, hA, hA0, hA1, hA2⟩ := info_parts infoArr
  obtain ⟨iB, hB, hB0, hB1, hB2⟩ := info_parts infoBlk
  obtain ⟨iI, hI, hI0, hI1, hI2⟩ := info_parts infoInst
  obtain ⟨hn0, hn1⟩ := hn
  obtain ⟨hk0, hk1⟩ := hk
  have HE := Lib.hid hE
  clear hE
  go_enter Tryz.func9, Tryz.ntmps9
  go_upto_region 7 with (first
    | (go_at_call 11; (with_reducible refine HX.out.mono ?_); rintro e w1 ⟨rfl, hb1⟩; have HB1 := Lib.hid hb1; clear hb1)
    | (go_at_call 36; (with_reducible refine (HR.out _).mono ?_); rintro e w2 ⟨v5, v7, vI, rfl, hr, hb2⟩; obtain ⟨g5, c5, rfl, _, _⟩ := hr.arr.form (by decide); obtain ⟨g7, c7, rfl, _, _⟩ := hr.blocks.form (by simp); have HRR := Lib.hid hr; have HB2 := Lib.hid hb2; clear hr hb2))
  have hlk : LK w w2.heap.size w1.heap.size 4 2 0 0 (.slice (some ⟨g5, 0, none⟩) 1 c5) (.slice none 0 0) (.slice (some ⟨g7, 0, none⟩) 1 c7) exQ [] [(vI, [ex0, ex1 0], exE)] (w2.alloc (.cells #[.int .i64 4, .int .i64 2, .int .i64 2, .int .i64 0, .int .i64 0, .slice (some ⟨g5, 0, none⟩) 1 c5, .slice none 0 0, .slice (some ⟨g7, 0, none⟩) 1 c7] 36)) :=
    ⟨heap_alloc_new _ _, HRR.out.k36 (K36.below ((Below.refl _ _).alloc (Nat.le_refl _) _)), (HB1.out.trans (HB2.out.mono HB1.out.size)).alloc (by have := HB1.out.size; have := HB2.out.size; omega) _, HB1.out.size, by have := HB1.out.size; have := HB2.out.size; omega, by have := HB2.out.size; simp; omega⟩
  have hEw := (HE.out.on HB1.out)
  have HL := Lib.hid hlk
  clear hlk HRR HX HR
  revert HL
  generalize w2.alloc _ = V
  generalize w2.heap.size = b9
  generalize w1.heap.size = n9
  intro HL
  obtain ⟨m, hm⟩ : ∃ m, n % 8 - 4 = m := ⟨_, rfl⟩
  rw [hm]
  have hm0 : -4 ≤ m := by omega
  have hm1 : m ≤ 3 := by omega
  clear hm
  go_upto_block 0 with (fail)
  obtain ⟨q, hq⟩ : ∃ q : Nat, kd % 7 = (q : Int) := ⟨(kd % 7).toNat, by omega⟩
  rw [hq]
  have hq7 : q < 7 := by omega
  clear hq hn0 hn1 hk0 hk1
  go_cut [26] (fun v26 wx => Hid (LE w b9 n9 q m wx))
  case first =>
    have q5 := HL.out.c5
    have q7 := HL.out.c7
    have q2 := HL.out.c2
    have q3 := HL.out.c3
    have q4 := HL.out.c4
    have qf := HL.out.fr
    have hq : q = 0 ∨ q = 1 ∨ q = 2 ∨ q = 3 ∨ q = 4 ∨ q = 5 ∨ q = 6 := by omega
    clear hq7
    rcases hq with rfl | rfl | rfl | rfl | rfl | rfl | rfl
    · rw [show ((0 : Nat) : Int) = 0 from rfl]
      go_wp2
      go_loopg [37] (399 + m).toNat (fun gh x wx => ∃ (k : Nat) (v7 : Value) (es : List BlE), k + gh = (399 + m).toNat ∧ Hid (es.length = k + 1) ∧ Hid (es.map (·.2) = ([ex0, ex1 0], exE) :: List.replicate k ([], jmpT)) ∧ Hid (LK w b9 n9 4 2 0 0 (.slice (some ⟨g5, 0, none⟩) 1 c5) (.slice none 0 0) v7 exQ [] es wx))
      case atStart => exact ⟨0, _, _, by omega, Lib.hid rfl, Lib.hid rfl, HL⟩
      case round =>
        obtain ⟨k, v7, es, hkg, HLE, HES, HK⟩ := hrel
        clear q2 q3 q4 q5 q7 qf
        have hro := HK.out.rows.blocks
        rw [HLE.out] at hro
        obtain ⟨gB, cB, rfl, _, _⟩ := hro.form (by omega)
        have c7' := HK.out.c7
        cases gk with
        | zero =>
          have hge : ¬ ((k : Int) + 1 < 400 + m) := by omega
          clear hro
          go_wp2
          go_meet
          refine Lib.hid ⟨2, 0, 0, _, _, _, _, _, _, HK.out, fun g => ?_⟩
          rw [HES.out]
          have e : (399 + m).toNat = k := by omega
          unfold lw
          rw [if_pos rfl, e]
          rfl
        | succ gh =>
          have hlt : (k : Int) + 1 < 400 + m := by omega
          have hk4 : k ≤ 500 := by omega
          have HRO := Lib.hid hro
          have c7a := (fun C => (HK.out.alloc (.cells C 55)).c7)
          clear hro
          go_wp2_with (first | (at_builtin; refine wpList_append_own _ rfl _ _ 34 rfl n9 55 iB _ 14 128 Tryz.underlying34 hB hB0 hB1 hB2 rfl (by decide) _ (k + 1) (flatB es) rfl (HRO.out.alloc _) ⟨wr.heap.size, 0, none⟩ 1 1 (blC (.slice none 0 0, [], jmpT)) rfl rfl (row_new wr #[.slice none 0 0, .int .i64 1, .int .i64 0, .int .i64 0, .int .i64 0, .int .i32 0, .int .i64 0, .int .i64 0, .int .i32 0, .int .i64 0, .int .i64 0, .int .i32 0, .int .i64 0, .int .i64 0] 55) (by simp [blC, TermV.cells, jmpT, noOpd, Value.oneCell']) (by unfold maxLen; omega) (by omega) (HK.out.alloc _).hn.2.2 ?_; intro v' w8 hown' hgrow _; obtain ⟨gg, cap, rfl, _, _⟩ := hown'.form (by omega); obtain ⟨hbx, _⟩ := (HK.out.alloc _).boxg (HRO.out.alloc _) hgrow (by decide); have ff := LK.fr' hbx 7; have fc := (LK.ck' hbx).2; have HP8 := Lib.hid ((HK.out.alloc _).push7 (x := (.slice none 0 0, [], jmpT)) ⟨rfl, rfl⟩ (by rw [HLE.out]; exact hown') hgrow); clear hown' hgrow hbx))
          go_roundg gh
          case measure => omega
          case rel => exact ⟨k + 1, _, es ++ [(.slice none 0 0, [], jmpT)], by omega, Lib.hid (by rw [List.length_append, HLE.out]; rfl), Lib.hid (by rw [List.map_append, HES.out, List.replicate_succ']; rfl), HP8⟩
    · rw [show ((1 : Nat) : Int) = 1 from rfl]
      go_wp2
      go_loopg [55] (1998 + m).toNat (fun gh x wx => ∃ (k : Nat) (vI : Value), k + gh = (1998 + m).toNat ∧ Hid (LK w b9 n9 4 2 0 0 (.slice (some ⟨g5, 0, none⟩) 1 c5) (.slice none 0 0) (.slice (some ⟨g7, 0, none⟩) 1 c7) exQ [] [(vI, lwI k, exE)] wx))
      case atStart => exact ⟨0, _, by omega, HL⟩
      case round =>
        obtain ⟨k, vJ, hkg, HK⟩ := hrel
        clear q2 q3 q4 q5 q7 qf
        have hro := HK.out.rows.insts _ (List.mem_singleton.2 rfl)
        simp only at hro
        rw [lwI_len] at hro
        obtain ⟨gI, cI, rfl, _, _⟩ := hro.form (by omega)
        have c7' := HK.out.c7
        have cB0 := HK.out.rows.blocks.cellAt 0 (by simp)
        have cBf := HK.out.rows.blocks.frozenAt 0
        rw [show (flatB [((.slice (some ⟨gI, 0, none⟩) (k + 2) cI : Value), lwI k, exE)])[0]? = some (.slice (some ⟨gI, 0, none⟩) (k + 2) cI) from rfl] at cB0
        cases gk with
        | zero =>
          have hge : ¬ ((k : Int) + 2 < 2000 + m) := by omega
          clear hro
          go_wp2
          go_meet
          refine Lib.hid ⟨2, 0, 0, _, _, _, _, _, _, HK.out, fun g => ?_⟩
          have e : (1998 + m).toNat = k := by omega
          unfold lw
          rw [if_neg (by decide), if_pos rfl, e]
          rfl
        | succ gh =>
          have hlt : (k : Int) + 2 < 2000 + m := by omega
          have hk4 : k ≤ 2500 := by omega
          have q7a := (fun C => (HK.out.alloc (.cells C 61)).c7)
          have q8a := (fun C => (show (wr.alloc (.cells C 61)).cell? ⟨g7, 0, none⟩ = some (.slice (some ⟨gI, 0, none⟩) (k + 2) cI) from (HK.out.alloc (.cells C 61)).rows.blocks.cellAt 0 (by simp)))
          clear hro
          go_wp2
          go_region_law (first | (refine step_append_own rfl _ _ 50 (by rfl) n9 61 iI _ 15 120 Tryz.underlying50 hI hI0 hI1 hI2 rfl (by decide) (.slice (some ⟨gI, 0, none⟩) (k + 2) cI) (k + 2) (flatI (lwI k)) (by rfl) ((HK.out.alloc _).drew).rowI' ⟨wr.heap.size, 0, none⟩ 1 1 fen.cells (by rfl) (by rfl) (row_new wr #[.int .i64 10, .int .i64 1, .int .i64 0, .int .i64 0, .int .i64 0, .int .i32 0, .int .i64 0, .int .i64 0, .int .i32 0, .int .i64 0, .int .i64 0, .int .i32 0, .int .i64 0, .int .i64 0, .int .i32 0] 61) (by simp [fen, InstV.cells, noOpd, Value.oneCell']) (by unfold maxLen; omega) (by omega) ((HK.out.alloc _).drew).hn.2.2 ?_; intro v' w8 hown' hgrow _; obtain ⟨gg, cap, rfl, _, _⟩ := hown'.form (by omega); obtain ⟨hbx, _⟩ := ((HK.out.alloc _).drew).boxg ((HK.out.alloc _).drew).rowI' hgrow (by decide); have fc := (LK.ck' hbx).2; have hB8 := row_kept ((HK.out.alloc _).drew).rows.blocks (grow_kept ((HK.out.alloc _).drew).rowI' hgrow) (by decide); have fe := hB8.cellAt 0 (by simp); rw [show (flatB [((.slice (some ⟨gI, 0, none⟩) (k + 2) cI : Value), lwI k, exE)])[0]? = some (.slice (some ⟨gI, 0, none⟩) (k + 2) cI) from rfl] at fe; have ff := hB8.frozenAt 0; have HP8 := Lib.hid (((HK.out.alloc _).drew).pushI (i := fen) (by rw [lwI_len]; exact hown') hgrow); clear hown' hgrow hbx hB8) | (refine step_append_own rfl _ _ 50 (by rfl) n9 61 iI _ 15 120 Tryz.underlying50 hI hI0 hI1 hI2 rfl (by decide) (.slice (some ⟨gI, 0, none⟩) (k + 2) cI) (k + 2) (flatI (lwI k)) (by rfl) ((HK.out.alloc _)).rowI' ⟨wr.heap.size, 0, none⟩ 1 1 fen.cells (by rfl) (by rfl) (row_new wr #[.int .i64 10, .int .i64 1, .int .i64 0, .int .i64 0, .int .i64 0, .int .i32 0, .int .i64 0, .int .i64 0, .int .i32 0, .int .i64 0, .int .i64 0, .int .i32 0, .int .i64 0, .int .i64 0, .int .i32 0] 61) (by simp [fen, InstV.cells, noOpd, Value.oneCell']) (by unfold maxLen; omega) (by omega) ((HK.out.alloc _)).hn.2.2 ?_; intro v' w8 hown' hgrow _; obtain ⟨gg, cap, rfl, _, _⟩ := hown'.form (by omega); obtain ⟨hbx, _⟩ := ((HK.out.alloc _)).boxg ((HK.out.alloc _)).rowI' hgrow (by decide); have fc := (LK.ck' hbx).2; have hB8 := row_kept ((HK.out.alloc _)).rows.blocks (grow_kept ((HK.out.alloc _)).rowI' hgrow) (by decide); have fe := hB8.cellAt 0 (by simp); rw [show (flatB [((.slice (some ⟨gI, 0, none⟩) (k + 2) cI : Value), lwI k, exE)])[0]? = some (.slice (some ⟨gI, 0, none⟩) (k + 2) cI) from rfl] at fe; have ff := hB8.frozenAt 0; have HP8 := Lib.hid (((HK.out.alloc _)).pushI (i := fen) (by rw [lwI_len]; exact hown') hgrow); clear hown' hgrow hbx hB8))
          all_goals
            go_wp2
            go_roundg gh
            case measure => omega
            case rel => exact ⟨k + 1, _, by omega, Lib.hid (by rw [lwI_succ]; exact HP8.out)⟩
    · rw [show ((2 : Nat) : Int) = 2 from rfl]
      go_wp2
      go_meet
      exact Lib.hid ⟨_, _, _, _, _, _, _, _, _, HL.out.set2 (256 + m), fun g => rfl⟩
    · rw [show ((3 : Nat) : Int) = 3 from rfl]
      go_wp2
      go_meet
      exact Lib.hid ⟨_, _, _, _, _, _, _, _, _, HL.out.set3 (256 + m), fun g => rfl⟩
    · rw [show ((4 : Nat) : Int) = 4 from rfl]
      go_wp2
      go_meet
      exact Lib.hid ⟨_, _, _, _, _, _, _, _, _, HL.out.set4 (8 + m), fun g => rfl⟩
    · rw [show ((5 : Nat) : Int) = 5 from rfl]
      go_wp2
      go_loopg [90] (7 + m).toNat (fun gh x wx => ∃ (k : Nat) (v5 : Value), k + gh = (7 + m).toNat ∧ Hid (LK w b9 n9 4 2 0 0 v5 (.slice none 0 0) (.slice (some ⟨g7, 0, none⟩) 1 c7) (List.replicate (k + 1) (⟨#[97]⟩, 1, 1, 8)) [] [(vI, [ex0, ex1 0], exE)] wx))
      case atStart => exact ⟨0, _, by omega, HL⟩
      case round =>
        obtain ⟨k, vA, hkg, HK⟩ := hrel
        clear q2 q3 q4 q5 q7 qf
        have hro := HK.out.rows.arr
        rw [List.length_replicate] at hro
        obtain ⟨gA, cA, rfl, _, _⟩ := hro.form (by omega)
        have c5' := HK.out.c5
        cases gk with
        | zero =>
          have hge : ¬ ((k : Int) + 1 < 8 + m) := by omega
          clear hro
          go_wp2
          go_meet
          refine Lib.hid ⟨2, 0, 0, _, _, _, _, _, _, HK.out, fun g => ?_⟩
          have e : (8 + m).toNat = k + 1 := by omega
          unfold lw
          rw [if_neg (by decide), if_neg (by decide), if_neg (by decide), if_neg (by decide), if_neg (by decide), if_pos rfl, e]
          rfl
        | succ gh =>
          have hlt : (k : Int) + 1 < 8 + m := by omega
          have hk4 : k ≤ 50 := by omega
          have ca0 := hro.cellAt 0 (by omega)
          have ca1 := hro.cellAt 1 (by omega)
          have ca2 := hro.cellAt 2 (by omega)
          have ca3 := hro.cellAt 3 (by omega)
          rw [show (flatA (List.replicate (k + 1) (⟨#[97]⟩, 1, 1, 8)))[0]? = some (.string ⟨#[97]⟩) from by rw [List.replicate_succ]; rfl] at ca0
          rw [show (flatA (List.replicate (k + 1) (⟨#[97]⟩, 1, 1, 8)))[1]? = some (.int .i64 1) from by rw [List.replicate_succ]; rfl] at ca1
          rw [show (flatA (List.replicate (k + 1) (⟨#[97]⟩, 1, 1, 8)))[2]? = some (.int .i64 1) from by rw [List.replicate_succ]; rfl] at ca2
          rw [show (flatA (List.replicate (k + 1) (⟨#[97]⟩, 1, 1, 8)))[3]? = some (.int .i64 8) from by rw [List.replicate_succ]; rfl] at ca3
          have q5a := (fun C => (HK.out.alloc (.cells C 91)).c5)
          clear hro
          go_wp2
          go_region_law (first | (refine step_append_own rfl _ _ 32 (by rfl) n9 91 iA _ 4 40 Tryz.underlying32 hA hA0 hA1 hA2 rfl (by decide) (.slice (some ⟨gA, 0, none⟩) (k + 1) cA) (k + 1) (flatA (List.replicate (k + 1) (⟨#[97]⟩, 1, 1, 8))) (by rfl) ((HK.out.alloc _).drew).rowA' ⟨wr.heap.size, 0, none⟩ 1 1 (arC (⟨#[97]⟩, 1, 1, 8)) (by rfl) (by rfl) (row_new wr #[.string ⟨#[97]⟩, .int .i64 1, .int .i64 1, .int .i64 8] 91) (by simp [arC, Value.oneCell']) (by unfold maxLen; omega) (by omega) ((HK.out.alloc _).drew).hn.2.2 ?_; intro v' w8 hown' hgrow _; obtain ⟨gg, cap, rfl, _, _⟩ := hown'.form (by omega); obtain ⟨hbx, _⟩ := ((HK.out.alloc _).drew).boxg ((HK.out.alloc _).drew).rowA' hgrow (by decide); have ff := LK.fr' hbx 5; have fc := (LK.ck' hbx).1; have HP8 := Lib.hid (((HK.out.alloc _).drew).push5 (x := (⟨#[97]⟩, 1, 1, 8)) (by rw [List.length_replicate]; exact hown') hgrow); clear hown' hgrow hbx) | (refine step_append_own rfl _ _ 32 (by rfl) n9 91 iA _ 4 40 Tryz.underlying32 hA hA0 hA1 hA2 rfl (by decide) (.slice (some ⟨gA, 0, none⟩) (k + 1) cA) (k + 1) (flatA (List.replicate (k + 1) (⟨#[97]⟩, 1, 1, 8))) (by rfl) ((HK.out.alloc _)).rowA' ⟨wr.heap.size, 0, none⟩ 1 1 (arC (⟨#[97]⟩, 1, 1, 8)) (by rfl) (by rfl) (row_new wr #[.string ⟨#[97]⟩, .int .i64 1, .int .i64 1, .int .i64 8] 91) (by simp [arC, Value.oneCell']) (by unfold maxLen; omega) (by omega) ((HK.out.alloc _)).hn.2.2 ?_; intro v' w8 hown' hgrow _; obtain ⟨gg, cap, rfl, _, _⟩ := hown'.form (by omega); obtain ⟨hbx, _⟩ := ((HK.out.alloc _)).boxg ((HK.out.alloc _)).rowA' hgrow (by decide); have ff := LK.fr' hbx 5; have fc := (LK.ck' hbx).1; have HP8 := Lib.hid (((HK.out.alloc _)).push5 (x := (⟨#[97]⟩, 1, 1, 8)) (by rw [List.length_replicate]; exact hown') hgrow); clear hown' hgrow hbx))
          all_goals
            go_wp2
            go_roundg gh
            case measure => omega
            case rel => exact ⟨k + 1, _, by omega, Lib.hid (by rw [List.replicate_succ']; exact HP8.out)⟩
    · rw [show ((6 : Nat) : Int) = 6 from rfl]
      have ca := HL.out.rows.arr.cellAt 0 (by decide)
      have cf := HL.out.rows.arr.frozenAt 0
      rw [show (flatA exQ)[0]? = some (.string ⟨#[97]⟩) from rfl] at ca
      go_wp2
      go_region
      all_goals
        go_wp2
        go_meet
        exact Lib.hid ⟨_, _, _, _, _, _, _, _, _, (HL.out.name (nm' := alph.extract 0 (12 + m).toNat)).drew, fun g => rfl⟩
  case rest =>
    obtain ⟨r, s, p, v5, v6, v7, qs, ls, es, hlk, hcd⟩ := hcut.out
    have hE9 : EnvP wc := HE.out.on hlk.below
    have hok := lw_ok q m ⟨hm0, hm1⟩ wr
    have hck := lw_chk q m ⟨hm0, hm1⟩ wr
    rw [← hcd] at hok hck
    clear hcd HL
    cases wr with
    | false =>
      obtain ⟨z, hz⟩ : ∃ z, wantE m false = z := ⟨_, rfl⟩
      rw [hz] at hck
      obtain ⟨A1, l1, d1, A2, l2, d2, A3, l3, d3, rfl, rfl, rfl, hT, hC⟩ := lk_calls hlk hok hE9 z hck
      have HT := Lib.hid (hT wc (Below.refl _ _))
      have HC := Lib.hid hC
      have HBW := Lib.hid hlk.below
      have c0 := hlk.c0
      have c1 := hlk.c1
      have c2 := hlk.c2
      have c3 := hlk.c3
      have c4 := hlk.c4
      have c5 := hlk.c5
      have c6 := hlk.c6
      have c7 := hlk.c7
      have HBX := Lib.hid hlk
      clear hT hC hok hck hE9 hlk
      by_cases hm : m ≤ 0
      · have hz0 : z = 0 := by rw [← hz]; unfold wantE; rw [if_pos hm]; first | rfl | skip
        subst hz0
        clear hz
        go_wp2_with (first
          | (go_at_call 15; (with_reducible refine HT.out.mono ?_); rintro e x1 ⟨⟨sx, rfl⟩, hb⟩; have hx := HBX.out.on hb; have k0 := hx.c0; have k1 := hx.c1; have k2 := hx.c2; have k3 := hx.c3; have k4 := hx.c4; have k5 := hx.c5; have k6 := hx.c6; have k7 := hx.c7; clear hx; have HB3 := Lib.hid hb; clear hb)
          | (go_at_call 17; (with_reducible refine (HC.out _ HB3.out).mono ?_); rintro e x2 ⟨rfl, hb⟩; have HB4 := Lib.hid hb; clear hb))
        go_ret
        exact ⟨rfl, HBW.out.trans (HB4.out.mono HBW.out.size)⟩
      · have hz0 : z = 2 := by rw [← hz]; unfold wantE; rw [if_neg hm]
        subst hz0
        clear hz
        go_wp2_with (first
          | (go_at_call 15; (with_reducible refine HT.out.mono ?_); rintro e x1 ⟨⟨sx, rfl⟩, hb⟩; have hx := HBX.out.on hb; have k0 := hx.c0; have k1 := hx.c1; have k2 := hx.c2; have k3 := hx.c3; have k4 := hx.c4; have k5 := hx.c5; have k6 := hx.c6; have k7 := hx.c7; clear hx; have HB3 := Lib.hid hb; clear hb)
          | (go_at_call 17; (with_reducible refine (HC.out _ HB3.out).mono ?_); rintro e x2 ⟨rfl, hb⟩; have HB4 := Lib.hid hb; clear hb))
        go_ret
        exact ⟨rfl, HBW.out.trans (HB4.out.mono HBW.out.size)⟩
    | true =>
      obtain ⟨z, hz⟩ : ∃ z, wantE m true = z := ⟨_, rfl⟩
      rw [hz] at hck
      have f0 := hlk.fr 0
      have d0 := hlk.c0
      have hlk := hlk.set0 3
      have hE9 : EnvP (wc.setCell ⟨b9, 0, none⟩ (.int .i64 3)) := HE.out.on hlk.below
      obtain ⟨A1, l1, d1, A2, l2, d2, A3, l3, d3, rfl, rfl, rfl, hT, hC⟩ := lk_calls hlk hok hE9 z hck
      have HT := Lib.hid (hT (wc.setCell ⟨b9, 0, none⟩ (.int .i64 3)) (Below.refl _ _))
      have HC := Lib.hid hC
      have HBW := Lib.hid hlk.below
      have c0 := hlk.c0
      have c1 := hlk.c1
      have c2 := hlk.c2
      have c3 := hlk.c3
      have c4 := hlk.c4
      have c5 := hlk.c5
      have c6 := hlk.c6
      have c7 := hlk.c7
      have HBX := Lib.hid hlk
      clear hT hC hok hck hE9 hlk
      by_cases hm : m ≤ 0
      · have hz0 : z = 50 := by rw [← hz]; unfold wantE; rw [if_pos hm]; first | rfl | skip
        subst hz0
        clear hz
        go_wp2_with (first
          | (go_at_call 15; (with_reducible refine HT.out.mono ?_); rintro e x1 ⟨⟨sx, rfl⟩, hb⟩; have hx := HBX.out.on hb; have k0 := hx.c0; have k1 := hx.c1; have k2 := hx.c2; have k3 := hx.c3; have k4 := hx.c4; have k5 := hx.c5; have k6 := hx.c6; have k7 := hx.c7; clear hx; have HB3 := Lib.hid hb; clear hb)
          | (go_at_call 17; (with_reducible refine (HC.out _ HB3.out).mono ?_); rintro e x2 ⟨rfl, hb⟩; have HB4 := Lib.hid hb; clear hb))
        go_ret
        exact ⟨rfl, HBW.out.trans (HB4.out.mono HBW.out.size)⟩
      · have hz0 : z = 2 := by rw [← hz]; unfold wantE; rw [if_neg hm]
        subst hz0
        clear hz
        go_wp2_with (first
          | (go_at_call 15; (with_reducible refine HT.out.mono ?_); rintro e x1 ⟨⟨sx, rfl⟩, hb⟩; have hx := HBX.out.on hb; have k0 := hx.c0; have k1 := hx.c1; have k2 := hx.c2; have k3 := hx.c3; have k4 := hx.c4; have k5 := hx.c5; have k6 := hx.c6; have k7 := hx.c7; clear hx; have HB3 := Lib.hid hb; clear hb)
          | (go_at_call 17; (with_reducible refine (HC.out _ HB3.out).mono ?_); rintro e x2 ⟨rfl, hb⟩; have HB4 := Lib.hid hb; clear hb))
        go_ret
        exact ⟨rfl, HBW.out.trans (HB4.out.mono HBW.out.size)⟩
end Go.Proofs.YtkncilgmlkeifaaGreatDoor
