/-
  The contract of the reference's PackIn.
-/
import Derived.Test.YtjknmancnfeifaaPkR
import Derived.Outline
set_option linter.unusedVariables false
set_option linter.unusedSimpArgs false
namespace Go.Proofs.Ytjknmancnfeifaa
open Go.ChangeShapes Go.WideShapes Go.ChangeAt Go.RowKit Go.Shelf

theorem Living_yes {m : Nat} {d : Int} {lv : List Nat} (W : World) (hm : m ≤ 64) (hd0 : 0 ≤ d) (hd : d < 18446744073709551616) (hlv : livL d m = lv) (hn1 : 1 ≤ lv.length) :
    Calls Try.prog 39 #[.int .i64 m, .int .u64 d] W fun e w' => ∃ g c, e = .returned (.slice (some ⟨g, 0, none⟩) lv.length c) ∧ (∀ j, j < lv.length → w'.cell? ⟨g, j, none⟩ = some (.int .i64 (lv.getD j 0 : Nat))) ∧ W.heap.size ≤ g ∧ g < w'.heap.size ∧ Below W.heap.size W w' :=
  (Living_any m d W hd0 hd).mono fun e w' ⟨v, he, hown, hb⟩ => by
    have hmm : lanesN (m : Int) = m := by unfold lanesN; omega
    rw [hmm, hlv] at hown
    obtain ⟨g, cap, rfl, hg, hlt⟩ := hown.form (by omega)
    refine ⟨g, cap, he, fun j hj => ?_, hg, hlt, hb⟩
    rw [hown.cellAt j (by omega)]
    simp [cellsN, List.getElem?_eq_getElem hj]

theorem Pkd.of9 {w W : World} {nb B9 b : Nat} {v : Value} (h : Pkd w b v) (hk : Keep9 nb B9 w W) (hb : b < nb) (hn : b ≠ B9) : Pkd W b v := (hk.block b hb hn).trans h
set_option maxRecDepth 100000 in
set_option maxHeartbeats 8000000 in
theorem PackIn_yes (m : Nat) (d : Int) (len cap : Nat) (A : Option Addr) (f : Nat → Int) (w : World) (hm1 : 1 ≤ m) (hm : m ≤ 64) (hd0 : 0 ≤ d) (hd : d < 18446744073709551616) (hlen : len ≤ 65536)
    (hr : RF w w.heap.size .i64 A len f) (hne : livL d m ≠ []) :
    Calls Try.prog 23 #[.slice A len cap, .int .i64 m, .int .u64 d] w fun e w' => ∃ A' c', e = .returned (.agg #[.slice A' (chN len (livL d m).length) c', .int .i64 0]) ∧
      RW w' w'.heap.size .i64 A' (chN len (livL d m).length) (fun _ => m) (warpF (livL d m) len f) ∧ Below w.heap.size w w' := by
  obtain ⟨i0, hi, hz0, hz1, hz2⟩ := info_parts info49
  obtain ⟨j0, hj, hy0, hy1, hy2⟩ := info_parts info3
  have hn64 := livL_len d m
  have hn1 : 1 ≤ (livL d m).length := by
    cases h : livL d m with
    | nil => exact absurd h hne
    | cons a l => simp
  obtain ⟨lv, hlv⟩ : ∃ lv, livL d m = lv := ⟨_, rfl⟩
  have HLiv := fun W => Living_yes W hm hd0 hd hlv
  have hmem : ∀ j, j < lv.length → lv.getD j 0 < m := fun j hj => by
    have : lv.getD j 0 ∈ livL d m := by rw [hlv]; simp [List.getD_eq_getElem?_getD, List.getElem?_eq_getElem hj]
    simpa using (List.mem_filter.1 this).1
  rw [hlv] at hn1 hn64 ⊢
  clear hlv hne
  have HV := Lib.hid (fun W => HLiv W hn1)
  have HM := Lib.hid hmem
  have HRF := Lib.hid hr
  clear HLiv hr hmem
  obtain ⟨a, ha⟩ : ∃ a, lv.length = a := ⟨_, rfl⟩
  rw [ha] at hn1 hn64 HV HM ⊢
  have HLA := Lib.hid ha
  clear ha
  have z1 : ((a : Int) == 0) = false := by simp; omega
  have z2 : (a == 0) = false := by simp; omega
  go_enter Try.func23, Try.ntmps23
  go_wp2_with (go_at_call 39; (with_reducible refine (HV.out _).mono ?_); rintro e w1 ⟨ga, ca, rfl, hal, hga, hgl, hb1⟩; have HA := Lib.hid hal; have HB1 := Lib.hid hb1; clear hal hb1)
  obtain ⟨b, off, hA⟩ : ∃ b off, 0 < len → A = some ⟨b, off, none⟩ ∧ b < w.heap.size ∧ ∀ j, j < len → w.cell? ⟨b, off + j, none⟩ = some (.int .i64 (f j)) := by
    by_cases h : 0 < len
    · obtain ⟨b, off, h1, h2, h3⟩ := HRF.out h
      exact ⟨b, off, fun _ => ⟨h1, h2, h3⟩⟩
    · exact ⟨0, 0, fun h' => absurd h' h⟩
  have HAA := Lib.hid hA
  clear hA
  have hw1 : w.heap.size < w1.heap.size := by have := HB1.out.size; simp at this; omega
  have hga1 : w.heap.size + 1 ≤ ga := by simpa using hga
  clear hga
  have bB9 := Pkd.new w1 (.slice none 0 0)
  have hbW0 : Below w1.heap.size w1 (w1.alloc (.cells #[.slice none 0 0, .int .i64 0] 66)) := (Below.refl _ _).alloc (Nat.le_refl _) _
  have bR : Pkd w1 w.heap.size (.slice none 0 0) := (Pkd.new w (.slice none 0 0)).on HB1.out
  have bR0 := bR.on hbW0
  have hsz : (w1.alloc (.cells #[.slice none 0 0, .int .i64 0] 66)).heap.size = w1.heap.size + 1 := by simp
  obtain ⟨W0, hW0⟩ : ∃ W0, w1.alloc (.cells #[.slice none 0 0, .int .i64 0] 66) = W0 := ⟨_, rfl⟩
  rw [hW0] at bB9 hbW0 bR0 hsz ⊢
  clear hW0 bR
  have ca8 : ∀ j, j < a → W0.cell? ⟨ga, j, none⟩ = some (.int .i64 (lv.getD j 0 : Nat)) := fun j hj => (hbW0.cell (p := ⟨ga, j, none⟩) hgl).trans (HA.out j hj)
  have cit : ∀ j, j < len → b < w.heap.size ∧ A = some ⟨b, off, none⟩ ∧ W0.cell? ⟨b, off + j, none⟩ = some (.int .i64 (f j)) := fun j hj => by
    obtain ⟨h1, h2, h3⟩ := HAA.out (by omega)
    refine ⟨h2, h1, (hbW0.cell (p := ⟨b, off + j, none⟩) (by simp; omega)).trans ((HB1.out.cell (p := ⟨b, off + j, none⟩) (by simp; omega)).trans ?_)⟩
    rw [World.cell?_alloc_lt _ _ _ (by exact h2)]
    exact h3 j hj
  have hbw : Below w.heap.size w W0 := ((Below.refl _ w).alloc (Nat.le_refl _) _).trans ((HB1.out.mono (by simp)).trans (hbW0.mono (by omega)))
  have CA := Lib.hid ca8
  have CI := Lib.hid cit
  have HBW := Lib.hid hbw
  have HR0 := Lib.hid bR0
  have HB9 := Lib.hid bB9
  obtain ⟨n0, hn0⟩ : ∃ n0, w1.heap.size = n0 := ⟨_, rfl⟩
  rw [hn0] at hw1 hgl hsz HB9 ⊢
  clear ca8 cit hbw HB1 HA HAA hbW0 HRF HV bR0 bB9 hn0
  go_loopw [9] (fun i wr => ∃ r : Nat, r ≤ chN len a ∧ i = .int .i64 ((r * a : Nat) : Int) ∧ PJ (n0 + 1) n0 m (warpF lv len f) r wr ∧ Keep9 (n0 + 1) n0 W0 wr) (fun i _ => len + 64 - (intOf i).toNat)
  case atStart => exact ⟨0, Nat.zero_le _, by simp, PJ.start HB9.out, Keep9.refl _ _ _⟩
  case round =>
    obtain ⟨r, hr, rfl, hP, hK9⟩ := hrel
    have hcl := chN_lt (len := len) (n := a) (r := r) hn1
    obtain ⟨cn, hcn⟩ : ∃ cn, chLen len a r = cn := ⟨_, rfl⟩
    obtain ⟨q0, hq0⟩ : ∃ q0, r * a = q0 := ⟨_, rfl⟩
    have hcn1 : cn ≤ a := by unfold chLen at hcn; omega
    have hcn2 : cn = min a (len - q0) := by unfold chLen at hcn; rw [hq0] at hcn; exact hcn.symm
    have hqn : (r + 1) * a = q0 + a := by rw [Nat.succ_mul, hq0]
    rw [hq0] at hcl ⊢
    have hnw : n0 + 1 ≤ wr.heap.size := by have := hK9.size; omega
    have HP := Lib.hid hP
    have HK := Lib.hid hK9
    have HQ := Lib.hid hq0
    have HQN := Lib.hid hqn
    have HC := Lib.hid hcn
    clear hP hK9 hq0 hcn hqn
    obtain ⟨wo, rfl⟩ : ∃ wo : World, wo = wr := ⟨_, rfl⟩
    by_cases hlt : r < chN len a
    · have hql : q0 < len := hcl.1 hlt
      have hpos : 0 < cn := by omega
      clear hcl
      go_wp2
      go_loopw [10, 11] (fun v i wx => ∃ q : Nat, q ≤ m ∧ i = .int .i64 q ∧ wx.ownsRow wo.heap.size 3 1 v q (List.replicate q (.int .i64 (-1))) ∧ Below wo.heap.size wo wx) (fun _ i _ => m - (intOf i).toNat)
      case atStart => exact ⟨0, Nat.zero_le _, rfl, World.ownsRow_lit _ #[] 0 (Nat.le_refl _) (by unfold maxLen; omega) rfl, (Below.refl _ _).alloc (Nat.le_refl _) _⟩
      case round =>
        obtain ⟨q, hq, rfl, hown, hbel⟩ := hrel
        by_cases hqm : q < m
        · have HL := Lib.hid hbel
          have hz := hbel.size
          clear hbel
          go_wp2_with (at_builtin; refine wpList_append_own_at _ rfl _ _ 49 rfl wo.heap.size 3 j0 (.int .i64 0) 1 8 Try.underlying49 hj hy0 hy1 hy2 rfl (by decide) _ _ _ rfl (hown.alloc _) ⟨wr.heap.size, 0, none⟩ 1 1 [.int .i64 (-1)] rfl rfl (cell_one_new _ _ _) (by simp [Value.oneCell']) (by unfold maxLen; omega) (by omega) (by simp; omega) ?_; intro v' w2 hown1 hgrow _ hat)
          go_roundw
          case rel => exact ⟨q + 1, by omega, by go_num, by rw [List.replicate_succ']; exact hown1, (HL.out.alloc hz _).grown hgrow (by simp; omega) (fun j hj => (hown.lt j hj).1)⟩
          case measure => simp [intOf]; omega
        · obtain rfl : q = m := by omega
          obtain ⟨G, cG, rfl, hG, hGl⟩ := hown.form (by omega)
          have hwa : WA _ G q (fill lv (fun z => f (q0 + z)) 0) := WA.of_own hown (fun j hj => by simp [hj, fill])
          have HWA := Lib.hid hwa
          have HL := Lib.hid hbel
          clear hown hbel hwa
          obtain ⟨w3, rfl⟩ : ∃ w3 : World, w3 = wr := ⟨_, rfl⟩
          go_wp2
          go_loopw [12] (fun i wy => ∃ p : Nat, p ≤ cn ∧ i = .int .i64 p ∧ WA wy G q (fill lv (fun z => f (q0 + z)) p) ∧ Below wo.heap.size wo wy) (fun i _ => cn - (intOf i).toNat)
          case atStart => exact ⟨0, Nat.zero_le _, rfl, HWA.out, HL.out⟩
          case round =>
            obtain ⟨p, hp, rfl, hwa, hbel⟩ := hrel
            by_cases hpc : p < cn
            · obtain ⟨_, hAe, hpi⟩ := CI.out (q0 + p) (by omega)
              have hbw := (CI.out (q0 + p) (by omega)).1
              have hit : wr.cell? ⟨b, off + (q0 + p), none⟩ = some (.int .i64 (f (q0 + p))) := (hbel.cell (p := ⟨b, off + (q0 + p), none⟩) (by simp; omega)).trans ((HK.out.cell (by omega) (by omega)).trans hpi)
              obtain ⟨y, hy⟩ : ∃ y, lv.getD p 0 = y := ⟨_, rfl⟩
              have hym : y < q := by rw [← hy]; exact HM.out p (by omega)
              have hal : wr.cell? ⟨ga, p, none⟩ = some (.int .i64 (y : Nat)) := by
                rw [← hy]
                exact (hbel.cell (p := ⟨ga, p, none⟩) (by simp; omega)).trans ((HK.out.cell (by omega) (by omega)).trans (CA.out p (by omega)))
              have hcs := hwa.cell hym
              have hfs := hwa.frozen y
              have hpa : p < a := by omega
              have hqp : q0 + p < len := by omega
              have hwrap : IntKind.i64.wrap ((q0 : Int) + (p : Int)) = (q0 : Int) + (p : Int) := IntWalk.i64_in _ (by omega)
              have htn : ((q0 : Int) + (p : Int)).toNat = q0 + p := by omega
              subst hAe
              have HR1 := Lib.hid hwa
              have HB2 := Lib.hid hbel
              have HY := Lib.hid hy
              clear hwa hbel hy hpi
              go_wp2
              go_region
              all_goals
                go_wp2
                go_roundw
                case rel => exact ⟨p + 1, by omega, by go_num, by have := HR1.out.fill_set; rw [HY.out] at this; exact this, (HB2.out.setCell (by simp; omega) _).drew⟩
                case measure => simp [intOf]; omega
            · obtain rfl : p = cn := by omega
              have hsw := hbel.size
              obtain ⟨v, cells, hv, hrr, hcc⟩ := HP.out.on hbel
              have hclen : cells.length = r := by have := hrr.1; omega
              have e2 : fill lv (fun z => f (q0 + z)) p = warpF lv len f r := by
                unfold warpF; rw [HLA.out, HQ.out, HC.out]
              rw [e2] at hwa
              have hc0 := hv.c0
              have HA5 := fun (v' : Value) (w5 W3 : World) (h3 : Below wr.heap.size wr W3) h1 h2 => PJ.appended (w1 := w5) (W3 := W3) (v' := v') (c := cG) hbel (by omega) hv hrr hcc (by omega) hwa hclen h3 h1 h2
              have HA6 := Lib.hid HA5
              have HRR := Lib.hid hrr
              have HCL := Lib.hid hclen
              clear hwa hbel hv hcc e2 HA5 hrr hclen
              have hcap : chN len a ≤ len + a - 1 := Nat.div_le_self _ _
              by_cases hpa : p < a
              · have hqp : ¬ q0 + p < len := by omega
                go_wp2_with (at_builtin; refine wpList_append_own _ rfl _ _ 64 rfl (n0 + 1) 49 i0 (.slice none 0 0) 1 24 Try.underlying64 hi hz0 hz1 hz2 rfl (by decide) _ _ _ rfl (HRR.out.alloc _) ⟨wr.heap.size, 0, none⟩ 1 1 [.slice (some ⟨G, 0, none⟩) q cG] rfl rfl (cell_one_new _ _ _) (by simp [Value.oneCell']) (by unfold maxLen; omega) (by omega) (by simp; omega) ?_; intro v' w5 hown' hgrow _; obtain ⟨g', cap', rfl⟩ := ownsRow_succ hown'; obtain ⟨hv5, hfin⟩ := HA6.out _ _ _ ((Below.refl _ _).alloc (Nat.le_refl _) _) hown' hgrow; have hc5 := hv5.c0; have hf5 := hv5.free (i := 0); have HF := Lib.hid hfin; clear hfin hown' hgrow hv5)
                go_roundw
                case rel => exact ⟨r + 1, by omega, by rw [HQN.out]; go_num, HF.out.2, HK.out.trans HF.out.1⟩
                case measure => simp [intOf]; omega
              · go_wp2_with (at_builtin; refine wpList_append_own _ rfl _ _ 64 rfl (n0 + 1) 49 i0 (.slice none 0 0) 1 24 Try.underlying64 hi hz0 hz1 hz2 rfl (by decide) _ _ _ rfl (HRR.out.alloc _) ⟨wr.heap.size, 0, none⟩ 1 1 [.slice (some ⟨G, 0, none⟩) q cG] rfl rfl (cell_one_new _ _ _) (by simp [Value.oneCell']) (by unfold maxLen; omega) (by omega) (by simp; omega) ?_; intro v' w5 hown' hgrow _; obtain ⟨g', cap', rfl⟩ := ownsRow_succ hown'; obtain ⟨hv5, hfin⟩ := HA6.out _ _ _ ((Below.refl _ _).alloc (Nat.le_refl _) _) hown' hgrow; have hc5 := hv5.c0; have hf5 := hv5.free (i := 0); have HF := Lib.hid hfin; clear hfin hown' hgrow hv5)
                go_roundw
                case rel => exact ⟨r + 1, by omega, by rw [HQN.out]; go_num, HF.out.2, HK.out.trans HF.out.1⟩
                case measure => simp [intOf]; omega
    · obtain rfl : r = chN len a := by omega
      have hql : ¬ q0 < len := fun h => hlt (hcl.2 h)
      obtain ⟨A', c', hv, hRW⟩ := HP.out.reads
      have hc0 := hv.c0
      have hc1 := hv.c1
      have hR := Pkd.of9 HR0.out HK.out (by omega) (by omega)
      have d0 := hR.c0
      have d1 := hR.c1
      have f0 := hR.free (i := 0)
      have f1 := hR.free (i := 1)
      have hz := hR.lt
      have HRW := Lib.hid hRW
      clear hv hRW hR hcl hlt
      go_wp2
      refine bodyPost_ret (v := .agg #[.slice A' (chN len a) c', .int .i64 0]) (by simp [results, Try.results23, go_sem, d0, d1, f0, f1]) rfl ⟨_, _, rfl, ?_, ?_⟩
      · exact (((HRW.out.far (p := ⟨w.heap.size, 0, none⟩) (by simp; omega) _).far (p := ⟨w.heap.size, 1, none⟩) (by simp; omega) _).rw_).more (by simp [World.setCell])
      · exact ((HBW.out.trans (HK.out.below (by omega) (by omega))).setCell (by simp) _).setCell (by simp) _
end Go.Proofs.Ytjknmancnfeifaa
