/-
  The contract of launch.Pack.
-/
import Derived.Test.YtjknmancnfeifaaPackA
import Derived.Test.YtjknmancnfeifaaPackL
import Derived.Test.YtjknmancnfeifaaChunkB
set_option linter.unusedVariables false
set_option linter.unusedSimpArgs false
namespace Go.Proofs.Ytjknmancnfeifaa
open Go.RowKit Go.Shelf
attribute [local go_sem] Oper.semAt_some

/-- Lane j of warp r: n living lanes lv, the items f. -/
def warpF (lv : List Nat) (len : Nat) (f : Nat → Int) (r : Nat) : Nat → Int := fill lv (fun q => f (r * lv.length + q)) (chLen len lv.length r)
theorem fill_zero {w : World} {g m : Nat} {lv : List Nat} {it : Nat → Int} (h : w.heap[g]? = some (.cells (repL (-1) m m).toArray 3 (0, 0))) : w.rowIs g 3 m (fun j => .int .i64 (fill lv it 0 j)) :=
  ⟨_, h, by simp [repL], fun i hi => by simp [repL, fill, hi]⟩

theorem living_yes {m : Nat} {d : Int} {lv : List Nat} (W : World) (hm : m ≤ 64) (hd0 : 0 ≤ d) (hd : d < 18446744073709551616) (hlv : livL d m = lv) (hn1 : 1 ≤ lv.length) :
    Calls Try.prog 47 #[.int .i64 m, .int .u64 d] W fun e w' => ∃ g c, e = .returned (.slice (some ⟨g, 0, none⟩) lv.length c) ∧ (∀ j, j < lv.length → w'.cell? ⟨g, j, none⟩ = some (.int .i64 (lv.getD j 0 : Nat))) ∧ W.heap.size ≤ g ∧ g < w'.heap.size ∧ Below W.heap.size W w' :=
  (living_any m d W hm hd0 hd).mono fun e w' ⟨v, he, hown, hb⟩ => by
    rw [hlv] at hown
    obtain ⟨g, cap, rfl, hg, hlt⟩ := hown.form (by omega)
    refine ⟨g, cap, he, fun j hj => ?_, hg, hlt, hb⟩
    rw [hown.cellAt j (by omega)]
    simp [cellsN, List.getElem?_eq_getElem hj]

set_option maxRecDepth 100000 in
set_option maxHeartbeats 8000000 in
theorem Pack_in (m : Nat) (d : Int) (len cap : Nat) (A : Option Addr) (f : Nat → Int) (w : World) (hm1 : 1 ≤ m) (hm : m ≤ 64) (hd0 : 0 ≤ d) (hd : d < 18446744073709551616) (hlen : len ≤ 65536) (hcap : len ≤ cap)
    (hr : RF w w.heap.size .i64 A len f) (hn1 : 1 ≤ (livL d m).length) :
    CallsIn Fence.wide 6 Try.prog 38 #[.slice A len cap, .int .i64 m, .int .u64 d] w fun e w' => ∃ A' c', e = .returned (.tuple #[.slice A' (chN len (livL d m).length) c', .int .i64 0]) ∧
      RWo w' w.heap.size w'.heap.size .i64 A' (chN len (livL d m).length) (fun _ => m) (warpF (livL d m) len f) ∧ Below w.heap.size w w' := by
  obtain ⟨i0, hi, hz0, hz1, hz2⟩ := info_parts info49
  have hn64 := livL_len d m
  obtain ⟨lv, hlv⟩ : ∃ lv, livL d m = lv := ⟨_, rfl⟩
  have HLiv := fun W => living_yes W hm hd0 hd hlv
  have hmem : ∀ j, j < lv.length → lv.getD j 0 < m := fun j hj => by
    have : lv.getD j 0 ∈ livL d m := by rw [hlv]; simp [List.getD_eq_getElem?_getD, List.getElem?_eq_getElem hj]
    simpa using (List.mem_filter.1 this).1
  rw [hlv] at hn1 hn64 ⊢
  clear hlv
  have HV := Lib.hid (fun W => HLiv W hn1)
  have HM := Lib.hid hmem
  have HRF := Lib.hid hr
  clear HLiv hr hmem
  refine callsIn_of_wp_marks Try.func38 rfl trivial ?_ rfl
  simp only [Try.ntmps38, List.size_toArray, List.length_cons, List.length_nil, Nat.reduceAdd, Nat.reduceSub, Array.replicate_succ, Array.replicate_zero, List.push_toArray, List.append_toArray, List.nil_append, List.cons_append]
  gi_wp2_with (first
    | (refine ⟨trivial, ?_⟩; gi_at_call 47; refine (callsIn_wide.2 (HV.out _)).mono ?_; rintro e w1 ⟨ga, ca, rfl, hal, hga, hgl, hb1⟩; have HA := Lib.hid hal; have HB1 := Lib.hid hb1; clear hal hb1)
    | (refine ⟨trivial, ?_⟩; gi_at_call 48; refine (Chunk_in Fence.wide _ trivial rfl _ _ _ _ hn1 _).mono ?_; rintro e w' ⟨rfl, rfl⟩))
  obtain ⟨b, off, hA⟩ : ∃ b off, 0 < len → A = some ⟨b, off, none⟩ ∧ b < w.heap.size ∧ ∀ j, j < len → w.cell? ⟨b, off + j, none⟩ = some (.int .i64 (f j)) := by
    by_cases h : 0 < len
    · obtain ⟨b, off, h1, h2, h3⟩ := HRF.out h
      exact ⟨b, off, fun _ => ⟨h1, h2, h3⟩⟩
    · exact ⟨0, 0, fun h' => absurd h' h⟩
  have hA1 : 0 < len → A = some ⟨b, off, none⟩ := fun h => (hA h).1
  have HAA := Lib.hid hA
  have hw1 : w.heap.size < w1.heap.size := by have := HB1.out.size; simp at this; omega
  have bB8 := ((Boxed.new w1 49 (.slice (some ⟨ga, 0, none⟩) lv.length ca)).alloc (.cells #[.slice none 0 0] 64)).alloc (.cells #[.slice A len cap] 49) |>.alloc (.cells #[.int .i64 lv.length] 3)
  have bB9 := ((Boxed.new (w1.alloc (.cells #[.slice (some ⟨ga, 0, none⟩) lv.length ca] 49)) 64 (.slice none 0 0)).alloc (.cells #[.slice A len cap] 49)).alloc (.cells #[.int .i64 lv.length] 3)
  have bBs := (Boxed.new ((w1.alloc (.cells #[.slice (some ⟨ga, 0, none⟩) lv.length ca] 49)).alloc (.cells #[.slice none 0 0] 64)) 49 (.slice A len cap)).alloc (.cells #[.int .i64 lv.length] 3)
  have bBn := Boxed.new (((w1.alloc (.cells #[.slice (some ⟨ga, 0, none⟩) lv.length ca] 49)).alloc (.cells #[.slice none 0 0] 64)).alloc (.cells #[.slice A len cap] 49)) 3 (.int .i64 lv.length)
  have hbW0 : Below w1.heap.size w1 ((((w1.alloc (.cells #[.slice (some ⟨ga, 0, none⟩) lv.length ca] 49)).alloc (.cells #[.slice none 0 0] 64)).alloc (.cells #[.slice A len cap] 49)).alloc (.cells #[.int .i64 lv.length] 3)) := ((((Below.refl _ _).alloc (Nat.le_refl _) _).alloc (by simp) _).alloc (by simp; omega) _).alloc (by simp; omega) _
  have hsz : ((((w1.alloc (.cells #[.slice (some ⟨ga, 0, none⟩) lv.length ca] 49)).alloc (.cells #[.slice none 0 0] 64)).alloc (.cells #[.slice A len cap] 49)).alloc (.cells #[.int .i64 lv.length] 3)).heap.size = w1.heap.size + 4 := by simp
  simp only [World.size_alloc] at bB9 bBs bBn
  obtain ⟨W0, hW0⟩ : ∃ W0, (((w1.alloc (.cells #[.slice (some ⟨ga, 0, none⟩) lv.length ca] 49)).alloc (.cells #[.slice none 0 0] 64)).alloc (.cells #[.slice A len cap] 49)).alloc (.cells #[.int .i64 lv.length] 3) = W0 := ⟨_, rfl⟩
  rw [hW0] at bB8 bB9 bBs bBn hbW0 hsz ⊢
  clear hW0
  -- what lay ahead of the loop
  have c4 : W0.cell? ⟨w.heap.size, 0, none⟩ = some (.int .i64 m) := by
    refine (hbW0.cell (p := ⟨w.heap.size, 0, none⟩) hw1).trans ((HB1.out.cell (p := ⟨w.heap.size, 0, none⟩) (by simp)).trans ?_)
    exact (Boxed.new w 3 (.int .i64 m)).cell
  have ca8 : ∀ j, j < lv.length → W0.cell? ⟨ga, j, none⟩ = some (.int .i64 (lv.getD j 0 : Nat)) := fun j hj => (hbW0.cell (p := ⟨ga, j, none⟩) hgl).trans (HA.out j hj)
  have cit : ∀ j, j < len → b < w.heap.size ∧ W0.cell? ⟨b, off + j, none⟩ = some (.int .i64 (f j)) := fun j hj => by
    obtain ⟨_, h2, h3⟩ := HAA.out (by omega)
    refine ⟨h2, (hbW0.cell (p := ⟨b, off + j, none⟩) (by simp; omega)).trans ((HB1.out.cell (p := ⟨b, off + j, none⟩) (by simp; omega)).trans ?_)⟩
    rw [World.cell?_alloc_lt _ _ _ (by exact h2)]
    exact h3 j hj
  have hbw : Below w.heap.size w W0 := ((Below.refl _ w).alloc (Nat.le_refl _) _).trans ((HB1.out.mono (by simp)).trans (hbW0.mono (by omega)))
  have C8 := Lib.hid bB8.cell
  have CA := Lib.hid ca8
  have CI := Lib.hid cit
  have C4 := Lib.hid c4
  clear ca8 cit c4 hA bB8
  refine wpIn_rangeFunc_ownG rfl (by omega) (gf := 55) (lb := #[.pointer (some ⟨w1.heap.size + 1 + 1, 0, none⟩), .pointer (some ⟨w1.heap.size + 1 + 1 + 1, 0, none⟩)]) rfl trivial (enters_of Try.func55 (by kernel_rfl) rfl)
    (chunk_stops Fence.wide 5 trivial rfl (by omega) (w1.heap.size + 1 + 1) (w1.heap.size + 1 + 1 + 1) b off len cap lv.length A hA1 hlen hn1 (by omega) hcap W0 (by omega) (by omega) bBs.cell bBn.cell)
    (fun h k => KpC.trans h k) (fun W l o o' hl _ _ _ => KpC.of_blocks (World.putObj_heap_other (by omega)) (World.putObj_heap_other (by omega))) (Below.refl _ _) (fun _ => rfl)
    (fun pre W => PI (w1.heap.size + 4) (w1.heap.size + 1) m (fun j => warpF lv len f (pre.getD j 0)) pre.length W ∧ Keep9 (w1.heap.size + 4) (w1.heap.size + 1) W0 W)
    (fun _ _ _ => False)
    (OwnFrom.and (by rw [hsz]; exact Own.from (PI.own (wf := fun pre j => warpF lv len f (pre.getD j 0))) _) (by rw [hsz]; exact Keep9.own (by omega)))
    (fun _ _ _ _ _ hs _ _ => hs)
    ⟨PI.start bB9, Keep9.refl _ _ _⟩
    (fun x => { tmps := #[.slice A len cap, .int .i64 m, .int .u64 d, undef, .pointer (some ⟨w.heap.size, 0, none⟩), undef, .slice none 0 0, .int .i64 0, .pointer (some ⟨w1.heap.size, 0, none⟩), .pointer (some ⟨w1.heap.size + 1, 0, none⟩), .slice (some ⟨b, off + x * lv.length, none⟩) (chLen len lv.length x) (chLen len lv.length x), undef, undef, undef, .int .i64 m, .bool (decide ((m : Int) < 1)), .bool (decide ((m : Int) < 1)), .int .i64 m, .bool (decide (64 < (m : Int))), .bool (decide ((m : Int) < 1) || decide (64 < (m : Int))), .int .i64 m, .int .u64 d, .slice (some ⟨ga, 0, none⟩) lv.length ca, .slice (some ⟨ga, 0, none⟩) lv.length ca, .int .i64 lv.length, .bool false, .slice A len cap, .slice (some ⟨ga, 0, none⟩) lv.length ca, .int .i64 lv.length, .func (.func 55) #[] #[.pointer (some ⟨w1.heap.size + 1 + 1, 0, none⟩), .pointer (some ⟨w1.heap.size + 1 + 1 + 1, 0, none⟩)], .slice (some ⟨b, off + x * lv.length, none⟩) (chLen len lv.length x) (chLen len lv.length x), undef, undef, undef, undef, undef, undef, undef, undef, undef, undef, undef, undef, undef, undef, undef, undef, undef, undef, undef, undef, undef, undef, undef], defers := [] }) ?assign ?body ?done ?stop
  case assign =>
    intro l x W K hK
    unfold chEnc
    gi_wp2
    exact hK
  case body =>
    rintro l pre x W ⟨hP, hK9⟩ hlt
    obtain ⟨cn, hcn⟩ : ∃ cn, chLen len lv.length x = cn := ⟨_, rfl⟩
    have hcn1 : cn ≤ lv.length := by unfold chLen at hcn; omega
    have hcn2 : cn ≠ 0 → x * lv.length + cn ≤ len := by unfold chLen at hcn; omega
    obtain ⟨q0, hq0⟩ : ∃ q0, x * lv.length = q0 := ⟨_, rfl⟩
    rw [hcn, hq0]
    rw [hq0] at hcn2
    have hnbW : w1.heap.size + 4 ≤ W.heap.size := by have := hK9.size; omega
    have c4 : W.cell? ⟨w.heap.size, 0, none⟩ = some (.int .i64 m) := (hK9.cell (by omega) (by omega)).trans C4.out
    have c8 : W.cell? ⟨w1.heap.size, 0, none⟩ = some (.slice (some ⟨ga, 0, none⟩) lv.length ca) := (hK9.cell (by omega) (by omega)).trans C8.out
    have c4a : (W.alloc (.cells #[.int .i64 (-1)] 3)).cell? ⟨w.heap.size, 0, none⟩ = some (.int .i64 m) := (World.cell?_alloc_lt _ _ _ (by show w.heap.size < W.heap.size; omega)).trans c4
    have C8W := Lib.hid c8
    clear c4 c8
    have HP := Lib.hid hP
    have HK := Lib.hid hK9
    have HQ := Lib.hid hq0
    have HC := Lib.hid hcn
    have hpre : pre.length ≤ 70000 := by
      have : chN len lv.length ≤ len + lv.length - 1 := Nat.div_le_self _ _
      omega
    clear hP hK9 hq0 hcn hlt
    gi_wp2_with (refine ⟨trivial, ?_⟩; gi_at_call 49; refine (CallsIn.inRound l (callsIn_wide.2 (Repeat_any (-1) m 1 W.heap.size _ hm1 (by omega) (by simp) (by rw [World.cell?_alloc_at _ _ _ _ rfl]; rfl)))).mono ?_; rintro e W1 ⟨G, rfl, hrow, hG, hb⟩; have HR := Lib.hid hrow; have HB := Lib.hid hb; clear hrow hb)
    have hbW1 : Below W.heap.size W W1 := ((Below.refl _ _).alloc (Nat.le_refl _) _).trans (HB.out.mono (by simp))
    have hGW : W.heap.size < G := by simp at hG; omega
    have HBW := Lib.hid hbW1
    clear hbW1 hG c4a
    gi_loopw [36] (fun i wr => ∃ p : Nat, p ≤ cn ∧ i = .int .i64 p ∧ wr.rowIs G 3 m (fun j => .int .i64 (fill lv (fun q => f (q0 + q)) p j)) ∧ Below W.heap.size W wr) (fun i _ => cn - (intOf i).toNat)
    case atStart => exact ⟨0, Nat.zero_le _, rfl, fill_zero HR.out, HBW.out⟩
    case round =>
      obtain ⟨p, hp, rfl, hrow, hbel⟩ := hrel
      by_cases hlt : p < cn
      · have hpi := CI.out (q0 + p) (by omega)
        have hit : wr.cell? ⟨b, off + q0 + p, none⟩ = some (.int .i64 (f (q0 + p))) := by
          rw [Nat.add_assoc]
          exact (hbel.cell (p := ⟨b, off + (q0 + p), none⟩) (by simp; omega)).trans ((HK.out.cell (by omega) (by omega)).trans hpi.2)
        have h8 : wr.cell? ⟨w1.heap.size, 0, none⟩ = some (.slice (some ⟨ga, 0, none⟩) lv.length ca) := (hbel.cell (p := ⟨w1.heap.size, 0, none⟩) (by simp; omega)).trans C8W.out
        obtain ⟨y, hy⟩ : ∃ y, lv.getD p 0 = y := ⟨_, rfl⟩
        have hym : y < m := by rw [← hy]; exact HM.out p (by omega)
        have hal : wr.cell? ⟨ga, p, none⟩ = some (.int .i64 (y : Nat)) := by
          rw [← hy]
          exact (hbel.cell (p := ⟨ga, p, none⟩) (by simp; omega)).trans ((HK.out.cell (by omega) (by omega)).trans (CA.out p (by omega)))
        have hcs := hrow.cell hym
        have hfs := hrow.frozen y
        have hpl : p < lv.length := by omega
        have HR1 := Lib.hid hrow
        have HB2 := Lib.hid hbel
        have HY := Lib.hid hy
        clear hrow hbel hy hpi
        gi_wp2
        go_roundw
        case rel => exact ⟨p + 1, by omega, by go_num, by have := fill_set HR1.out; rw [HY.out] at this; exact this, HB2.out.setCell (by simp; omega) _⟩
        case measure => simp [intOf]; omega
      · obtain rfl : p = cn := by omega
        have e1 : ∀ j, j < pre.length → (fun j => warpF lv len f (pre.getD j 0)) j = (fun j => warpF lv len f ((pre ++ [x]).getD j 0)) j := fun j hj => by
          show warpF lv len f (pre.getD j 0) = warpF lv len f ((pre ++ [x]).getD j 0)
          rw [List.getD_eq_getElem?_getD, List.getD_eq_getElem?_getD, List.getElem?_append_left hj]
        have e2 : (fun i => Value.int .i64 (fill lv (fun q => f (q0 + q)) p i)) = fun i => Value.int .i64 ((fun j => warpF lv len f ((pre ++ [x]).getD j 0)) pre.length i) := by
          funext i
          show _ = Value.int .i64 (warpF lv len f ((pre ++ [x]).getD pre.length 0) i)
          rw [List.getD_eq_getElem?_getD, List.getElem?_append_right (Nat.le_refl _)]
          simp only [Nat.sub_self, List.getElem?_cons_zero, Option.getD_some]
          unfold warpF
          rw [HQ.out, HC.out]
        rw [e2] at hrow
        obtain ⟨v, cells, hv, hrr, hcc⟩ := (HP.out.congr e1).on hbel
        have hclen : cells.length = pre.length := by have := hrr.1; omega
        have hv1 := hv.cell
        have hwr := hbel.size
        have HA5 := fun (v' : Value) (w5 : World) (tmp : Obj) h1 h2 => PI.appended (w1 := w5) (v' := v') (tmp := tmp) hbel (by omega) hv hrr hcc (by omega) hrow hclen h1 h2
        have HA6 := Lib.hid HA5
        have HRR := Lib.hid hrr
        clear hrow hbel hv hcc e1 e2 HA5 hrr
        gi_wp2_with (gi_at_builtin; refine wpListIn_append_own _ rfl _ _ 64 rfl (w1.heap.size + 4) 49 i0 (.slice none 0 0) 1 24 Try.underlying64 hi hz0 hz1 hz2 rfl (by decide) _ _ _ rfl (HRR.out.alloc _) ⟨wr.heap.size, 0, none⟩ 1 1 [.slice (some ⟨G, 0, none⟩) m m] rfl rfl (cell_one_new _ _ _) (by simp [Value.oneCell']) (by unfold maxLen; omega) (by omega) (by simp; omega) ?_; intro v' w5 hown' hgrow _; obtain ⟨g', cap', rfl⟩ := ownsRow_succ hown'; obtain ⟨hv5, hfin⟩ := HA6.out _ _ _ hown' hgrow; have hc5 := hv5.cell; have hf5 := hv5.frozen; have HF := Lib.hid hfin; clear hfin hown' hgrow hv5)
        obtain ⟨f1, f2, f3⟩ := HF.out
        refine ⟨by rw [hsz]; exact f1, KpC.of_blocks (f2.block _ (by omega) (by omega)) (f2.block _ (by omega) (by omega)), ?_, HK.out.trans f2⟩
        rw [List.length_append]; exact f3
  case done =>
    rintro D ys W hD rfl ⟨hP, hK9⟩ hK
    obtain ⟨A', c', hv, hRW⟩ := (hP.congr (wf' := warpF lv len f) (fun j hj => by
      show warpF lv len f ((List.range _).getD j 0) = _
      rw [List.getD_eq_getElem?_getD, List.getElem?_range (by simpa using hj)]; rfl)).reads
    rw [List.length_range] at hv hRW
    have hv1 := hv.cell
    have HRW := Lib.hid hRW
    have HK := Lib.hid hK9
    clear hRW hK9 hP hv
    gi_wp2
    refine ⟨by simp, .inl ⟨_, _, rfl, run_takeDeferred hK, ?_⟩⟩
    refine ⟨.tuple #[.slice A' (chN len lv.length) c', .int .i64 0], by simp [results, Try.results38, go_sem], A', c', rfl, ?_, ?_⟩
    · refine (HRW.out.less (by omega)).keep (by simp) (fun b o _ _ => ?_)
      by_cases hbD : b = D
      · subst hbD
        have : ∀ X : World, (∃ o', X.heap[b]? = some (.deferred o')) → X.cell? ⟨b, o, none⟩ = none := fun X ⟨o', h⟩ => by simp [World.cell?, h]
        rw [this _ ⟨_, hK⟩, this _ ⟨none, World.putObj_heap_same (Array.getElem?_eq_some_iff.1 hK).1⟩]
      · exact World.cell?_of_block (a := ⟨b, o, none⟩) (World.putObj_heap_other (by omega))
    · exact hbw.trans ((HK.out.below (by omega) (by omega)).trans (belowK_b (w := w) (Nat.le_refl _) W D _ _ (by omega) hK rfl rfl))
  case stop =>
    rintro D c pre W _ _ h _
    exact h.elim
end Go.Proofs.Ytjknmancnfeifaa
