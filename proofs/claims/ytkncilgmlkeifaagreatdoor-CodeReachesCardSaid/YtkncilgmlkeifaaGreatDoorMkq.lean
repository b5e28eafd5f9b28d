/-
  The reference: the maker: place.
-/
import Derived.Test.YtkncilgmlkeifaaGreatDoorMkp
import Derived.Test.YtkncilgmlkeifaaGreatDoorMki
import Derived.Deep.CutRange
import Derived.Deep.CutBlock
set_option linter.unusedVariables false
set_option linter.unusedSimpArgs false
namespace Go.Proofs.YtkncilgmlkeifaaGreatDoor
open Go.ChangeShapes Go.WideShapes Go.ChangeAt Go.RowKit Go.Shelf

/-- The maker's arrays. -/
def arM : List ArV := [(⟨#[97]⟩, 1, 1, 8), (⟨#[102]⟩, 1, 2, 4), (⟨#[115]⟩, 2, 1, 8), (⟨#[112]⟩, 3, 1, 4), (⟨#[98]⟩, 2, 3, 4)]
def lnM (m : Int) : Int := (arM.getD m.toNat (⟨#[]⟩, 0, 0, 0)).2.2.2
theorem lnM_rng {m : Int} (h : 0 ≤ m ∧ m ≤ 4) : 4 ≤ lnM m ∧ lnM m ≤ 8 := by
  have : m = 0 ∨ m = 1 ∨ m = 2 ∨ m = 3 ∨ m = 4 := by omega
  rcases this with rfl | rfl | rfl | rfl | rfl <;> decide
/-- Where the maker finds its arrays. -/
def AtA (rb gA cA : Nat) (W : World) : Prop := W.cell? ⟨rb, 7, none⟩ = some (.slice (some ⟨gA, 0, none⟩) 5 cA) ∧ ∀ m : Int, 0 ≤ m ∧ m ≤ 4 → W.cell? ⟨gA, m.toNat * 4 + 3, none⟩ = some (.int .i64 (lnM m))
section
variable {rb n0 K gA cA : Nat} {L0 : Value} {num : Nat → Int} {ls : List LoV} {init : List BlV} {last : Option BlV} {w0 W : World}
theorem MT.atA (h : MT rb n0 (L0, .slice (some ⟨gA, 0, none⟩) 5 cA) K num arM ls init last w0 W) : AtA rb gA cA W := by
  obtain ⟨n1, g, I, La, h1, _, _, h4, _⟩ := h
  have ha := h1.arr
  rw [h4.2] at ha
  refine ⟨by rw [h1.row.cell (by decide), h4.2], fun m hm => ?_⟩
  have : m = 0 ∨ m = 1 ∨ m = 2 ∨ m = 3 ∨ m = 4 := by omega
  rcases this with rfl | rfl | rfl | rfl | rfl <;> exact (ha.cellAt _ (by decide)).trans rfl
end
/-- An operand's box and its value. -/
def BxE (b : Nat) (x y z : Int) (W : World) : Prop := W.heap[b]? = some (.cells #[.int .i64 x, .int .i64 y, .int .i32 z] 27 (0, 0))
theorem BxE.on {b : Nat} {x y z : Int} {W W' : World} (h : BxE b x y z W) (k : KM W W') : BxE b x y z W' := (k.1 b _ 27 _ h (by decide)).trans h
theorem BxE.cells {b : Nat} {x y z : Int} {W : World} (h : BxE b x y z W) : W.cell? ⟨b, 0, none⟩ = some (.int .i64 x) ∧ W.cell? ⟨b, 1, none⟩ = some (.int .i64 y) ∧ W.cell? ⟨b, 2, none⟩ = some (.int .i32 z) :=
  ⟨cell_blk h (i := 0) rfl, cell_blk h (i := 1) rfl, cell_blk h (i := 2) rfl⟩
section
variable (rb n0 K : Nat) (num : Nat → Int) (ls : List LoV) (init : List BlV) (w0 W : World) (A : Option Addr) (n c : Nat) (f : Nat → Int) (gA cA : Nat)
set_option maxRecDepth 100000 in
set_option maxHeartbeats 8000000 in
/-- place. -/
theorem place_any (p : Bool) (is : List InstV) (t : TermV) (h : MT rb n0 (.slice A n c, .slice (some ⟨gA, 0, none⟩) 5 cA) K num arM ls init (some (is, t)) w0 W) (hn : n ≤ 9223372036854775807) (hK : K + 3 ≤ 1000000) (hB : RBy w0 A n f) (hq : init.length ≤ 1000000) (hi : is.length ≤ 1000000) :
    Calls Tryz.prog 141 #[.pointer (some ⟨rb, 0, none⟩), .bool p] W fun e w' => (∃ m x : Int, e = .returned (.tuple #[.int .i64 m, .agg #[.int .i64 2, .int .i64 x, .int .i32 0]]) ∧ (0 ≤ m ∧ m ≤ 4) ∧ (p = false → m ≠ 3) ∧ (0 ≤ x ∧ x ≤ 5) ∧ ∃ i, IOk 6 i ∧ MT rb n0 (.slice A n c, .slice (some ⟨gA, 0, none⟩) 5 cA) (K + 3) num arM ls init (some (is ++ [i], t)) w0 w') ∧ KM W w' := by
  have h0 : w0.heap.size ≤ W.heap.size := by obtain ⟨_, _, _, _, _, _, _, _, _, _, h7, _⟩ := h; exact h7.size
  have HA := Lib.hid (fun o => KM.of ((Below.refl W.heap.size W).alloc (Nat.le_refl _) o))
  have HB0 := Lib.hid (BxO.new W 0 0 0)
  have HN := Lib.hid (fun o => next_any rb n0 K num arM ls init (some (is, t)) w0 (W.alloc o) A n c f (.slice (some ⟨gA, 0, none⟩) 5 cA) (h.alloc o) hn (by omega) hB)
  have HR := Lib.hid (fun W h => reg_any rb n0 (K + 1) num arM ls init (some (is, t)) w0 W A n c f (.slice (some ⟨gA, 0, none⟩) 5 cA) h hn (by omega) hB)
  have HV := Lib.hid (fun W h => val_any rb n0 (K + 2) num arM ls init (some (is, t)) w0 W A n c f (.slice (some ⟨gA, 0, none⟩) 5 cA) h hn (by omega) hB)
  have HP := Lib.hid (fun W h op sub nn dk dn dv ak an av bk bn bv ck cn cv => put_any rb n0 (K + 3) (.slice A n c, .slice (some ⟨gA, 0, none⟩) 5 cA) num arM ls init w0 W is t op sub nn dk dn dv ak an av bk bn bv ck cn cv h hq hi)
  clear h hB hn hK hq hi
  go_enter Tryz.func141, Tryz.ntmps141
  go_upto_region 2 with (first
    | (go_at_call 65; (with_reducible refine (HN.out _).mono ?_); rintro e W1 ⟨⟨y, rfl, y0, y1⟩, h1, k1⟩; have H1 := Lib.hid h1; have HX1 := Lib.hid (HB0.out.on k1); have HK1 := Lib.hid ((HA.out _).trans k1); clear h1 k1))
  obtain ⟨z, hz⟩ : ∃ z : Int, y % 5 = z := ⟨_, rfl⟩
  have hz0 : 0 ≤ z ∧ z ≤ 4 := by omega
  rw [hz]
  clear hz y0 y1
  go_cut [16] (fun v wx => v = .bool (decide (z = 3) && !p) ∧ W1 = wx)
  case first =>
    by_cases h3 : z = 3
    · have e3 : (z == 3) = true := by simpa using h3
      cases p
      · go_wp2
        go_meet
        exact ⟨by simp [h3], rfl⟩
      · go_wp2
        go_meet
        exact ⟨by simp, rfl⟩
    · have e3 : (z == 3) = false := by simpa using h3
      go_wp2
      go_meet
      exact ⟨by simp [h3], rfl⟩
  case rest =>
  obtain ⟨rfl, rfl⟩ := hcut
  go_upto_if 16 with fail
  go_cut [6] from 16 (fun v wx => ∃ m : Int, v = .int .i64 m ∧ Hid (0 ≤ m ∧ m ≤ 4) ∧ Hid (p = false → m ≠ 3) ∧ W1 = wx)
  case first =>
    obtain ⟨q, hq⟩ : ∃ q, (decide (z = 3) && !p) = q := ⟨_, rfl⟩
    rw [hq]
    have HQ := Lib.hid hq
    clear hq
    cases q
    · go_wp2
      go_meet
      exact ⟨z, rfl, Lib.hid hz0, Lib.hid (fun hp h3 => by have := HQ.out; rw [hp, h3] at this; cases this), rfl⟩
    · go_wp2
      go_meet
      exact ⟨0, rfl, Lib.hid ⟨by decide, by decide⟩, Lib.hid (fun _ => by decide), rfl⟩
  case rest =>
  obtain ⟨m, rfl, HM, HM3, rfl⟩ := hcut
  clear hz0
  go_upto_region 5 with (first
    | (go_at_call 70; (with_reducible refine (HR.out _ H1.out).mono ?_); rintro e W2 ⟨⟨x, rfl, x0, x1⟩, h2, k2⟩; have H2 := Lib.hid h2; have HX2 := Lib.hid (HX1.out.on k2); have HK2 := Lib.hid (HK1.out.trans k2); clear h2 k2))
  have H3 := Lib.hid (H2.out.alloc (.cells #[.int .i64 2, .int .i64 x, .int .i32 0] 27))
  have hkx : BxE W2.heap.size 2 x 0 (W2.alloc (.cells #[.int .i64 2, .int .i64 x, .int .i32 0] 27)) := heap_alloc_new _ _
  have hk3 : KM W2 (W2.alloc (.cells #[.int .i64 2, .int .i64 x, .int .i32 0] 27)) := KM.of ((Below.refl _ _).alloc (Nat.le_refl _) _)
  have HX3 := Lib.hid (HX2.out.on hk3)
  have HK3 := Lib.hid (HK2.out.trans hk3)
  have hbd : W.heap.size ≤ W2.heap.size := HK2.out.2
  clear hk3 HX2 HK2 H2
  generalize (W2.alloc (.cells #[.int .i64 2, .int .i64 x, .int .i32 0] 27)) = W3 at *
  generalize W2.heap.size = bd at *
  obtain ⟨a7, aL⟩ := H3.out.atA
  obtain ⟨ln, hln⟩ : ∃ ln, lnM m = ln := ⟨_, rfl⟩
  have aM := aL m HM.out
  rw [hln] at aM
  have hlr := lnM_rng HM.out
  rw [hln] at hlr
  have hw1 : IntKind.i64.wrap (ln - 1) = ln - 1 := IntWalk.i64_in _ (by omega)
  have hw2 : IntKind.i32.wrap (ln - 1) = ln - 1 := IntWalk.i32_in _ (by omega)
  obtain ⟨hm0, hm4⟩ := HM.out
  have hm5 : m < 5 := by omega
  obtain ⟨d0, d1, d2⟩ := hkx.cells
  have HD3 := Lib.hid hkx
  have HLN := Lib.hid hln
  have HKD := Lib.hid (show KM W3 W3.drew from KM.of (below_drewN (Below.refl _ _) 1))
  have HI := Lib.hid (fun (o : OpdV) (ho : VOk o) => show IOk 6 ⟨3, 17, 0, ⟨2, x, 0⟩, o, ⟨1, 0, ln - 1⟩, ⟨0, 0, 0⟩⟩ from
    ⟨fun sl n3 => by simp [instB, instOK, instF, hasV, othV, zeroP, FormV.want, InstV.parts, noOpd, regB_of (by decide : (6 : Int) ≤ 6) ⟨x0, x1⟩, hasB_bin (s := 17) (by decide), valB_of (by decide : (6 : Int) ≤ 6) ho, valB_const], ⟨i64_of (x := 17) (by decide), z64, orng 2 (x := x) (v := 0) (by omega) (by decide), ho.rng, orng 1 (x := 0) (v := ln - 1) (by decide) (by omega), o0, z64, z64⟩⟩)
  clear aL hkx hln hm4 hlr
  go_cut [] (fun wx => ∃ i, Hid (IOk 6 i) ∧ Hid (MT rb n0 (.slice A n c, .slice (some ⟨gA, 0, none⟩) 5 cA) (K + 3) num arM ls init (some (is ++ [i], t)) w0 wx) ∧ Hid (BxE bd 2 x 0 wx) ∧ Hid (BxO W.heap.size wx) ∧ Hid (KM W wx))
  case first =>
    go_region_with (first
      | (go_at_call 71; (with_reducible refine (HV.out _ H3.out.drew).mono ?_); rintro e W4 ⟨⟨o, rfl, ho⟩, h4, k4⟩; obtain ⟨ok, on, ov⟩ := o; have k34 := HKD.out.trans k4; have HK4 := Lib.hid (HK3.out.trans k34); have HX4 := Lib.hid (HX3.out.on k34); have hd4 := HD3.out.on k34; obtain ⟨e0, e1, e2⟩ := hd4.cells; obtain ⟨b7, bL⟩ := h4.atA; have bM := bL m HM.out; rw [HLN.out] at bM; have HD4 := Lib.hid hd4; have H4 := Lib.hid h4; have HO := Lib.hid (HI.out _ ho); clear hd4 h4 k4 k34 bL ho)
      | (go_at_call 42; (with_reducible refine (Const_any _ _).mono ?_); rintro e W5 ⟨rfl, hb5⟩; have k45 := KM.of hb5; have HK5 := Lib.hid (HK4.out.trans k45); have HX5 := Lib.hid (HX4.out.on k45); have hd5 := HD4.out.on k45; obtain ⟨f0, f1, f2⟩ := hd5.cells; have HD5 := Lib.hid hd5; have H5 := Lib.hid (H4.out.on hb5); clear hd5 hb5 k45)
      | (go_at_call 107; (with_reducible refine (HP.out _ H5.out _ _ _ _ _ _ _ _ _ _ _ _ _ _ _).mono ?_); rintro e W6 ⟨⟨v, rfl⟩, h6, k6⟩; have HK6 := Lib.hid (HK5.out.trans k6); have HX6 := Lib.hid (HX5.out.on k6); have hd6 := HD5.out.on k6; have HD6 := Lib.hid hd6; have H6 := Lib.hid h6; clear hd6 h6 k6))
    all_goals
      go_wp2
      go_meet
      exact ⟨_, HO, H6, HD6, HX6, HK6⟩
  case rest =>
  obtain ⟨i, HO, H6, HD6, HX6, HK6⟩ := hcut
  clear HN HR HV HP HA HB0 H1 HX1 HK1 H3 HX3 HK3 HD3 HKD HI a7 aM d0 d1 d2 hw1 hw2
  obtain ⟨g0, g1, g2⟩ := HD6.out.cells
  obtain ⟨⟨_, c0⟩, ⟨_, c1⟩, ⟨_, c2⟩, cf⟩ := HX6.out.facts
  go_wp2
  go_region
  all_goals go_wp2
  exact bodyPost_ret (v := .tuple #[.int .i64 m, .agg #[.int .i64 2, .int .i64 x, .int .i32 0]]) (by simp [results, Tryz.results141, go_sem, c0, c1, c2]) rfl ⟨⟨m, x, rfl, HM.out, HM3.out, ⟨x0, x1⟩, i, HO.out, (H6.out.drew).box3 (HX6.out.on (KM.of (below_drewN (Below.refl _ _) 1))) h0 2 x 0⟩, (HK6.out.drewN 1).set3 _ _ _⟩
end
end Go.Proofs.YtkncilgmlkeifaaGreatDoor
