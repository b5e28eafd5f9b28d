/-
  The walk of LaunchMemory.
-/
import Derived.Test.YtjknmancnfeifaaMemL
import Derived.Test.YtjknmancnfeifaaExC
import Derived.Deep.RegionLaw
import Derived.Deep.DeepCutAuto
import Derived.Deep.CutRange
set_option linter.unusedVariables false
set_option linter.unusedSimpArgs false
namespace Go.Proofs.Ytjknmancnfeifaa
open Go.ChangeShapes Go.WideShapes Go.ChangeAt Go.RowKit
attribute [local go_sem ↓] Go.wp_at_zero Go.wp_at_succ

set_option maxRecDepth 100000 in
set_option maxHeartbeats 8000000 in
theorem memory_walk (a c d ka kb : Int) (nx cx nm cm : Nat) (AX AM : Option Addr) (x : Nat → Int) (LM : Nat → Nat) (w : World) (a0 : 0 ≤ a) (a1 : a ≤ 255) (c0 : 0 ≤ c) (c1 : c ≤ 255) (d0 : 0 ≤ d) (d1 : d ≤ 255) (ka0 : 0 ≤ ka) (ka1 : ka ≤ 255) (kb0 : 0 ≤ kb) (kb1 : kb ≤ 255) (hx0 : ∀ j, 0 ≤ x j ∧ x j ≤ 255)
    (hr : RF w w.heap.size .u8 AX nx x) (hm : RWl w w.heap.size AM nm LM) :
    Calls Try.prog 8 #[.agg #[.int .u8 a, .int .u8 c, .int .u8 d, .slice AX nx cx], .slice AM nm cm, .agg #[.int .u8 ka, .int .u8 kb]] w fun e w' => e = .returned (.bool true) ∧ Below w.heap.size w w' := by
  obtain ⟨j0, hj, hy0, hy1, hy2⟩ := info_parts info21
  obtain ⟨i0, hi, hz0, hz1, hz2⟩ := info_parts info25
  have hf34 := fun a b c d e f g h W => fld34_5 a b c d e f g h W
  have HX := Lib.hid hx0
  have HR := Lib.hid hr
  have HM := Lib.hid hm
  have HC := Lib.hid (fun (W : World) hW => Code_any a c d nx cx AX x W a0 a1 c0 c1 d0 d1 HX.out (HR.out.on (w' := W) hW))
  obtain ⟨n, hn⟩ : ∃ n, min nx 8 = n := ⟨_, rfl⟩
  have hn8 : n ≤ 8 := by omega
  rw [hn] at HC
  obtain ⟨sp, hsp⟩ : ∃ sp : Nat → Int, (fun j => 1 + x j % 3) = sp := ⟨_, rfl⟩
  obtain ⟨ln, hln⟩ : ∃ ln : Nat → Int, (fun j => x j / 16) = ln := ⟨_, rfl⟩
  have hl : ∀ j, 0 ≤ ln j ∧ ln j ≤ 15 := fun j => by
    have := hx0 j
    rw [← hln]
    show 0 ≤ x j / 16 ∧ x j / 16 ≤ 15
    omega
  rw [hsp, hln] at HC
  have HLL := Lib.hid hl
  clear hx0 hr hm hn hsp hln hl
  by_cases hm20 : 20 < nm
  · go_enter Try.func8, Try.ntmps8
    go_wp2_with (go_at_call 9; (with_reducible refine (examples_any _).mono ?_); rintro e w1 ⟨rfl, hb1⟩; have HB1 := Lib.hid ((((Below.refl w.heap.size w).alloc (Nat.le_refl _) _).alloc (by simp) _).trans (hb1.mono (by simp; omega))); clear hb1)
    go_ret
    exact ⟨rfl, HB1.out⟩
  · go_enter Try.func8, Try.ntmps8
    go_wp2_with (first
      | (go_at_call 9; (with_reducible refine (examples_any _).mono ?_); rintro e w1 ⟨rfl, hb1⟩; obtain ⟨hcel, _⟩ := bcell hb1; have HA1 := Lib.hid hb1; have HB1 := Lib.hid ((((Below.refl w.heap.size w).alloc (Nat.le_refl _) _).alloc (by simp) _).trans (hb1.mono (by simp; omega))); have hs1 : w.heap.size + 2 ≤ w1.heap.size := (by have := hb1.size; simp at this; omega); clear hb1)
      | (go_at_call 10; (with_reducible refine (HC.out _ HB1.out).mono ?_); rintro e w2 ⟨A2, c2, rfl, hRA, hb2⟩; have HB2 := Lib.hid hb2; have HRA := Lib.hid hRA; clear hb2 hRA))
    have h8 : At8 w2 (w.heap.size + 1) ka kb := by
      have b1 : At8 w1 (w.heap.size + 1) ka kb := (HA1.out.block _ (by simp)).trans (by have := heap_alloc_new (w.alloc (.cells #[.int .u8 a, .int .u8 c, .int .u8 d, .slice AX nx cx] 24)) (.cells #[.int .u8 ka, .int .u8 kb] 71); rw [World.size_alloc] at this; exact this)
      exact b1.on HB2.out
    have HW2 := Lib.hid (HB1.out.trans (HB2.out.mono HB1.out.size))
    have HM2 := Lib.hid (HM.out.on HW2.out)
    have H8 := Lib.hid h8
    obtain ⟨B5, hB5⟩ : ∃ B5, w.heap.size + 1 = B5 := ⟨_, rfl⟩
    rw [hB5] at H8 ⊢
    clear h8 hcel hs1 HA1 HB1 HB2 HC HR HX HM hB5 hf34
    go_loopw [9] (fun s wr => ∃ k : Nat, k ≤ 5 ∧ s = .int .i64 k ∧ Below w2.heap.size w2 wr) (fun s _ => 5 - (intOf s).toNat)
    case atStart => exact ⟨0, by omega, rfl, Below.refl _ _⟩
    case round =>
      obtain ⟨k, hk, rfl, hbel⟩ := hrel
      by_cases hk5 : k < 5
      · have hk4 : (k : Int) ≤ 4 := by omega
        have hzq := fun j => zlen_le (sp := sp) (space := (k : Int)) HLL.out j
        have hft := fit_zero (n := n) (sp := sp) (space := (k : Int)) HLL.out
        have hmo := fun i hi => fit_more (n := n) (k := i) (sp := sp) (space := (k : Int)) HLL.out hi
        have HZ := Lib.hid (fun (W : World) hW => Zero_any n c2 k A2 sp ln W hn8 HLL.out (HRA.out.on (w' := W) hW))
        have HRZ := Lib.hid (fun (W : World) hW => rZero_any n c2 k A2 sp ln W hn8 HLL.out (HRA.out.on (w' := W) hW))
        have HFA := Lib.hid (fun (W : World) (m c' : Nat) A' L hW hx => Fits_any n m c2 c' k A2 A' sp ln L W (by omega) (HRA.out.on (w' := W) hW) hx)
        have HRF := Lib.hid (fun (W : World) (m c' : Nat) A' L hW hx => rFits_any n m c2 c' k A2 A' sp ln L W (by omega) (HRA.out.on (w' := W) hW) hx)
        obtain ⟨zl, hzl⟩ : ∃ zl, zlen sp ln (k : Int) = zl := ⟨_, rfl⟩
        rw [hzl] at hzq hft hmo HZ HRZ
        obtain ⟨fm, hfm⟩ : ∃ fm, ((nm == n) && fitB n LM sp ln k) = fm := ⟨_, rfl⟩
        have HF1 := Lib.hid (fun (W : World) hW A' c' hx => by have := HFA.out W n c' A' zl hW (fun _ => hx); rw [hft, Bool.and_true] at this; simp only [beq_self_eq_true] at this; exact this)
        have HFM := Lib.hid (fun (W : World) hW => by have := HFA.out W nm cm AM LM hW (fun e => by have := HM2.out.on (w' := W) hW; exact e ▸ this); rw [hfm] at this; exact this)
        have HRM := Lib.hid (fun (W : World) hW => by have := HRF.out W nm cm AM LM hW (fun e => by have := HM2.out.on (w' := W) hW; exact e ▸ this); rw [hfm] at this; exact this)
        have HFO := Lib.hid (fun (W : World) (i : Nat) (hi : i < n) hW A' c' hx => by have := HFA.out W n c' A' (moreL zl i) hW (fun _ => hx); rw [hmo i hi, Bool.and_false] at this; exact this)
        have HFN := Lib.hid (fun (W : World) (m : Nat) (hm : ¬ m = n) hW A' c' => by have := HFA.out W m c' A' (fun _ => 0) hW (fun e => absurd e hm); rw [show (m == n) = false by simpa using hm, Bool.false_and] at this; exact this)
        have HSM := Lib.hid (fun (W : World) A A' c c' h1 h2 => Same_true n c c' A A' zl (fun _ _ => 0) (fun _ _ => 0) W (by omega) (fun j _ => by have := hzq j; omega) h1 h2 (fun _ _ _ _ => rfl))
        have HQ := Lib.hid hzq
        have HBL := Lib.hid hbel
        clear hzq hft hmo hzl hfm hbel
        by_cases hn0 : n = 0
        · have HCP := Lib.hid (fun (W : World) A c hz => Copy_any n c A zl W hn8 HQ.out hz)
          have hnn : ((n : Int) == 0) = true := by simpa using hn0
          have HN := Lib.hid hn0
          clear hn0
          go_wp2_with (first
          | (go_at_call 24; (with_reducible refine (HZ.out _ HBL.out).mono ?_); rintro e w3 ⟨b0, rfl, hz3, hb3⟩; have HZ3 := Lib.hid hz3; have HBL := Lib.hid (HBL.out.trans (hb3.mono HBL.out.size)); clear hz3 hb3)
          | (go_at_call 26; (with_reducible refine (HRZ.out _ HBL.out).mono ?_); rintro e w4 ⟨v4, rfl, hcj4, hb4⟩; obtain ⟨A4, c4, rfl, hrw4⟩ := hcj4.reads; have HZ3 := Lib.hid (HZ3.out.on hb4); have HRW4 := Lib.hid hrw4; have HBL := Lib.hid (HBL.out.trans (hb4.mono HBL.out.size)); clear hcj4 hrw4 hb4)
          | (go_at_call 25; (with_reducible refine (HSM.out _ _ _ _ _ HZ3.out.rw_ HRW4.out).mono ?_); rintro e w5 ⟨rfl, d5, rfl⟩; have HZ3 := Lib.hid (HZ3.out.on (below_drewN (Below.refl _ _) d5)); have HBL := Lib.hid (below_drewN HBL.out d5))
          | (go_at_call 27; (with_reducible refine (HF1.out _ HBL.out _ _ HZ3.out.rw_.lens).mono ?_); rintro e w6 ⟨rfl, hb6⟩; have HZ3 := Lib.hid (HZ3.out.on hb6); have HBL := Lib.hid (HBL.out.trans (hb6.mono HBL.out.size)); clear hb6)
          | (go_at_call 27; (with_reducible refine (HFM.out _ HBL.out).mono ?_); rintro e w7 ⟨rfl, hb7⟩; have HZ3 := Lib.hid (HZ3.out.on hb7); have HBL := Lib.hid (HBL.out.trans (hb7.mono HBL.out.size)); clear hb7)
          | (go_at_call 28; (with_reducible refine (HRM.out _ HBL.out).mono ?_); rintro e w8 ⟨rfl, hb8⟩; have HZ3 := Lib.hid (HZ3.out.on hb8); have HBL := Lib.hid (HBL.out.trans (hb8.mono HBL.out.size)); clear hb8)
          | (go_at_call 29; (with_reducible refine (HCP.out _ _ _ HZ3.out).mono ?_); rintro e w9 ⟨v9, rfl, hcj9, hb9⟩; obtain ⟨A9, c9, rfl, _⟩ := hcj9.reads; have HB29 := Lib.hid (HBL.out.trans (hb9.mono HBL.out.size)); clear hcj9 hb9))
          go_roundw
          case rel => exact ⟨k + 1, by omega, by go_num, HB29.out⟩
          case measure => simp [intOf]; omega
        · have HCP := Lib.hid (fun (W : World) A c hz => Copy_some n c A zl W (by omega) hn8 HQ.out hz)
          have hn1 : 0 < n := by omega
          go_upto_region 15 with (first
          | (go_at_call 24; (with_reducible refine (HZ.out _ HBL.out).mono ?_); rintro e w3 ⟨b0, rfl, hz3, hb3⟩; have HZ3 := Lib.hid hz3; have HBL := Lib.hid (HBL.out.trans (hb3.mono HBL.out.size)); clear hz3 hb3)
          | (go_at_call 26; (with_reducible refine (HRZ.out _ HBL.out).mono ?_); rintro e w4 ⟨v4, rfl, hcj4, hb4⟩; obtain ⟨A4, c4, rfl, hrw4⟩ := hcj4.reads; have HZ3 := Lib.hid (HZ3.out.on hb4); have HRW4 := Lib.hid hrw4; have HBL := Lib.hid (HBL.out.trans (hb4.mono HBL.out.size)); clear hcj4 hrw4 hb4)
          | (go_at_call 25; (with_reducible refine (HSM.out _ _ _ _ _ HZ3.out.rw_ HRW4.out).mono ?_); rintro e w5 ⟨rfl, d5, rfl⟩; have HZ3 := Lib.hid (HZ3.out.on (below_drewN (Below.refl _ _) d5)); have HBL := Lib.hid (below_drewN HBL.out d5))
          | (go_at_call 27; (with_reducible refine (HF1.out _ HBL.out _ _ HZ3.out.rw_.lens).mono ?_); rintro e w6 ⟨rfl, hb6⟩; have HZ3 := Lib.hid (HZ3.out.on hb6); have HBL := Lib.hid (HBL.out.trans (hb6.mono HBL.out.size)); clear hb6)
          | (go_at_call 27; (with_reducible refine (HFM.out _ HBL.out).mono ?_); rintro e w7 ⟨rfl, hb7⟩; have HZ3 := Lib.hid (HZ3.out.on hb7); have HBL := Lib.hid (HBL.out.trans (hb7.mono HBL.out.size)); clear hb7)
          | (go_at_call 28; (with_reducible refine (HRM.out _ HBL.out).mono ?_); rintro e w8 ⟨rfl, hb8⟩; have HZ3 := Lib.hid (HZ3.out.on hb8); have HBL := Lib.hid (HBL.out.trans (hb8.mono HBL.out.size)); clear hb8)
          | (go_at_call 29; (with_reducible refine (HCP.out _ _ _ HZ3.out).mono ?_); rintro e w9 ⟨g9, c9, rfl, hcj9, hb9⟩; have HPK : Hid (∃ (nb : Nat) (w0 : World), CJ nb zl n (.slice (some ⟨g9, 0, none⟩) n c9) w9 ∧ nb = w0.heap.size ∧ Below nb w0 w9 ∧ ZR w0 (some ⟨b0, 0, none⟩) n zl ∧ Below w2.heap.size w2 w0) := Lib.hid ⟨_, _, hcj9, rfl, hb9, HZ3.out, HBL.out⟩; clear hcj9 hb9))
          obtain ⟨nb, w0, ⟨cells, h1, h2⟩, hnb, hb9, hz0', hb20⟩ := HPK.out
          have hb29 : Below w2.heap.size w2 w9 := hb20.trans (hb9.mono (by rw [hnb]; exact hb20.size))
          have ha := H8.out.on hb29
          have e0 := ha.c0
          have e1 := ha.c1
          obtain ⟨i, hi⟩ : ∃ i : Nat, ka % (n : Int) = (i : Int) := ⟨(ka % (n : Int)).toNat, by have := Int.emod_nonneg ka (b := (n : Int)) (by omega); omega⟩
          have hin : i < n := by have := Int.emod_lt_of_pos ka (b := (n : Int)) (by omega); omega
          have ti : ka.tmod (n : Int) = (i : Int) := by rw [Int.tmod_eq_emod_of_nonneg ka0]; exact hi
          have wka : IntKind.i64.wrap ka = ka := IntWalk.i64_in _ (by omega)
          have wkb : wrap32 kb = kb := IntWalk.wrap32_in _ ⟨by omega, by omega⟩
          have nz : ¬ (n : Int) = 0 := by omega
          have wkb2 : IntKind.i32.wrap kb = kb := by rw [IntWalk.i32_left]; exact wkb
          obtain ⟨rv, er, hor⟩ := h2 i hin
          obtain ⟨q, hq⟩ : ∃ q, zl i = q := ⟨_, rfl⟩
          have hq15 := HQ.out i
          rw [hq] at hor hq15
          obtain ⟨R, cR, rfl⟩ : ∃ R cR, rv = .slice R q cR := by
            rcases hor.2 with ⟨rfl, h0⟩ | ⟨g', cap, cur, rfl, _⟩
            · exact ⟨_, _, by rw [h0]⟩
            · exact ⟨_, _, rfl⟩
          have hce := (h1.cellAt i (by omega)).trans er
          have hfe := h1.frozenAt i
          have hglt := (h1.lt g9 rfl).2
          have hglo := (h1.lt g9 rfl).1
          have hs90 := hb9.size
          have hbn := World.new_ne w9 ⟨g9, i, none⟩ hce
          have hbn2 := World.new_ne w9 ⟨B5, 1, none⟩ e1
          have H1 := Lib.hid h1
          have H2 := Lib.hid h2
          have HOR := Lib.hid hor
          have HER := Lib.hid er
          have HQI := Lib.hid hq
          have HB9 := Lib.hid hb9
          have HZ0 := Lib.hid hz0'
          have HB20 := Lib.hid hb20
          have HNB := Lib.hid hnb
          have hnbs : nb ≤ w9.heap.size := by omega
          clear h1 h2 hor er hq hb9 hz0' hb20 hb29 ha hi hnb HPK
          go_upto_region 16 with fail
          go_cut [10, 11] from 23 to 96 (fun z10 z11 wx => z10 = .slice (some ⟨b0, 0, none⟩) n n ∧ z11 = .slice (some ⟨g9, 0, none⟩) n c9 ∧ RWl wx wx.heap.size (some ⟨g9, 0, none⟩) n (moreL zl i) ∧ Below nb w0 wx)
          case first =>
            go_region_law ((refine step_append_lies _ (by rfl) _ _ _ (by rfl) nb 21 j0 _ 1 4 Try.underlying25 hj hy0 hy1 hy2 rfl (by omega) (.slice R q cR) q (zeros q) (by rfl) ((HOR.out.alloc _).drew) ⟨w9.heap.size, 0, none⟩ 1 1 [.int .i32 kb] (by rfl) (by rfl) (World.news_of_block (cs := #[.int .i32 kb]) (t := 21) (fr := (0, 0)) (heap_alloc_new w9 _)) (by simp [Value.oneCell']) (by omega) (by unfold maxLen; omega) (by omega) (by simp; omega) (w9.heap.size + 1) (by simp) ?_; intro gg cap w10 hown10 hgrow hat hltg; have h11 := more_own H1.out HOR.out hgrow; have hcc := (h11.cellAt i (by omega)).trans HER.out; have hff := h11.frozenAt i; have HG := Lib.hid hgrow; clear h11 hgrow hown10 hat))
            all_goals
              go_wp2
              go_meet
              exact ⟨rfl, rfl, more_lens H1.out H2.out hin HOR.out HQI.out HG.out, ((HB9.out.alloc hnbs _).drew.grown HG.out (by simp; omega) (fun j hj => (HOR.out.lt j hj).1)).setCell (by show nb ≤ g9; omega) _⟩
          case rest =>
            obtain ⟨rfl, rfl, hrl, hbw⟩ := hcut
            have HRL := Lib.hid hrl
            have hbw' : Below w0.heap.size w0 wc := by rw [← HNB.out]; exact hbw
            have HZ3 := Lib.hid (HZ0.out.on hbw')
            have HBL := Lib.hid (HB20.out.trans (hbw'.mono HB20.out.size))
            clear hrl hbw hbw' e0 e1 ti wka wkb wkb2 hce hfe hglt hglo hs90 hbn hbn2 hq15 hnbs
            obtain ⟨wd, hwd⟩ : ∃ wd, wc = wd := ⟨_, rfl⟩
            rw [hwd] at HRL HZ3 HBL ⊢
            clear hwd
            obtain ⟨S1, hS1⟩ := slice1 b0 n hn1 hn8
            have hnm : ¬ n - 1 = n := by omega
            have hnp : ¬ n + 1 = n := by omega
            have HNM := Lib.hid hnm
            have HNP := Lib.hid hnp
            clear hnm hnp
            go_wp2_with (first
                | (go_at_call 27; (with_reducible refine (HFO.out _ i hin HBL.out _ _ HRL.out).mono ?_); rintro e w11 ⟨rfl, hb11⟩; have HZ3 := Lib.hid (HZ3.out.on hb11); have HBL := Lib.hid (HBL.out.trans (hb11.mono HBL.out.size)); clear hb11)
                | (go_at_call 27; (with_reducible refine (HFN.out _ (n - 1) HNM.out HBL.out _ _).mono ?_); rintro e w12 ⟨rfl, hb12⟩; have HZ3 := Lib.hid (HZ3.out.on hb12); have HBL := Lib.hid (HBL.out.trans (hb12.mono HBL.out.size)); clear hb12)
                | (go_at_call 29; (with_reducible refine (HCP.out _ _ _ HZ3.out).mono ?_); rintro e w13 ⟨g13, c13, rfl, ⟨cells13, h13, _⟩, hb13⟩; obtain ⟨g14, c14, w14, hrun14, hb14⟩ := append_nil_row (w0 := w2) h13 hn8 hb13.size (HBL.out.trans (hb13.mono HBL.out.size)) HBL.out.size; have HBL := Lib.hid hb14; clear h13 hb13 hb14)
                | (at_builtin; refine wpList_append_g ?_ _ _ _ rfl hrun14 ?_; (focus kernel_rfl))
                | (go_at_call 27; (with_reducible refine (HFN.out _ (n + 1) HNP.out HBL.out _ _).mono ?_); rintro e w15 ⟨rfl, hb15⟩; have HBL := Lib.hid (HBL.out.trans (hb15.mono HBL.out.size)); clear hb15))
            go_roundw
            case rel => exact ⟨k + 1, by omega, by go_num, HBL.out⟩
            case measure => simp [intOf]; omega
      · obtain rfl : k = 5 := by omega
        have HB := Lib.hid hbel
        clear hbel
        go_wp2
        go_ret
        exact ⟨rfl, HW2.out.trans (HB.out.mono HW2.out.size)⟩
end Go.Proofs.Ytjknmancnfeifaa
