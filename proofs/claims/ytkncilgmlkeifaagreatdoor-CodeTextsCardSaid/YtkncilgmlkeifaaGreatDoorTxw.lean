/-
  CodeTexts: the law's walk.
-/
import Derived.Test.YtkncilgmlkeifaaGreatDoorExs
import Derived.Test.YtkncilgmlkeifaaGreatDoorRtc
set_option linter.unusedVariables false
set_option linter.unusedSimpArgs false
namespace Go.Proofs.YtkncilgmlkeifaaGreatDoor
open Go.ChangeShapes Go.WideShapes Go.ChangeAt Go.RowKit Go.Shelf

/-- What the law's walk asks of the code. -/
structure TxF (C : CdV) : Prop where
  chk : chkC C = 0
  fits : C.Fits
  rng : C.Rng
  rt : RtOk C
  size : (txtC C).length ≤ 65536
  small : C.q.length ≤ 10 ∧ C.l.length ≤ 10 ∧ C.b.length ≤ 18
  il : ∀ j, C.il j ≤ 27
theorem sumB_le {C : CdV} (h : ∀ j, C.il j ≤ 27) : ∀ k, sumB C k ≤ 29 * k
  | 0 => Nat.le_refl _
  | k + 1 => by
    have := sumB_le h k
    have := h k
    rw [sumB]
    omega
theorem count_snoc (t : List UInt8) (k : Nat) (hk : k < t.length) : (t.take (k + 1)).count 10 = (t.take k).count 10 + if t[k] = 10 then 1 else 0 := by
  rw [List.take_succ_eq_append_getElem hk, List.count_append, List.count_singleton]
  by_cases h : t[k] = 10 <;> simp [h]
set_option maxRecDepth 100000 in
set_option maxHeartbeats 3000000 in
theorem texts_of (A : Option Addr) (nx cx : Nat) (q : Bool) (w : World) (hE : EnvP w)
    (hM : ∀ W, Below w.heap.size w W → Calls Tryz.prog 12 #[.agg #[.slice A nx cx], .bool q] W fun e w' => ∃ (C : CdV) (a : CdA), e = .returned (.agg #[.int .i64 (C.n 0), .int .i64 (C.n 1), .int .i64 (C.n 2), .int .i64 (C.n 3), .int .i64 (C.n 4), .slice a.a1 C.q.length a.c1, .slice a.a2 C.l.length a.c2, .slice a.a3 C.b.length a.c3]) ∧ (TxF C ∧ CdK C a w') ∧ Below W.heap.size W w') :
    Calls Tryz.prog 4 #[.agg #[.slice A nx cx], .bool q] w fun e w' => e = .returned (.bool true) ∧ Below w.heap.size w w' := by
  have hB0 : Below w.heap.size w (w.alloc (.cells #[.slice A nx cx] 24)) := (Below.refl _ _).alloc (Nat.le_refl _) _
  have hX0 : (w.alloc (.cells #[.slice A nx cx] 24)).heap[w.heap.size]? = some (.cells #[.slice A nx cx] 24 (0, 0)) := heap_alloc_new w _
  have HX := Lib.hid (fun W (hW : Below w.heap.size w W) => examples_any W (hE.on hW))
  have HM := Lib.hid hM
  have HE := Lib.hid (fun W (hW : Below w.heap.size w W) => hE.on hW)
  have HB0 := Lib.hid hB0
  have HX0 := Lib.hid hX0
  clear hB0 hX0 hM hE
  go_enter Tryz.func4, Tryz.ntmps4
  go_upto_region 5 with (first
    | (go_at_call 11; (with_reducible refine (HX.out _ HB0.out).mono ?_); rintro e w1 ⟨rfl, hb1⟩; have cx0 := cell_blk ((hb1.block _ (Array.getElem?_eq_some_iff.1 HX0.out).1).trans HX0.out) (i := 0) rfl; have HB1 := Lib.hid (HB0.out.trans (hb1.mono HB0.out.size)); clear hb1)
    | (go_at_call 12; (with_reducible refine (HM.out _ HB1.out).mono ?_); rintro e w2 ⟨C, a, rfl, hmp, hb2⟩; have HT := Lib.hid hmp.1; have HK2 := Lib.hid hmp.2; have HB2 := Lib.hid (HB1.out.trans (hb2.mono HB1.out.size)); clear hmp hb2))
  have HK3 := Lib.hid (HK2.out.on ((Below.refl _ _).alloc (Nat.le_refl _) (.cells #[.int .i64 (C.n 0), .int .i64 (C.n 1), .int .i64 (C.n 2), .int .i64 (C.n 3), .int .i64 (C.n 4), .slice a.a1 C.q.length a.c1, .slice a.a2 C.l.length a.c2, .slice a.a3 C.b.length a.c3] 36)))
  have hb6 : (w2.alloc (.cells #[.int .i64 (C.n 0), .int .i64 (C.n 1), .int .i64 (C.n 2), .int .i64 (C.n 3), .int .i64 (C.n 4), .slice a.a1 C.q.length a.c1, .slice a.a2 C.l.length a.c2, .slice a.a3 C.b.length a.c3] 36)).heap[w2.heap.size]? = some (.cells #[.int .i64 (C.n 0), .int .i64 (C.n 1), .int .i64 (C.n 2), .int .i64 (C.n 3), .int .i64 (C.n 4), .slice a.a1 C.q.length a.c1, .slice a.a2 C.l.length a.c2, .slice a.a3 C.b.length a.c3] 36 (0, 0)) := heap_alloc_new _ _
  have HB3 := Lib.hid (HB2.out.alloc HB2.out.size (.cells #[.int .i64 (C.n 0), .int .i64 (C.n 1), .int .i64 (C.n 2), .int .i64 (C.n 3), .int .i64 (C.n 4), .slice a.a1 C.q.length a.c1, .slice a.a2 C.l.length a.c2, .slice a.a3 C.b.length a.c3] 36))
  have HB6 := Lib.hid hb6
  generalize (w2.alloc (.cells #[.int .i64 (C.n 0), .int .i64 (C.n 1), .int .i64 (C.n 2), .int .i64 (C.n 3), .int .i64 (C.n 4), .slice a.a1 C.q.length a.c1, .slice a.a2 C.l.length a.c2, .slice a.a3 C.b.length a.c3] 36)) = W3 at *
  generalize w2.heap.size = b6 at *
  obtain ⟨t, ht⟩ : ∃ t, txtC C = t := ⟨_, rfl⟩
  have hts : t.length ≤ 65536 := by rw [← ht]; exact HT.out.size
  have HTX := Lib.hid (fun (V : World) (hV : Below W3.heap.size W3 V) => show Calls Tryz.prog 15 #[.agg #[.int .i64 (C.n 0), .int .i64 (C.n 1), .int .i64 (C.n 2), .int .i64 (C.n 3), .int .i64 (C.n 4), .slice a.a1 C.q.length a.c1, .slice a.a2 C.l.length a.c2, .slice a.a3 C.b.length a.c3]] V fun e w' => e = .returned (.tuple #[.string ⟨t.toArray⟩, .int .i64 0]) ∧ Below V.heap.size V w' from by
    have H := Text_cok C a V (HK3.out.on hV).mem HT.out.fits HT.out.rng (HE.out V (HB3.out.trans (hV.mono HB3.out.size))).tab HT.out.chk
    rw [ht] at H
    exact H)
  have HPA := Lib.hid (fun (V : World) (hV : Below W3.heap.size W3 V) => show Calls Tryz.prog 32 #[.string ⟨t.toArray⟩] V fun e w' => ∃ d : CdA, e = .returned (.tuple #[.agg #[.int .i64 (C.n 0), .int .i64 (C.n 1), .int .i64 (C.n 2), .int .i64 (C.n 3), .int .i64 (C.n 4), .slice d.a1 C.q.length d.c1, .slice d.a2 C.l.length d.c2, .slice d.a3 C.b.length d.c3], .int .i64 0]) ∧ CdK (cutC C) d w' ∧ Below V.heap.size V w' from by
    have H := Parse_c (bA t) V (by show t.toArray.size ≤ 65536; simpa using hts) (HE.out V (HB3.out.trans (hV.mono HB3.out.size)))
    have P := parse_txt HT.out.rt HT.out.chk
    rw [ht] at P
    unfold ParsePost at H
    rw [P.1, P.2] at H
    exact H)
  have HSA := Lib.hid (fun (d : CdA) (V : World) (hV : Below W3.heap.size W3 V) (hd : CdK (cutC C) d V) => show Calls Tryz.prog 33 #[.agg #[.int .i64 (C.n 0), .int .i64 (C.n 1), .int .i64 (C.n 2), .int .i64 (C.n 3), .int .i64 (C.n 4), .slice a.a1 C.q.length a.c1, .slice a.a2 C.l.length a.c2, .slice a.a3 C.b.length a.c3], .agg #[.int .i64 (C.n 0), .int .i64 (C.n 1), .int .i64 (C.n 2), .int .i64 (C.n 3), .int .i64 (C.n 4), .slice d.a1 C.q.length d.c1, .slice d.a2 C.l.length d.c2, .slice d.a3 C.b.length d.c3]] V fun e w' => e = .returned (.bool true) ∧ Below V.heap.size V w' from by
    have H := Same_c C (cutC C) a d V (HK3.out.on hV).mem hd.mem HT.out.fits HT.out.fits
    rw [same_cut] at H
    exact H)
  have HCN := Lib.hid (txt_count HT.out.rt)
  have HLS := Lib.hid (txt_last C)
  rw [ht] at HCN HLS
  have HSU := Lib.hid (sumB_le HT.out.il)
  have HBL := Lib.hid (fun (V : World) (hV : Below W3.heap.size W3 V) => (HK3.out.on hV).mem.blocks)
  obtain ⟨hq10, hl10, hb18⟩ := HT.out.small
  obtain ⟨nq, hnq⟩ : ∃ nq, C.q.length = nq := ⟨_, rfl⟩
  obtain ⟨nl, hnl⟩ : ∃ nl, C.l.length = nl := ⟨_, rfl⟩
  obtain ⟨nb, hnb⟩ : ∃ nb, C.b.length = nb := ⟨_, rfl⟩
  rw [hnq, hnl, hnb] at HTX HPA HSA HB6 hb6 HCN ⊢
  rw [hnq] at hq10
  rw [hnl] at hl10
  rw [hnb] at hb18 HBL
  have kc0 := cell_blk hb6 (i := 0) rfl
  have kc1 := cell_blk hb6 (i := 1) rfl
  have kc2 := cell_blk hb6 (i := 2) rfl
  have kc3 := cell_blk hb6 (i := 3) rfl
  have kc4 := cell_blk hb6 (i := 4) rfl
  have kc5 := cell_blk hb6 (i := 5) rfl
  have kc6 := cell_blk hb6 (i := 6) rfl
  have kc7 := cell_blk hb6 (i := 7) rfl
  clear hb6 HK2 HB2 HM HX HB1 HX0 HB0 cx0 hnq hnl hnb ht
  go_upto_region 9 with (first
    | (go_at_call 15; (with_reducible refine (HTX.out _ (Below.refl _ _)).mono ?_); rintro e w4 ⟨rfl, hb4⟩; have HB4 := Lib.hid hb4; clear hb4)
    | (go_at_call 32; (with_reducible refine (HPA.out _ HB4.out).mono ?_); rintro e w5 ⟨d, rfl, hk5, hb5⟩; have HK5 := Lib.hid hk5; have HB5 := Lib.hid (HB4.out.trans (hb5.mono HB4.out.size)); clear hk5 hb5))
  have HD6 := Lib.hid (HK5.out.on ((Below.refl _ _).alloc (Nat.le_refl _) (.cells #[.int .i64 (C.n 0), .int .i64 (C.n 1), .int .i64 (C.n 2), .int .i64 (C.n 3), .int .i64 (C.n 4), .slice d.a1 nq d.c1, .slice d.a2 nl d.c2, .slice d.a3 nb d.c3] 36)))
  have hb9 : (w5.alloc (.cells #[.int .i64 (C.n 0), .int .i64 (C.n 1), .int .i64 (C.n 2), .int .i64 (C.n 3), .int .i64 (C.n 4), .slice d.a1 nq d.c1, .slice d.a2 nl d.c2, .slice d.a3 nb d.c3] 36)).heap[w5.heap.size]? = some (.cells #[.int .i64 (C.n 0), .int .i64 (C.n 1), .int .i64 (C.n 2), .int .i64 (C.n 3), .int .i64 (C.n 4), .slice d.a1 nq d.c1, .slice d.a2 nl d.c2, .slice d.a3 nb d.c3] 36 (0, 0)) := heap_alloc_new _ _
  have HB6x := Lib.hid (HB5.out.alloc HB5.out.size (.cells #[.int .i64 (C.n 0), .int .i64 (C.n 1), .int .i64 (C.n 2), .int .i64 (C.n 3), .int .i64 (C.n 4), .slice d.a1 nq d.c1, .slice d.a2 nl d.c2, .slice d.a3 nb d.c3] 36))
  generalize (w5.alloc (.cells #[.int .i64 (C.n 0), .int .i64 (C.n 1), .int .i64 (C.n 2), .int .i64 (C.n 3), .int .i64 (C.n 4), .slice d.a1 nq d.c1, .slice d.a2 nl d.c2, .slice d.a3 nb d.c3] 36)) = W6 at *
  generalize w5.heap.size = b9 at *
  have hb6 := (HB6x.out.block b6 (Array.getElem?_eq_some_iff.1 HB6.out).1).trans HB6.out
  obtain ⟨s, hs⟩ : ∃ s : ByteArray, (⟨t.toArray⟩ : ByteArray) = s := ⟨_, rfl⟩
  have hsz : s.size = t.length := by rw [← hs]; exact List.size_toArray
  have hsk : ∀ (k : Nat) (h : k < s.size) (h' : k < t.length), s[k] = t[k] := by
    intro k h h'
    subst hs
    rfl
  rw [hs]
  have HS := Lib.hid (And.intro hsz hsk)
  have hs6 : s.size ≤ 65536 := by omega
  clear hs hsz hsk hts kc0 kc1 kc2 kc3 kc4 kc5 kc6 kc7
  go_loopw [11, 12] (fun l i wr => ∃ k : Nat, k ≤ s.size ∧ i = .int .i64 k ∧ l = .int .i64 ((t.take k).count 10 : Nat) ∧ wr = W6) (fun _ i _ => s.size - (intOf i).toNat)
  case atStart => exact ⟨0, Nat.zero_le _, rfl, rfl, rfl⟩
  case round =>
    obtain ⟨k, hk, rfl, rfl, rfl⟩ := hrel
    by_cases hlt : k < s.size
    · have hki : (k : Int) < (s.size : Int) := by omega
      have hkt : k < t.length := by have := HS.out.1; omega
      have hcs := count_snoc t k hkt
      obtain ⟨m, hm⟩ : ∃ m, (t.take k).count 10 = m := ⟨_, rfl⟩
      have hm6 : m ≤ 65536 := by
        rw [← hm]
        have := List.count_le_length (a := 10) (l := t.take k)
        rw [List.length_take] at this
        omega
      rw [hm] at hcs ⊢
      by_cases hc : t[k] = 10
      · have e1 : ((s[k].toNat : Int) == 10) = true := by
          rw [HS.out.2 k hlt hkt, hc]
          rfl
        rw [if_pos hc] at hcs
        have HCS := Lib.hid hcs
        clear hcs hm hc
        go_wp2
        go_roundw
        case rel => exact ⟨k + 1, by omega, by go_num, by rw [HCS.out]; go_num, by first | exact trivial | rfl⟩
        case measure => simp [intOf]; omega
      · have hne : s[k].toNat ≠ 10 := by
          rw [HS.out.2 k hlt hkt]
          intro hh
          exact hc (UInt8.toNat_inj.1 hh)
        have e1 : ((s[k].toNat : Int) == 10) = false := by
          simp only [beq_eq_false_iff_ne, ne_eq]
          omega
        rw [if_neg hc, Nat.add_zero] at hcs
        have HCS := Lib.hid hcs
        clear hcs hm hc hne
        go_wp2
        go_roundw
        case rel => exact ⟨k + 1, by omega, by go_num, by rw [HCS.out]; rfl, by first | exact trivial | rfl⟩
        case measure => simp [intOf]; omega
    · obtain rfl : k = s.size := by omega
      have hct : (t.take s.size).count 10 = 1 + nq + nl + sumB C nb := by
        rw [HS.out.1, List.take_length]
        exact HCN.out
      rw [hct]
      have k0 := cell_blk hb6 (i := 0) rfl
      have k1 := cell_blk hb6 (i := 1) rfl
      have k2 := cell_blk hb6 (i := 2) rfl
      have k3 := cell_blk hb6 (i := 3) rfl
      have k4 := cell_blk hb6 (i := 4) rfl
      have k5 := cell_blk hb6 (i := 5) rfl
      have k6 := cell_blk hb6 (i := 6) rfl
      have k7 := cell_blk hb6 (i := 7) rfl
      go_upto_region 15 with (fail)
      go_loopw [13, 14] (fun l i wx => ∃ k : Nat, k ≤ nb ∧ i = .int .i64 k ∧ l = .int .i64 ((1 + nq + nl + sumB C k : Nat) : Int) ∧ wx = wr) (fun _ i _ => nb - (intOf i).toNat)
      case atStart => exact ⟨0, Nat.zero_le _, rfl, by go_num, rfl⟩
      case round =>
        obtain ⟨k, hk, rfl, rfl, rfl⟩ := hrel
        have hsu := HSU.out k
        by_cases hlt : k < nb
        · have hki : (k : Int) < (nb : Int) := by omega
          obtain ⟨b3, off3, hA3, hb3, hcells⟩ := HBL.out _ HB6x.out (by omega)
          have m0 := (hcells k hlt).1
          have hil := HT.out.il k
          have HSN := Lib.hid (show sumB C (k + 1) = sumB C k + (2 + C.il k) from rfl)
          rw [hA3] at k7
          obtain ⟨ni, hni⟩ : ∃ ni, C.il k = ni := ⟨_, rfl⟩
          obtain ⟨sk, hsk⟩ : ∃ sk, sumB C k = sk := ⟨_, rfl⟩
          rw [hni] at m0 hil HSN
          rw [hsk] at hsu HSN ⊢
          clear hcells hni hsk
          go_wp2
          go_roundw
          case rel => exact ⟨k + 1, by omega, by go_num, by rw [HSN.out]; go_num, by first | exact trivial | rfl⟩
          case measure => simp [intOf]; omega
        · obtain rfl : k = nb := by omega
          obtain ⟨xs, hxs⟩ := HLS.out
          obtain ⟨z, hz⟩ : ∃ z : Nat, s.size = z + 1 := ⟨xs.length, by rw [HS.out.1, hxs]; simp⟩
          have hzi : (z : Int) < (s.size : Int) := by omega
          have hze : ((s.size : Int) - 1) = (z : Int) := by omega
          have hzn : z < s.size := by omega
          have hs10 : s[z] = 10 := by
            rw [HS.out.2 z hzn (by have := HS.out.1; omega)]
            have hxl : xs.length = z := by
              have h1 := HS.out.1
              rw [hxs] at h1
              simp at h1
              omega
            subst hxs
            simp [← hxl]
          have e1 : ((s[z].toNat : Int) == 10) = true := by rw [hs10]; rfl
          have d0 := cell_blk hb9 (i := 0) rfl
          have d1 := cell_blk hb9 (i := 1) rfl
          have d2 := cell_blk hb9 (i := 2) rfl
          have d3 := cell_blk hb9 (i := 3) rfl
          have d4 := cell_blk hb9 (i := 4) rfl
          have d5 := cell_blk hb9 (i := 5) rfl
          have d6 := cell_blk hb9 (i := 6) rfl
          have d7 := cell_blk hb9 (i := 7) rfl
          have HZ := Lib.hid (And.intro hzn (And.intro hze e1))
          have hsa := HSA.out d _ HB6x.out HD6.out
          have HSA2 := Lib.hid hsa
          obtain ⟨sk, hsk⟩ : ∃ sk, sumB C k = sk := ⟨_, rfl⟩
          rw [hsk] at hsu ⊢
          clear hxs hz hs10 hsa hsk
          go_wp2_with (first
            | (go_at_call 33; (with_reducible refine HSA2.out.mono ?_); rintro e w7 ⟨rfl, hb7⟩; have HB7 := Lib.hid (HB6x.out.trans (hb7.mono HB6x.out.size)); clear hb7))
          go_ret
          exact ⟨rfl, HB3.out.trans (HB7.out.mono HB3.out.size)⟩
end Go.Proofs.YtkncilgmlkeifaaGreatDoor
