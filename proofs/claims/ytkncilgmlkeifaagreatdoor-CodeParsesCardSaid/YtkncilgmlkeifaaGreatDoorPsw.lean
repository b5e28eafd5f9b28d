import Derived.Test.YtkncilgmlkeifaaGreatDoorCdm
import Derived.Test.YtkncilgmlkeifaaGreatDoorTkp
import Derived.Deep.DeepCutAuto
import Derived.Deep.CutRange
/-
  CodeParses: the law's walk, over what its calls answer.
-/
set_option linter.unusedVariables false
set_option linter.unusedSimpArgs false
namespace Go.Proofs.YtkncilgmlkeifaaGreatDoor
open Go.ChangeShapes Go.WideShapes Go.ChangeAt Go.RowKit Go.Shelf
theorem below_d {B : Nat} {w w' : World} (h : Below B w w') : Below B w w'.drew := ⟨h.os, h.tape, h.output, h.size, h.block⟩
theorem FSl.on {w w' : World} {v : Value} {fs : List ByteArray} (h : FSl w v fs) (hb : Below w.heap.size w w') : FSl w' v fs := h.of_blocks fun k C fr hk => (hb.block k (Array.getElem?_eq_some_iff.1 hk).1).trans hk
structure PsH (w : World) (T : CdV -> ByteArray) (G : CdV -> Prop) (pC : ByteArray -> CdV) (pE : ByteArray -> Int) (C0 : CdV) (A : Option Addr) (nx cx : Nat) (kd a0 a1 bz : Int) : Prop where
 g0 : G C0
 ex : ∀ V, Below w.heap.size w V -> Calls Tryz.prog 11 #[] V fun e w' => e = .returned (.bool true) /\ Below V.heap.size V w'
 md : ∀ V, Below w.heap.size w V -> Calls Tryz.prog 34 #[.agg #[.slice A nx cx]] V fun e w' => ∃ (C : CdV) (a : CdA), e = .returned (.agg #[(C.n 0), (C.n 1), (C.n 2), (C.n 3), (C.n 4), .slice a.a1 C.q.length a.c1, .slice a.a2 C.l.length a.c2, .slice a.a3 C.b.length a.c3]) /\ (G C /\ CdK C a w') /\ Below V.heap.size V w'
 e0 : ∀ V, Calls Tryz.prog 36 #[] V fun e w' => ∃ a : CdA, e = .returned (.agg #[(C0.n 0), (C0.n 1), (C0.n 2), (C0.n 3), (C0.n 4), .slice a.a1 C0.q.length a.c1, .slice a.a2 C0.l.length a.c2, .slice a.a3 C0.b.length a.c3]) /\ CdK C0 a w' /\ Below V.heap.size V w'
 ti : ∀ C a V, G C -> CdK C a V -> Calls Tryz.prog 16 #[.agg #[(C.n 0), (C.n 1), (C.n 2), (C.n 3), (C.n 4), .slice a.a1 C.q.length a.c1, .slice a.a2 C.l.length a.c2, .slice a.a3 C.b.length a.c3]] V fun e w' => (∃ z : Int, e = .returned (.agg #[.string (T C), z])) /\ Below V.heap.size V w'
 sz : ∀ C, G C -> (T C).size <= 30000
 ed : ∀ (s : ByteArray) V, s.size <= 30000 -> Calls Tryz.prog 35 #[.string s, .agg #[.int .u8 kd, .int .u16 a0, .int .u16 a1, .int .u8 bz]] V fun e w' => (∃ X : ByteArray, e = .returned (.string X) /\ X.size <= 65535) /\ Below V.heap.size V w'
 pa : ∀ (s : ByteArray) V, s.size <= 65535 -> Below w.heap.size w V -> Calls Tryz.prog 32 #[.string s] V fun e w' => ∃ d : CdA, e = .returned (.tuple #[.agg #[((pC s).n 0), ((pC s).n 1), ((pC s).n 2), ((pC s).n 3), ((pC s).n 4), .slice d.a1 (pC s).q.length d.c1, .slice d.a2 (pC s).l.length d.c2, .slice d.a3 (pC s).b.length d.c3], (pE s)]) /\ CdK (pC s) d w' /\ Below V.heap.size V w'
 pi : ∀ (s : ByteArray) V, s.size <= 65535 -> Calls Tryz.prog 37 #[.string s] V fun e w' => ∃ d : CdA, e = .returned (.agg #[((pC s).n 0), ((pC s).n 1), ((pC s).n 2), ((pC s).n 3), ((pC s).n 4), .slice d.a1 (pC s).q.length d.c1, .slice d.a2 (pC s).l.length d.c2, .slice d.a3 (pC s).b.length d.c3, (pE s)]) /\ CdK (pC s) d w' /\ Below V.heap.size V w'
 s1 : ∀ (s : ByteArray) (d d' : CdA) V, s.size <= 65535 -> CdK (pC s) d V -> CdK (pC s) d' V -> Calls Tryz.prog 33 #[.agg #[((pC s).n 0), ((pC s).n 1), ((pC s).n 2), ((pC s).n 3), ((pC s).n 4), .slice d.a1 (pC s).q.length d.c1, .slice d.a2 (pC s).l.length d.c2, .slice d.a3 (pC s).b.length d.c3], .agg #[((pC s).n 0), ((pC s).n 1), ((pC s).n 2), ((pC s).n 3), ((pC s).n 4), .slice d'.a1 (pC s).q.length d'.c1, .slice d'.a2 (pC s).l.length d'.c2, .slice d'.a3 (pC s).b.length d'.c3]] V fun e w' => e = .returned (.bool true) /\ Below V.heap.size V w'
 s2 : ∀ (C : CdV) (s : ByteArray) (a d : CdA) V, G C -> s.size <= 65535 -> pE s = 0 -> CdK C a V -> CdK (pC s) d V -> Calls Tryz.prog 33 #[.agg #[(C.n 0), (C.n 1), (C.n 2), (C.n 3), (C.n 4), .slice a.a1 C.q.length a.c1, .slice a.a2 C.l.length a.c2, .slice a.a3 C.b.length a.c3], .agg #[((pC s).n 0), ((pC s).n 1), ((pC s).n 2), ((pC s).n 3), ((pC s).n 4), .slice d.a1 (pC s).q.length d.c1, .slice d.a2 (pC s).l.length d.c2, .slice d.a3 (pC s).b.length d.c3]] V fun e w' => e = .returned (.bool (s.toList == (T C).toList)) /\ Below V.heap.size V w'
 tx : ∀ (s : ByteArray) (d : CdA) V, s.size <= 65535 -> Below w.heap.size w V -> pE s = 0 -> CdK (pC s) d V -> Calls Tryz.prog 15 #[.agg #[((pC s).n 0), ((pC s).n 1), ((pC s).n 2), ((pC s).n 3), ((pC s).n 4), .slice d.a1 (pC s).q.length d.c1, .slice d.a2 (pC s).l.length d.c2, .slice d.a3 (pC s).b.length d.c3]] V fun e w' => e = .returned (.tuple #[.string s, (0:Int)]) /\ Below V.heap.size V w'
 pe : ∀ s, pE s = 0 \/ pE s = 3
set_option maxRecDepth 100000 in
set_option maxHeartbeats 8000000 in
theorem parses_of (T : CdV -> ByteArray) (G : CdV -> Prop) (pC : ByteArray -> CdV) (pE : ByteArray -> Int) (C0 : CdV) (A : Option Addr) (nx cx : Nat) (kd a0 a1 bz : Int) (s : ByteArray) (w : World) (hs : s.size <= 9223372036854775807)
 (h : PsH w T G pC pE C0 A nx cx kd a0 a1 bz) :
 Calls Tryz.prog 5 #[.agg #[.slice A nx cx], .agg #[.int .u8 kd, .int .u16 a0, .int .u16 a1, .int .u8 bz], .string s] w fun e w' => e = .returned (.bool true) /\ Below w.heap.size w w' := by
 have H := lh h
 have HBX := lh (show ∀ V, Below (w.heap.size + 2) ((w.alloc (.cells #[.slice A nx cx] 24)).alloc (.cells #[.int .u8 kd, .int .u16 a0, .int .u16 a1, .int .u8 bz] 71)) V -> V.cell? ⟨w.heap.size, 0, none⟩ = some (.slice A nx cx) /\ ∀ o, V.cell? ⟨w.heap.size + 1, o, none⟩ = (#[.int .u8 kd, .int .u16 a0, .int .u16 a1, .int .u8 bz] : Array Value)[o]? from fun V hV => by
  have e0 : ((w.alloc (.cells #[.slice A nx cx] 24)).alloc (.cells #[.int .u8 kd, .int .u16 a0, .int .u16 a1, .int .u8 bz] 71)).heap[w.heap.size]? = some (.cells #[.slice A nx cx] 24 (0, 0)) := (Below.heap_alloc _ _ _ (by simp)).trans (heap_alloc_new w _)
  have e1 := heap_alloc_new (w.alloc (.cells #[.slice A nx cx] 24)) (.cells #[.int .u8 kd, .int .u16 a0, .int .u16 a1, .int .u8 bz] 71)
  rw [World.size_alloc] at e1
  have f0 := (hV.block _ (show w.heap.size < w.heap.size + 2 by omega)).trans e0
  have f1 := (hV.block _ (show w.heap.size + 1 < w.heap.size + 2 by omega)).trans e1
  exact ⟨cell_blk f0 (i := 0) rfl, fun o => by simp [World.cell?, f1]⟩)
 have hb0 : Below w.heap.size w ((w.alloc (.cells #[.slice A nx cx] 24)).alloc (.cells #[.int .u8 kd, .int .u16 a0, .int .u16 a1, .int .u8 bz] 71)) := (bo _).alloc (by simp) _
 have hf : ∀ (t : ByteArray) (z : Int) (W : World), (Instr.field 45 (.agg #[.string t, z]) 0).run Tryz.prog W = .ok (.string t) W := fun _ _ _ => by kernel_rfl
 clear h
 go_enter Tryz.func5, Tryz.ntmps5
 go_upto_region 1 with fail
 obtain ⟨W0, hW0⟩ : ∃ W0, (w.alloc (.cells #[.slice A nx cx] 24)).alloc (.cells #[.int .u8 kd, .int .u16 a0, .int .u16 a1, .int .u8 bz] 71) = W0 := ⟨_, rfl⟩
 have hsz : w.heap.size + 2 <= W0.heap.size := by rw [<- hW0]; simp
 rw [hW0] at HBX hb0 ⊢
 have HB0 := lh hb0
 have HC := lh (fun V (hV : Below W0.heap.size W0 V) => HBX.out V (hV.mono hsz))
 clear hW0 hb0 HBX
 go_upto_region 4 with (go_at_call 11; (with_reducible refine (H.out.ex _ HB0.out).mono ?_); rintro e w1 ⟨rfl, hb1⟩; have HB1 := lh hb1; clear hb1)
 have hc1 := (HC.out w1 HB1.out).1
 go_upto_region 5 with (go_at_call 34; (with_reducible refine (H.out.md _ (HB0.out.trans (HB1.out.mono HB0.out.size))).mono ?_); rintro e w2 ⟨C, a, rfl, ⟨hg, hk2⟩, hb2⟩; have HG := lh hg; have HK2 := lh hk2; have HB2 := lh (HB1.out.trans (hb2.mono HB1.out.size)); clear hb2 hg hk2)
 clear hc1
 have HK3 := lh (HK2.out.on (bo (.cells #[(C.n 0), (C.n 1), (C.n 2), (C.n 3), (C.n 4), .slice a.a1 C.q.length a.c1, .slice a.a2 C.l.length a.c2, .slice a.a3 C.b.length a.c3] 36)))
 have hb8 := heap_alloc_new w2 (.cells #[(C.n 0), (C.n 1), (C.n 2), (C.n 3), (C.n 4), .slice a.a1 C.q.length a.c1, .slice a.a2 C.l.length a.c2, .slice a.a3 C.b.length a.c3] 36)
 have HB3 := lh (HB2.out.alloc HB2.out.size (.cells #[(C.n 0), (C.n 1), (C.n 2), (C.n 3), (C.n 4), .slice a.a1 C.q.length a.c1, .slice a.a2 C.l.length a.c2, .slice a.a3 C.b.length a.c3] 36))
 generalize (w2.alloc (.cells #[(C.n 0), (C.n 1), (C.n 2), (C.n 3), (C.n 4), .slice a.a1 C.q.length a.c1, .slice a.a2 C.l.length a.c2, .slice a.a3 C.b.length a.c3] 36)) = W3 at *
 generalize w2.heap.size = b8 at *
 have H8 := lh (fun V (hV : Below W3.heap.size W3 V) => show ∀ o, V.cell? ⟨b8, o, none⟩ = (#[(C.n 0), (C.n 1), (C.n 2), (C.n 3), (C.n 4), .slice a.a1 C.q.length a.c1, .slice a.a2 C.l.length a.c2, .slice a.a3 C.b.length a.c3] : Array Value)[o]? from fun o => by
  have f := (hV.block _ (Array.getElem?_eq_some_iff.1 hb8).1).trans hb8
  simp [World.cell?, f])
 have kc := H8.out _ (Below.refl _ _)
 clear hb8 HK2 HB2
 obtain ⟨t, ht⟩ : ∃ t, T C = t := ⟨_, rfl⟩
 have HTI := lh (fun V (hV : Below W3.heap.size W3 V) => H.out.ti C a V HG.out (HK3.out.on hV))
 have HSZ := lh (H.out.sz C HG.out)
 have HS2 := lh (fun (x : ByteArray) (d : CdA) V (hx : x.size <= 65535) (hz : pE x = 0) (hV : Below W3.heap.size W3 V) (hd : CdK (pC x) d V) => H.out.s2 C x a d V HG.out hx hz (HK3.out.on hV) hd)
 rw [ht] at HTI HSZ HS2
 go_upto_region 6 with (go_at_call 16; (with_reducible refine (HTI.out _ (Below.refl _ _)).mono ?_); rintro e w4 ⟨⟨z, rfl⟩, hb4⟩; have HB4 := lh hb4; clear hb4)
 have HC4 := lh (fun V (hV : Below W3.heap.size W3 V) => HC.out V (HB3.out.trans (hV.mono HB3.out.size)))
 have kd4 := (HC4.out w4 HB4.out).2
 clear kc
 go_upto_region 7 with (go_at_call 35; (with_reducible refine (H.out.ed _ _ HSZ.out).mono ?_); rintro e w5 ⟨⟨X, rfl, hX⟩, hb5⟩; have HX := lh hX; have HB5 := lh (HB4.out.trans (hb5.mono HB4.out.size)); clear hb5 hX)
 clear kd4
 have hrow := heap_alloc_new w5 (.cells #[.string t, .string X] 9)
 have HB6 := lh (HB5.out.alloc HB5.out.size (.cells #[.string t, .string X] 9))
 have hb6 : w.heap.size <= w5.heap.size := Nat.le_trans (Nat.le_trans HB0.out.size (Nat.le_trans HB3.out.size HB5.out.size)) (Nat.le_refl _)
 have hl6 : W3.heap.size <= w5.heap.size := HB5.out.size
 go_upto_if 32 with fail
 generalize (w5.alloc (.cells #[.string t, .string X] 9)) = W6 at *
 generalize w5.heap.size = b6 at *
 have HR := lh hrow
 have HL6 := lh hl6
 clear hrow hl6
 go_cut [10] (fun z10 wx => ∃ (L : List ByteArray) (v : Value) (W : World), z10 = v /\ W = wx /\ Hid (FSl W v L /\ (2 <= L.length /\ L.length <= 5) /\ (∀ k, k < L.length -> (L.getD k ⟨#[]⟩).size <= 65535) /\ Below W3.heap.size W3 W))
 case first =>
  by_cases hsl : (s.size : Int) <= 300
  rotate_left
  . go_wp2
    go_meet
    refine ⟨[t, X], _, _, rfl, rfl, lh ⟨⟨_, _, rfl, Nat.le_refl _, fun _ => ⟨b6, 0, _, _, rfl, HR.out, fun j hj => ?_⟩⟩, ⟨by simp, by simp⟩, fun k hk => ?_, HB6.out⟩⟩
    . match j, hj with
      | 0, _ => rfl
      | 1, _ => rfl
    . match k, hk with
      | 0, _ => exact Nat.le_trans HSZ.out (by decide)
      | 1, _ => exact HX.out
  have hs3 : s.size <= 300 := by omega
  have hc8 : ¬ 9223372036854775807 < 21 + s.size := by omega
  have hc9 : ¬ 9223372036854775807 < 21 + s.size + 6 := by omega
  have HR0 := lh (HB6.out.trans (show Below W3.heap.size W6 W6.drew from ⟨rfl, rfl, rfl, Nat.le_refl _, fun _ _ => rfl⟩))
  have KD := lh (fun V (hV : Below W3.heap.size W3 V) => (HC4.out V hV).2)
  have hrd : W6.drew.heap[b6]? = some (.cells #[.string t, .string X] 9 (0, 0)) := HR.out
  have HRD := lh hrd
  clear hrd
  obtain ⟨i0, hi0, hz0, hz1, hz2⟩ := info_parts infoStr
  go_upto_region 8 with fail
  refine wp_region_held_drew (S := (fun w' => ∀ o, w'.cell? ⟨w.heap.size + 1, o, none⟩ = (#[.int .u8 kd, .int .u16 a0, .int .u16 a1, .int .u8 bz] : Array Value)[o]?)) (by kernel_rfl) ?_ (fun hHeld => ?_)
  . (try dsimp only); exact KD.out _ HR0.out
  refine tk 0 ?_
  refine tk 1 ?_
  refine tk 5 ?_
  refine tk 7 ?_
  refine tk 8 ?_
  refine tk 9 ?_
  refine an 2 (fun K hK => ?_)
  go_simp
  (go_at_call 36; (with_reducible refine (H.out.e0 _).mono ?_); rintro e w7 ⟨ca, rfl, hk7, hb7⟩; have HK7 := lh hk7; have HR1 := lh (HR0.out.trans (hb7.mono HR0.out.size)); have HRW1 := lh ((hb7.block b6 (Array.getElem?_eq_some_iff.1 HRD.out).1).trans HRD.out); clear hb7 hk7)
  try go_wp2_with fail
  refine hK.out _ _ ?_ (fun hHeld => ?_)
  . (try dsimp only); (first | exact KD.out _ HR0.out | exact KD.out _ HR1.out | exact KD.out _ HR2.out | exact KD.out _ HR3.out | exact KD.out _ (HR3.out.alloc HR3.out.size _) | exact KD.out _ HR5.out)
  clear hK K
  try simp only [pe]
  refine an 3 (fun K hK => ?_)
  go_simp
  (go_at_call 16; (with_reducible refine (H.out.ti C0 ca _ H.out.g0 HK7.out).mono ?_); rintro e w8 ⟨⟨z8, rfl⟩, hb8⟩; have HR2 := lh (HR1.out.trans (hb8.mono HR1.out.size)); have HRW2 := lh ((hb8.block b6 (Array.getElem?_eq_some_iff.1 HRW1.out).1).trans HRW1.out); clear hb8)
  try go_wp2_with fail
  refine hK.out _ _ ?_ (fun hHeld => ?_)
  . (try dsimp only); (first | exact KD.out _ HR0.out | exact KD.out _ HR1.out | exact KD.out _ HR2.out | exact KD.out _ HR3.out | exact KD.out _ (HR3.out.alloc HR3.out.size _) | exact KD.out _ HR5.out)
  clear hK K
  try simp only [pe]
  refine tk 4 ?_
  refine an 6 (fun K hK => ?_)
  go_simp
  (go_at_call 35; (with_reducible refine (H.out.ed _ _ (H.out.sz C0 H.out.g0)).mono ?_); rintro e w9 ⟨⟨Y, rfl, hY⟩, hb9⟩; have HY := lh hY; have HR3 := lh (HR2.out.trans (hb9.mono HR2.out.size)); have HRW3 := lh ((hb9.block b6 (Array.getElem?_eq_some_iff.1 HRW2.out).1).trans HRW2.out); clear hb9 hY)
  try go_wp2_with fail
  refine hK.out _ _ ?_ (fun hHeld => ?_)
  . (try dsimp only); (first | exact KD.out _ HR0.out | exact KD.out _ HR1.out | exact KD.out _ HR2.out | exact KD.out _ HR3.out | exact KD.out _ (HR3.out.alloc HR3.out.size _) | exact KD.out _ HR5.out)
  clear hK K
  try simp only [pe]
  obtain ⟨U, hU⟩ : ∃ U : ByteArray, U = (⟨#[99, 111, 100, 101, 32, 49, 32, 49, 32, 50, 32, 49, 32, 49, 10, 98, 108, 111, 99, 107, 10]⟩ : ByteArray) ++ s ++ (⟨#[10, 101, 120, 105, 116, 10]⟩ : ByteArray) := ⟨_, rfl⟩
  have hUs : U.size <= 65535 := by
   rw [hU]
   simp only [ByteArray.size_append]
   have e1 : (⟨#[99, 111, 100, 101, 32, 49, 32, 49, 32, 50, 32, 49, 32, 49, 10, 98, 108, 111, 99, 107, 10]⟩ : ByteArray).size = 21 := rfl
   have e2 : (⟨#[10, 101, 120, 105, 116, 10]⟩ : ByteArray).size = 6 := rfl
   omega
  rw [<- hU]
  clear hU
  refine an 10 (fun K hK => ?_)
  go_simp
  refine hK.out _ _ ?_ (fun hHeld => ?_)
  . (try dsimp only); exact KD.out _ (HR3.out.alloc HR3.out.size _)
  clear hK K
  try simp only [pe]
  refine an 11 (fun K hK => ?_)
  have hown0 : (w9.alloc (.cells #[.string s, .string Y, .string U] 9)).ownsRow W3.heap.size 9 1 (.slice (some ⟨b6, 0, none⟩) 2 2) 2 [.string t, .string X] := ⟨rfl, Or.inr ⟨b6, 2, _, rfl, HL6.out, (Below.heap_alloc _ _ _ (Array.getElem?_eq_some_iff.1 HRW3.out).1).trans HRW3.out, Nat.le_refl _, by decide, rfl, rfl⟩⟩
  refine step_append_own rfl _ _ 74 (by rfl) W3.heap.size 9 i0 _ 1 16 Tryz.underlying74 hi0 hz0 hz1 hz2 rfl (by decide) (.slice (some ⟨b6, 0, none⟩) 2 2) 2 [.string t, .string X] (by rfl) hown0 ⟨w9.heap.size, 0, none⟩ 3 3 [.string s, .string Y, .string U] (by rfl) (by rfl) (row_new w9 #[.string s, .string Y, .string U] 9) (by simp [Value.oneCell']) (by decide) (by decide) (HR3.out.alloc HR3.out.size (.cells #[.string s, .string Y, .string U] 9)).size ?_
  intro v' w10 hown hgrow _
  have HR5 := lh (grown_below (HR3.out.alloc HR3.out.size (.cells #[.string s, .string Y, .string U] 9)) hown0 hgrow (Nat.le_refl _) (HR3.out.alloc HR3.out.size (.cells #[.string s, .string Y, .string U] 9)).size)
  have HFL := lh (fsl_own (fs := [t, X, s, Y, U]) hown rfl)
  clear hown hown0 hgrow
  refine hK.out _ _ ?_ (fun hHeld => ?_)
  . (try dsimp only); exact KD.out _ HR5.out
  clear hK K
  try simp only [pe]
  refine tk 12 ?_
  refine wpAnyH_done (by kernel_rfl) ?_ _
  go_wp2
  go_meet
  refine ⟨[t, X, s, Y, U], _, _, rfl, rfl, lh ⟨HFL.out, ⟨by simp, by simp⟩, fun k hk => ?_, HR5.out⟩⟩
  match k, hk with
  | 0, _ => exact Nat.le_trans HSZ.out (by decide)
  | 1, _ => exact HX.out
  | 2, _ => exact Nat.le_trans hs3 (by decide)
  | 3, _ => exact HY.out
  | 4, _ => exact hUs
 case rest =>
 obtain ⟨L, v, W7, rfl, rfl, hL⟩ := hcut
 obtain ⟨hfl, ⟨hl2, hl5⟩, hLs, hb7⟩ := hL.out
 obtain ⟨A', c', rfl, hc', hrow'⟩ := hfl
 obtain ⟨fb, off, RC, fr, rfl, hh, hcs⟩ := hrow' (by omega)
 have HRW := lh (fun V (hV : Below W7.heap.size W7 V) j (hj : j < L.length) => show V.cell? ⟨fb, off + j, none⟩ = some (.string (L.getD j ⟨#[]⟩)) from cellK ((hV.block _ (Array.getElem?_eq_some_iff.1 hh).1).trans hh) (hcs j hj))
 have HLS := lh hLs
 have HW3 := lh (fun V (hV : Below W7.heap.size W7 V) => show Below W3.heap.size W3 V from hb7.trans (hV.mono hb7.size))
 have HWW := lh (fun V (hV : Below W7.heap.size W7 V) => show Below w.heap.size w V from (HB0.out.trans (HB3.out.mono HB0.out.size)).trans ((HW3.out V hV).mono (HB0.out.trans (HB3.out.mono HB0.out.size)).size))
 clear hrow' hh hcs hLs hb7 hL
 obtain ⟨nL, hnL⟩ : ∃ nL, L.length = nL := ⟨_, rfl⟩
 rw [hnL] at hl2 hl5 hc' HRW HLS ⊢
 clear hnL
 go_upto_region 10 with fail
 go_loopw [11] (fun i wr => ∃ k : Nat, k <= nL /\ i = .int .i64 k /\ Hid (Below W7.heap.size W7 wr)) (fun i _ => nL - (intOf i).toNat)
 case atStart => exact ⟨0, Nat.zero_le _, rfl, lh (Below.refl _ _)⟩
 case round =>
  obtain ⟨k, hk, rfl, HBr⟩ := hrel
  by_cases hlt : k < nL
  . have hki : (k : Int) < (nL : Int) := by omega
    have kx := HRW.out wr HBr.out k hlt
    have HXS := lh (HLS.out k hlt)
    have HKX := lh (fun V hV => HRW.out V hV k hlt)
    obtain ⟨x, hx⟩ : ∃ x, L.getD k ⟨#[]⟩ = x := ⟨_, rfl⟩
    rw [hx] at kx HXS HKX
    clear hx
    have HPE0 := lh (H.out.pe x)
    obtain ⟨z0, hz0⟩ : ∃ z0, pE x = z0 := ⟨_, rfl⟩
    have HPA := lh (fun V (hV : Below W7.heap.size W7 V) => H.out.pa x V HXS.out (HWW.out V hV))
    have HPI := lh (fun V => H.out.pi x V HXS.out)
    have HTX := lh (fun (d : CdA) V (hV : Below W7.heap.size W7 V) => H.out.tx x d V HXS.out (HWW.out V hV))
    rw [hz0] at HPA HPI HPE0
    have HPE1 := lh hz0
    clear hz0
    go_upto_region 13 with (go_at_call 32; (with_reducible refine (HPA.out _ HBr.out).mono ?_); rintro e w1 ⟨d, rfl, hkd, hb1⟩; have HKD := lh hkd; have HV1 := lh (HBr.out.trans (hb1.mono HBr.out.size)); clear hkd hb1)
    clear kx
    have HKE := lh (HKD.out.on (bo (.cells #[((pC x).n 0), ((pC x).n 1), ((pC x).n 2), ((pC x).n 3), ((pC x).n 4), .slice d.a1 (pC x).q.length d.c1, .slice d.a2 (pC x).l.length d.c2, .slice d.a3 (pC x).b.length d.c3] 36)))
    have hb12 := heap_alloc_new w1 (.cells #[((pC x).n 0), ((pC x).n 1), ((pC x).n 2), ((pC x).n 3), ((pC x).n 4), .slice d.a1 (pC x).q.length d.c1, .slice d.a2 (pC x).l.length d.c2, .slice d.a3 (pC x).b.length d.c3] 36)
    have HV2 := lh (HV1.out.alloc HV1.out.size (.cells #[((pC x).n 0), ((pC x).n 1), ((pC x).n 2), ((pC x).n 3), ((pC x).n 4), .slice d.a1 (pC x).q.length d.c1, .slice d.a2 (pC x).l.length d.c2, .slice d.a3 (pC x).b.length d.c3] 36))
    generalize (w1.alloc (.cells #[((pC x).n 0), ((pC x).n 1), ((pC x).n 2), ((pC x).n 3), ((pC x).n 4), .slice d.a1 (pC x).q.length d.c1, .slice d.a2 (pC x).l.length d.c2, .slice d.a3 (pC x).b.length d.c3] 36)) = V2 at *
    generalize w1.heap.size = b12 at *
    have HD1 := lh (fun V (hV : Below V2.heap.size V2 V) => HKE.out.on hV)
    have HV3 := lh (fun V (hV : Below V2.heap.size V2 V) => show Below W7.heap.size W7 V from HV2.out.trans (hV.mono HV2.out.size))
    have HS := lh (fun V (hV : Below V2.heap.size V2 V) => show (∀ o, V.cell? ⟨b8, o, none⟩ = (#[(C.n 0), (C.n 1), (C.n 2), (C.n 3), (C.n 4), .slice a.a1 C.q.length a.c1, .slice a.a2 C.l.length a.c2, .slice a.a3 C.b.length a.c3] : Array Value)[o]?) /\ (∀ o, V.cell? ⟨b12, o, none⟩ = (#[((pC x).n 0), ((pC x).n 1), ((pC x).n 2), ((pC x).n 3), ((pC x).n 4), .slice d.a1 (pC x).q.length d.c1, .slice d.a2 (pC x).l.length d.c2, .slice d.a3 (pC x).b.length d.c3] : Array Value)[o]?) /\ V.cell? ⟨fb, off + k, none⟩ = some (.string x) from ⟨H8.out V (HW3.out V (HV3.out V hV)), fun o => by
     have f := (hV.block _ (Array.getElem?_eq_some_iff.1 hb12).1).trans hb12
     simp [World.cell?, f], HKX.out V (HV3.out V hV)⟩)
    clear hb12 HKD
    have kx2 := (HS.out V2 (Below.refl _ _)).2.2
    go_upto_region 14 with (go_at_call 37; (with_reducible refine (HPI.out _).mono ?_); rintro e w2 ⟨d2, rfl, hkd, hb2⟩; have HKF := lh hkd; have HW2 := lh hb2; clear hkd hb2)
    clear kx2
    have HKG := lh (HKF.out.on (bo (.cells #[((pC x).n 0), ((pC x).n 1), ((pC x).n 2), ((pC x).n 3), ((pC x).n 4), .slice d2.a1 (pC x).q.length d2.c1, .slice d2.a2 (pC x).l.length d2.c2, .slice d2.a3 (pC x).b.length d2.c3, z0] 77)))
    have hb14 := heap_alloc_new w2 (.cells #[((pC x).n 0), ((pC x).n 1), ((pC x).n 2), ((pC x).n 3), ((pC x).n 4), .slice d2.a1 (pC x).q.length d2.c1, .slice d2.a2 (pC x).l.length d2.c2, .slice d2.a3 (pC x).b.length d2.c3, z0] 77)
    have HV4 := lh (HW2.out.alloc HW2.out.size (.cells #[((pC x).n 0), ((pC x).n 1), ((pC x).n 2), ((pC x).n 3), ((pC x).n 4), .slice d2.a1 (pC x).q.length d2.c1, .slice d2.a2 (pC x).l.length d2.c2, .slice d2.a3 (pC x).b.length d2.c3, z0] 77))
    generalize (w2.alloc (.cells #[((pC x).n 0), ((pC x).n 1), ((pC x).n 2), ((pC x).n 3), ((pC x).n 4), .slice d2.a1 (pC x).q.length d2.c1, .slice d2.a2 (pC x).l.length d2.c2, .slice d2.a3 (pC x).b.length d2.c3, z0] 77)) = V4 at *
    generalize w2.heap.size = b14 at *
    have k14 : ∀ o, V4.cell? ⟨b14, o, none⟩ = (#[((pC x).n 0), ((pC x).n 1), ((pC x).n 2), ((pC x).n 3), ((pC x).n 4), .slice d2.a1 (pC x).q.length d2.c1, .slice d2.a2 (pC x).l.length d2.c2, .slice d2.a3 (pC x).b.length d2.c3, z0] : Array Value)[o]? := fun o => by simp [World.cell?, hb14]
    have k12 := (HS.out V4 HV4.out).2.1
    have HS1 := lh (H.out.s1 x d d2 V4 HXS.out (HD1.out V4 HV4.out) HKG.out)
    clear hb14 HKF
    go_upto_region 16 with (go_at_call 33; (with_reducible refine HS1.out.mono ?_); rintro e w3 ⟨rfl, hb3⟩; have HV5a := lh (HV4.out.trans (hb3.mono HV4.out.size)); clear hb3)
    clear k14 k12
    rcases HPE0.out with hz | hz
    rotate_left
    . subst hz
      go_wp2
      go_roundw
      case rel => exact ⟨k + 1, by omega, by go_num, lh (HV3.out _ HV5a.out)⟩
      case measure => simp [intOf]; omega
    subst hz
    have HPE := lh HPE1.out
    have k12 := (HS.out w3 HV5a.out).2.1
    go_upto_region 18 with (go_at_call 15; (with_reducible refine (HTX.out d _ (HV3.out _ HV5a.out) HPE.out (HD1.out _ HV5a.out)).mono ?_); rintro e w5 ⟨rfl, hb5⟩; have HV5 := lh (HV5a.out.trans (hb5.mono HV5a.out.size)); clear hb5)
    clear k12
    by_cases hk2 : (k : Int) < 2
    . have hk2' : decide ((k : Int) < 2) = true := decide_eq_true hk2
      obtain ⟨bb, hbb⟩ : ∃ bb, (x.toList == t.toList) = bb := ⟨_, rfl⟩
      refine wp_region_held_drew (S := (fun w' => (∀ o, w'.cell? ⟨b8, o, none⟩ = (#[(C.n 0), (C.n 1), (C.n 2), (C.n 3), (C.n 4), .slice a.a1 C.q.length a.c1, .slice a.a2 C.l.length a.c2, .slice a.a3 C.b.length a.c3] : Array Value)[o]?) /\ (∀ o, w'.cell? ⟨b12, o, none⟩ = (#[((pC x).n 0), ((pC x).n 1), ((pC x).n 2), ((pC x).n 3), ((pC x).n 4), .slice d.a1 (pC x).q.length d.c1, .slice d.a2 (pC x).l.length d.c2, .slice d.a3 (pC x).b.length d.c3] : Array Value)[o]?) /\ w'.cell? ⟨fb, off + k, none⟩ = some (.string x))) (by kernel_rfl) ?_ (fun hHeld => ?_)
      . (try dsimp only); exact HS.out _ (below_d HV5.out)
      refine tk 0 ?_
      refine tk 1 ?_
      refine tk 2 ?_
      refine tk 3 ?_
      refine tk 4 ?_
      refine tk 5 ?_
      refine tk 6 ?_
      refine tk 7 ?_
      refine tk 8 ?_
      refine tk 9 ?_
      refine tk 10 ?_
      refine tk 11 ?_
      refine tk 12 ?_
      refine tk 13 ?_
      refine tk 14 ?_
      refine tk 15 ?_
      refine tk 17 ?_
      refine tk 18 ?_
      refine tk 19 ?_
      refine tk 20 ?_
      refine tk 21 ?_
      refine tk 22 ?_
      refine an 16 (fun K hK => ?_)
      go_simp
      (go_at_call 33; (with_reducible refine (HS2.out x d _ HXS.out HPE.out (HW3.out _ (HV3.out _ (below_d HV5.out))) (HD1.out _ (below_d HV5.out))).mono ?_); rintro e w6 ⟨rfl, hb6⟩; have HV6 := lh ((below_d HV5.out).trans (hb6.mono (below_d HV5.out).size)); clear hb6)
      try go_wp2_with fail
      refine hK.out _ _ ?_ (fun hHeld => ?_)
      . (try dsimp only); exact HS.out _ HV6.out
      clear hK K
      try simp only [pe]
      refine tk 23 ?_
      refine tk 24 ?_
      refine tk 25 ?_
      refine wpAnyH_done (by kernel_rfl) ?_ _
      go_wp2
      go_roundw
      case rel => exact ⟨k + 1, by omega, by go_num, lh (HV3.out _ HV6.out)⟩
      case measure => simp [intOf]; omega
    . have hk2' : decide ((k : Int) < 2) = false := decide_eq_false hk2
      refine wp_region_held_drew (S := (fun w' => (∀ o, w'.cell? ⟨b8, o, none⟩ = (#[(C.n 0), (C.n 1), (C.n 2), (C.n 3), (C.n 4), .slice a.a1 C.q.length a.c1, .slice a.a2 C.l.length a.c2, .slice a.a3 C.b.length a.c3] : Array Value)[o]?) /\ (∀ o, w'.cell? ⟨b12, o, none⟩ = (#[((pC x).n 0), ((pC x).n 1), ((pC x).n 2), ((pC x).n 3), ((pC x).n 4), .slice d.a1 (pC x).q.length d.c1, .slice d.a2 (pC x).l.length d.c2, .slice d.a3 (pC x).b.length d.c3] : Array Value)[o]?) /\ w'.cell? ⟨fb, off + k, none⟩ = some (.string x))) (by kernel_rfl) ?_ (fun hHeld => ?_)
      . (try dsimp only); exact HS.out _ (below_d HV5.out)
      refine tk 0 ?_
      refine tk 1 ?_
      refine tk 2 ?_
      refine tk 3 ?_
      refine tk 4 ?_
      refine tk 5 ?_
      refine tk 6 ?_
      refine tk 7 ?_
      refine tk 8 ?_
      refine tk 9 ?_
      refine tk 10 ?_
      refine tk 11 ?_
      refine tk 12 ?_
      refine tk 13 ?_
      refine tn 14 ?_
      refine tn 15 ?_
      refine tn 16 ?_
      refine tn 17 ?_
      refine tn 18 ?_
      refine tn 19 ?_
      refine tn 20 ?_
      refine tn 21 ?_
      refine tn 22 ?_
      refine tn 23 ?_
      refine tk 24 ?_
      refine tk 25 ?_
      refine wpAnyH_done (by kernel_rfl) ?_ _
      go_wp2
      go_roundw
      case rel => exact ⟨k + 1, by omega, by go_num, lh (HV3.out _ (below_d HV5.out))⟩
      case measure => simp [intOf]; omega
  . obtain rfl : k = nL := by omega
    go_wp2
    go_ret
    exact ⟨rfl, HWW.out _ HBr.out⟩
end Go.Proofs.YtkncilgmlkeifaaGreatDoor
