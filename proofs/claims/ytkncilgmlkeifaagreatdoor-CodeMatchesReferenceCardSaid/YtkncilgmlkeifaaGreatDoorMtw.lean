import Derived.Test.YtkncilgmlkeifaaGreatDoorCdm
import Derived.Test.YtkncilgmlkeifaaGreatDoorTkp
import Derived.Deep.DeepCutAuto
import Derived.Deep.CutRange
/-
  CodeMatchesReference: the law's walk, over what its calls answer.
-/
set_option linter.unusedVariables false
set_option linter.unusedSimpArgs false
namespace Go.Proofs.YtkncilgmlkeifaaGreatDoor
open Go.ChangeShapes Go.WideShapes Go.ChangeAt Go.RowKit Go.Shelf
theorem kcel {W : World} {b : Nat} {C : Array Value} {T : TypeId} {fr : Nat × Nat} (h : W.heap[b]? = some (.cells C T fr)) (o : Nat) : W.cell? ⟨b, o, none⟩ = C[o]? := by simp [World.cell?, h]
theorem below_dr {B : Nat} {w w' : World} (h : Below B w w') : Below B w w'.drew := ⟨h.os, h.tape, h.output, h.size, h.block⟩
def SI (W : World) (v : Value) (L : List Int) : Prop := ∃ A c, v = .slice A L.length c /\ RI W W.heap.size A L.length (fun j => L.getD j 0) /\ L.length <= 65536
theorem SI.on {W V : World} {v : Value} {L : List Int} (h : SI W v L) (hb : Below W.heap.size W V) : SI V v L := by
 obtain ⟨A, c, e, h1, h2⟩ := h
 refine ⟨A, c, e, fun hn => ?_, h2⟩
 obtain ⟨b, off, e1, hlt, hc⟩ := (h1.below hb) hn
 exact ⟨b, off, e1, Nat.lt_of_lt_of_le hlt hb.size, hc⟩
structure MtH (w : World) (G0 G1 G : CdV -> Prop) (T : CdV -> ByteArray) (Z : CdV -> Int) (sT uT : TermV -> List Int) (uI : InstV -> List Int) (dT : TermV -> Int) (dI : InstV -> Int) (A : Option Addr) (nx cx : Nat) (q : Bool) (xp xa xb xy xk xn xv zp za zb zy zk zn zv : Int) (xs zs : ByteArray) : Prop where
 g01 : ∀ C, G0 C -> G C
 g12 : ∀ C, G1 C -> G C
 sz : ∀ C, G C -> C.b.length <= 65536 /\ ∀ j, C.il j <= 65536
 ex : ∀ V, Below w.heap.size w V -> Calls Tryz.prog 11 #[] V fun e w' => e = .returned (.bool true) /\ Below V.heap.size V w'
 ma : ∀ V, Below w.heap.size w V -> Calls Tryz.prog 12 #[.agg #[.slice A nx cx], .bool q] V fun e w' => ∃ (C : CdV) (a : CdA), e = .returned (.agg #[(C.n 0), (C.n 1), (C.n 2), (C.n 3), (C.n 4), .slice a.a1 C.q.length a.c1, .slice a.a2 C.l.length a.c2, .slice a.a3 C.b.length a.c3]) /\ (G0 C /\ CdK C a w') /\ Below V.heap.size V w'
 c0 : ∀ C a V, G0 C -> CdK C a V -> Calls Tryz.prog 13 #[.agg #[(C.n 0), (C.n 1), (C.n 2), (C.n 3), (C.n 4), .slice a.a1 C.q.length a.c1, .slice a.a2 C.l.length a.c2, .slice a.a3 C.b.length a.c3], .agg #[.int .u8 xp, .int .u8 xa, .int .u8 xb, xy, .string xs, xk, xn, .int .i32 xv]] V fun e w' => ∃ (D : CdV) (d : CdA), e = .returned (.agg #[(D.n 0), (D.n 1), (D.n 2), (D.n 3), (D.n 4), .slice d.a1 D.q.length d.c1, .slice d.a2 D.l.length d.c2, .slice d.a3 D.b.length d.c3]) /\ (G1 D /\ CdK D d w') /\ Below V.heap.size V w'
 c1 : ∀ C a V, G1 C -> CdK C a V -> Calls Tryz.prog 13 #[.agg #[(C.n 0), (C.n 1), (C.n 2), (C.n 3), (C.n 4), .slice a.a1 C.q.length a.c1, .slice a.a2 C.l.length a.c2, .slice a.a3 C.b.length a.c3], .agg #[.int .u8 zp, .int .u8 za, .int .u8 zb, zy, .string zs, zk, zn, .int .i32 zv]] V fun e w' => ∃ (D : CdV) (d : CdA), e = .returned (.agg #[(D.n 0), (D.n 1), (D.n 2), (D.n 3), (D.n 4), .slice d.a1 D.q.length d.c1, .slice d.a2 D.l.length d.c2, .slice d.a3 D.b.length d.c3]) /\ (G D /\ CdK D d w') /\ Below V.heap.size V w'
 k1 : ∀ C a V, G C -> CdK C a V -> Calls Tryz.prog 14 #[.agg #[(C.n 0), (C.n 1), (C.n 2), (C.n 3), (C.n 4), .slice a.a1 C.q.length a.c1, .slice a.a2 C.l.length a.c2, .slice a.a3 C.b.length a.c3]] V fun e w' => e = .returned (.int .i64 (Z C)) /\ Below V.heap.size V w'
 k2 : ∀ C a V, G C -> CdK C a V -> Calls Tryz.prog 17 #[.agg #[(C.n 0), (C.n 1), (C.n 2), (C.n 3), (C.n 4), .slice a.a1 C.q.length a.c1, .slice a.a2 C.l.length a.c2, .slice a.a3 C.b.length a.c3]] V fun e w' => e = .returned (.int .i64 (Z C)) /\ Below V.heap.size V w'
 x1 : ∀ C a V, Below w.heap.size w V -> G C -> CdK C a V -> Calls Tryz.prog 15 #[.agg #[(C.n 0), (C.n 1), (C.n 2), (C.n 3), (C.n 4), .slice a.a1 C.q.length a.c1, .slice a.a2 C.l.length a.c2, .slice a.a3 C.b.length a.c3]] V fun e w' => e = .returned (.tuple #[.string (T C), (Z C)]) /\ Below V.heap.size V w'
 x2 : ∀ C a V, G C -> CdK C a V -> Calls Tryz.prog 16 #[.agg #[(C.n 0), (C.n 1), (C.n 2), (C.n 3), (C.n 4), .slice a.a1 C.q.length a.c1, .slice a.a2 C.l.length a.c2, .slice a.a3 C.b.length a.c3]] V fun e w' => e = .returned (.agg #[.string (T C), (Z C)]) /\ Below V.heap.size V w'
 r1 : ∀ C a V, G C -> Z C = 0 -> CdK C a V -> Calls Tryz.prog 19 #[.agg #[(C.n 0), (C.n 1), (C.n 2), (C.n 3), (C.n 4), .slice a.a1 C.q.length a.c1, .slice a.a2 C.l.length a.c2, .slice a.a3 C.b.length a.c3]] V fun e w' => ∃ g : Nat, e = .returned (.slice (some ⟨g, 0, none⟩) C.b.length C.b.length) /\ w'.rowIs g 4 C.b.length (fun j => .bool (reachC C j)) /\ Below V.heap.size V w'
 r2 : ∀ C a V, G C -> Z C = 0 -> CdK C a V -> Calls Tryz.prog 20 #[.agg #[(C.n 0), (C.n 1), (C.n 2), (C.n 3), (C.n 4), .slice a.a1 C.q.length a.c1, .slice a.a2 C.l.length a.c2, .slice a.a3 C.b.length a.c3]] V fun e w' => ∃ g : Nat, e = .returned (.slice (some ⟨g, 0, none⟩) C.b.length C.b.length) /\ w'.rowIs g 4 C.b.length (fun j => .bool (reachC C j)) /\ Below V.heap.size V w'
 r3 : ∀ C (g g' : Nat) V, G C -> V.rowIs g 4 C.b.length (fun j => .bool (reachC C j)) -> V.rowIs g' 4 C.b.length (fun j => .bool (reachC C j)) -> Calls Tryz.prog 18 #[.slice (some ⟨g, 0, none⟩) C.b.length C.b.length, .slice (some ⟨g', 0, none⟩) C.b.length C.b.length] V fun e w' => e = .returned (.bool true) /\ Below V.heap.size V w'
 s1 : ∀ (t : TermV) V, Calls Tryz.prog 22 #[.agg #[t.kind, t.sub, t.d.k, t.d.n, .int .i32 t.d.v, t.a.k, t.a.n, .int .i32 t.a.v, t.b.k, t.b.n, .int .i32 t.b.v, t.t0, t.t1]] V fun e w' => ∃ v, e = .returned v /\ SI w' v (sT t) /\ Below V.heap.size V w'
 s2 : ∀ C j V, G C -> Z C = 0 -> j < C.b.length -> Calls Tryz.prog 23 #[.agg #[(C.te j).kind, (C.te j).sub, (C.te j).d.k, (C.te j).d.n, .int .i32 (C.te j).d.v, (C.te j).a.k, (C.te j).a.n, .int .i32 (C.te j).a.v, (C.te j).b.k, (C.te j).b.n, .int .i32 (C.te j).b.v, (C.te j).t0, (C.te j).t1]] V fun e w' => ∃ v, e = .returned v /\ SI w' v (sT (C.te j)) /\ Below V.heap.size V w'
 si : ∀ v v' L V, SI V v L -> SI V v' L -> Calls Tryz.prog 21 #[v, v'] V fun e w' => e = .returned (.bool true) /\ Below V.heap.size V w'
 u1 : ∀ (t : TermV) V, Calls Tryz.prog 24 #[.agg #[t.kind, t.sub, t.d.k, t.d.n, .int .i32 t.d.v, t.a.k, t.a.n, .int .i32 t.a.v, t.b.k, t.b.n, .int .i32 t.b.v, t.t0, t.t1]] V fun e w' => ∃ v, e = .returned v /\ SI w' v (uT t) /\ Below V.heap.size V w'
 u2 : ∀ (t : TermV) V, Calls Tryz.prog 25 #[.agg #[t.kind, t.sub, t.d.k, t.d.n, .int .i32 t.d.v, t.a.k, t.a.n, .int .i32 t.a.v, t.b.k, t.b.n, .int .i32 t.b.v, t.t0, t.t1]] V fun e w' => ∃ v, e = .returned v /\ SI w' v (uT t) /\ Below V.heap.size V w'
 d1 : ∀ (t : TermV) V, Calls Tryz.prog 26 #[.agg #[t.kind, t.sub, t.d.k, t.d.n, .int .i32 t.d.v, t.a.k, t.a.n, .int .i32 t.a.v, t.b.k, t.b.n, .int .i32 t.b.v, t.t0, t.t1]] V fun e w' => e = .returned (.int .i64 (dT t)) /\ Below V.heap.size V w'
 d2 : ∀ (t : TermV) V, Calls Tryz.prog 27 #[.agg #[t.kind, t.sub, t.d.k, t.d.n, .int .i32 t.d.v, t.a.k, t.a.n, .int .i32 t.a.v, t.b.k, t.b.n, .int .i32 t.b.v, t.t0, t.t1]] V fun e w' => e = .returned (.int .i64 (dT t)) /\ Below V.heap.size V w'
 i1 : ∀ (i : InstV) V, Calls Tryz.prog 28 #[.agg #[i.op, i.sub, i.n, i.d.k, i.d.n, .int .i32 i.d.v, i.a.k, i.a.n, .int .i32 i.a.v, i.b.k, i.b.n, .int .i32 i.b.v, i.c.k, i.c.n, .int .i32 i.c.v]] V fun e w' => ∃ v, e = .returned v /\ SI w' v (uI i) /\ Below V.heap.size V w'
 i2 : ∀ (i : InstV) V, Calls Tryz.prog 29 #[.agg #[i.op, i.sub, i.n, i.d.k, i.d.n, .int .i32 i.d.v, i.a.k, i.a.n, .int .i32 i.a.v, i.b.k, i.b.n, .int .i32 i.b.v, i.c.k, i.c.n, .int .i32 i.c.v]] V fun e w' => ∃ v, e = .returned v /\ SI w' v (uI i) /\ Below V.heap.size V w'
 e1 : ∀ (i : InstV) V, Calls Tryz.prog 30 #[.agg #[i.op, i.sub, i.n, i.d.k, i.d.n, .int .i32 i.d.v, i.a.k, i.a.n, .int .i32 i.a.v, i.b.k, i.b.n, .int .i32 i.b.v, i.c.k, i.c.n, .int .i32 i.c.v]] V fun e w' => e = .returned (.int .i64 (dI i)) /\ Below V.heap.size V w'
 e2 : ∀ (i : InstV) V, Calls Tryz.prog 31 #[.agg #[i.op, i.sub, i.n, i.d.k, i.d.n, .int .i32 i.d.v, i.a.k, i.a.n, .int .i32 i.a.v, i.b.k, i.b.n, .int .i32 i.b.v, i.c.k, i.c.n, .int .i32 i.c.v]] V fun e w' => e = .returned (.int .i64 (dI i)) /\ Below V.heap.size V w'
set_option maxRecDepth 100000 in
set_option maxHeartbeats 16000000 in
theorem matches_of (G0 G1 G : CdV -> Prop) (T : CdV -> ByteArray) (Z : CdV -> Int) (sT uT : TermV -> List Int) (uI : InstV -> List Int) (dT : TermV -> Int) (dI : InstV -> Int) (A : Option Addr) (nx cx : Nat) (q : Bool) (xp xa xb xy xk xn xv zp za zb zy zk zn zv : Int) (xs zs : ByteArray) (w : World) (hxs : xs.size <= 9223372036854775807) (hzs : zs.size <= 9223372036854775807)
 (h : MtH w G0 G1 G T Z sT uT uI dT dI A nx cx q xp xa xb xy xk xn xv zp za zb zy zk zn zv xs zs) :
 Calls Tryz.prog 3 #[.agg #[.slice A nx cx], .bool q, .agg #[.int .u8 xp, .int .u8 xa, .int .u8 xb, xy, .string xs, xk, xn, .int .i32 xv, .int .u8 zp, .int .u8 za, .int .u8 zb, zy, .string zs, zk, zn, .int .i32 zv]] w fun e w' => e = .returned (.bool true) /\ Below w.heap.size w w' := by
 have H := lh h
 have HBX := lh (show ∀ V, Below (w.heap.size + 2) ((w.alloc (.cells #[.slice A nx cx] 24)).alloc (.cells #[.int .u8 xp, .int .u8 xa, .int .u8 xb, xy, .string xs, xk, xn, .int .i32 xv, .int .u8 zp, .int .u8 za, .int .u8 zb, zy, .string zs, zk, zn, .int .i32 zv] 30)) V -> V.cell? ⟨w.heap.size, 0, none⟩ = some (.slice A nx cx) /\ ∀ o, V.cell? ⟨w.heap.size + 1, o, none⟩ = (#[.int .u8 xp, .int .u8 xa, .int .u8 xb, xy, .string xs, xk, xn, .int .i32 xv, .int .u8 zp, .int .u8 za, .int .u8 zb, zy, .string zs, zk, zn, .int .i32 zv] : Array Value)[o]? from fun V hV => by
  have e0 : ((w.alloc (.cells #[.slice A nx cx] 24)).alloc (.cells #[.int .u8 xp, .int .u8 xa, .int .u8 xb, xy, .string xs, xk, xn, .int .i32 xv, .int .u8 zp, .int .u8 za, .int .u8 zb, zy, .string zs, zk, zn, .int .i32 zv] 30)).heap[w.heap.size]? = some (.cells #[.slice A nx cx] 24 (0, 0)) := (Below.heap_alloc _ _ _ (by simp)).trans (heap_alloc_new w _)
  have e1 := heap_alloc_new (w.alloc (.cells #[.slice A nx cx] 24)) (.cells #[.int .u8 xp, .int .u8 xa, .int .u8 xb, xy, .string xs, xk, xn, .int .i32 xv, .int .u8 zp, .int .u8 za, .int .u8 zb, zy, .string zs, zk, zn, .int .i32 zv] 30)
  rw [World.size_alloc] at e1
  exact ⟨cell_blk ((hV.block _ (by omega)).trans e0) (i := 0) rfl, kcel ((hV.block _ (by omega)).trans e1)⟩)
 have hb0 : Below w.heap.size w ((w.alloc (.cells #[.slice A nx cx] 24)).alloc (.cells #[.int .u8 xp, .int .u8 xa, .int .u8 xb, xy, .string xs, xk, xn, .int .i32 xv, .int .u8 zp, .int .u8 za, .int .u8 zb, zy, .string zs, zk, zn, .int .i32 zv] 30)) := (bo _).alloc (by simp) _
 clear h
 go_enter Tryz.func3, Tryz.ntmps3
 go_upto_region 1 with fail
 obtain ⟨W0, hW0⟩ : ∃ W0, (w.alloc (.cells #[.slice A nx cx] 24)).alloc (.cells #[.int .u8 xp, .int .u8 xa, .int .u8 xb, xy, .string xs, xk, xn, .int .i32 xv, .int .u8 zp, .int .u8 za, .int .u8 zb, zy, .string zs, zk, zn, .int .i32 zv] 30) = W0 := ⟨_, rfl⟩
 have hsz : w.heap.size + 2 <= W0.heap.size := by rw [<- hW0]; simp
 rw [hW0] at HBX hb0 ⊢
 have HB0 := lh hb0
 have HC := lh (fun V (hV : Below W0.heap.size W0 V) => HBX.out V (hV.mono hsz))
 clear hW0 hb0 HBX hsz
 go_upto_region 4 with (go_at_call 11; (with_reducible refine (H.out.ex _ HB0.out).mono ?_); rintro e w1 ⟨rfl, hb1⟩; have HB1 := lh hb1; clear hb1)
 have HWW := lh (fun V (hV : Below W0.heap.size W0 V) => show Below w.heap.size w V from HB0.out.trans (hV.mono HB0.out.size))
 have yz := (HC.out w1 HB1.out).2
 by_cases hn1 : (40 : Int) < (xs.size : Int)
 . go_wp2
   go_ret
   exact ⟨rfl, HWW.out _ HB1.out⟩
 by_cases hn2 : (40 : Int) < (zs.size : Int)
 . go_wp2
   go_ret
   exact ⟨rfl, HWW.out _ HB1.out⟩
 have hc1 := (HC.out w1 HB1.out).1
 go_upto_region 6 with fail
 clear yz
 go_upto_region 7 with (go_at_call 12; (with_reducible refine (H.out.ma _ (HWW.out _ HB1.out)).mono ?_); rintro e w2 ⟨C, ca, rfl, ⟨hg, hk2⟩, hb2⟩; have HG0 := lh hg; have HK2 := lh hk2; have HB2 := lh (HB1.out.trans (hb2.mono HB1.out.size)); clear hb2 hg hk2)
 clear hc1
 have hKC := HK2.out.on (bo (.cells #[(C.n 0), (C.n 1), (C.n 2), (C.n 3), (C.n 4), .slice ca.a1 C.q.length ca.c1, .slice ca.a2 C.l.length ca.c2, .slice ca.a3 C.b.length ca.c3] 36))
 have hb8 := heap_alloc_new w2 (.cells #[(C.n 0), (C.n 1), (C.n 2), (C.n 3), (C.n 4), .slice ca.a1 C.q.length ca.c1, .slice ca.a2 C.l.length ca.c2, .slice ca.a3 C.b.length ca.c3] 36)
 have HB3 := lh (HB2.out.alloc HB2.out.size (.cells #[(C.n 0), (C.n 1), (C.n 2), (C.n 3), (C.n 4), .slice ca.a1 C.q.length ca.c1, .slice ca.a2 C.l.length ca.c2, .slice ca.a3 C.b.length ca.c3] 36))
 generalize (w2.alloc (.cells #[(C.n 0), (C.n 1), (C.n 2), (C.n 3), (C.n 4), .slice ca.a1 C.q.length ca.c1, .slice ca.a2 C.l.length ca.c2, .slice ca.a3 C.b.length ca.c3] 36)) = W3 at *
 generalize w2.heap.size = b8 at *
 have HKC := lh (fun V (hV : Below W3.heap.size W3 V) => hKC.on hV)
 have H8 := lh (fun V (hV : Below W3.heap.size W3 V) => kcel ((hV.block _ (Array.getElem?_eq_some_iff.1 hb8).1).trans hb8))
 clear hb8 HK2 HB2 hKC
 have k8 := H8.out _ (Below.refl _ _)
 have yz := (HC.out W3 HB3.out).2
 go_upto_region 8 with (go_at_call 13; (with_reducible refine (H.out.c0 C ca _ HG0.out (HKC.out _ (Below.refl _ _))).mono ?_); rintro e w4 ⟨D, da, rfl, ⟨hg, hk4⟩, hb4⟩; have HG1 := lh hg; have HK4 := lh hk4; have HB4 := lh hb4; clear hb4 hg hk4)
 clear k8 yz
 have hKD := HK4.out.on (bo (.cells #[(D.n 0), (D.n 1), (D.n 2), (D.n 3), (D.n 4), .slice da.a1 D.q.length da.c1, .slice da.a2 D.l.length da.c2, .slice da.a3 D.b.length da.c3] 36))
 have hb9 := heap_alloc_new w4 (.cells #[(D.n 0), (D.n 1), (D.n 2), (D.n 3), (D.n 4), .slice da.a1 D.q.length da.c1, .slice da.a2 D.l.length da.c2, .slice da.a3 D.b.length da.c3] 36)
 have HB5 := lh (HB4.out.alloc HB4.out.size (.cells #[(D.n 0), (D.n 1), (D.n 2), (D.n 3), (D.n 4), .slice da.a1 D.q.length da.c1, .slice da.a2 D.l.length da.c2, .slice da.a3 D.b.length da.c3] 36))
 generalize (w4.alloc (.cells #[(D.n 0), (D.n 1), (D.n 2), (D.n 3), (D.n 4), .slice da.a1 D.q.length da.c1, .slice da.a2 D.l.length da.c2, .slice da.a3 D.b.length da.c3] 36)) = W5 at *
 generalize w4.heap.size = b9 at *
 have HKD := lh (fun V (hV : Below W5.heap.size W5 V) => hKD.on hV)
 have H35 := lh (fun V (hV : Below W5.heap.size W5 V) => show Below W3.heap.size W3 V from HB5.out.trans (hV.mono HB5.out.size))
 have H05 := lh (fun V (hV : Below W5.heap.size W5 V) => show Below W0.heap.size W0 V from HB3.out.trans ((H35.out V hV).mono HB3.out.size))
 have HS8 := lh (fun V (hV : Below W5.heap.size W5 V) => show (∀ o, V.cell? ⟨b8, o, none⟩ = (#[(C.n 0), (C.n 1), (C.n 2), (C.n 3), (C.n 4), .slice ca.a1 C.q.length ca.c1, .slice ca.a2 C.l.length ca.c2, .slice ca.a3 C.b.length ca.c3] : Array Value)[o]?) /\ (∀ o, V.cell? ⟨b9, o, none⟩ = (#[(D.n 0), (D.n 1), (D.n 2), (D.n 3), (D.n 4), .slice da.a1 D.q.length da.c1, .slice da.a2 D.l.length da.c2, .slice da.a3 D.b.length da.c3] : Array Value)[o]?) /\ ∀ o, V.cell? ⟨w.heap.size + 1, o, none⟩ = (#[.int .u8 xp, .int .u8 xa, .int .u8 xb, xy, .string xs, xk, xn, .int .i32 xv, .int .u8 zp, .int .u8 za, .int .u8 zb, zy, .string zs, zk, zn, .int .i32 zv] : Array Value)[o]? from
  ⟨H8.out V (H35.out V hV), kcel ((hV.block _ (Array.getElem?_eq_some_iff.1 hb9).1).trans hb9), (HC.out V (H05.out V hV)).2⟩)
 clear hb9 HK4 HB4 hKD
 go_upto_region 8 with fail
 refine wp_region_held_drew (S := (fun w' => (∀ o, w'.cell? ⟨b8, o, none⟩ = (#[(C.n 0), (C.n 1), (C.n 2), (C.n 3), (C.n 4), .slice ca.a1 C.q.length ca.c1, .slice ca.a2 C.l.length ca.c2, .slice ca.a3 C.b.length ca.c3] : Array Value)[o]?) /\ (∀ o, w'.cell? ⟨b9, o, none⟩ = (#[(D.n 0), (D.n 1), (D.n 2), (D.n 3), (D.n 4), .slice da.a1 D.q.length da.c1, .slice da.a2 D.l.length da.c2, .slice da.a3 D.b.length da.c3] : Array Value)[o]?) /\ ∀ o, w'.cell? ⟨w.heap.size + 1, o, none⟩ = (#[.int .u8 xp, .int .u8 xa, .int .u8 xb, xy, .string xs, xk, xn, .int .i32 xv, .int .u8 zp, .int .u8 za, .int .u8 zb, zy, .string zs, zk, zn, .int .i32 zv] : Array Value)[o]?)) (by kernel_rfl) ?_ (fun hHeld => ?_)
 . (try dsimp only); exact HS8.out _ (below_dr (Below.refl _ _))
 refine tk 0 ?_
 refine tk 1 ?_
 refine tk 2 ?_
 refine tk 3 ?_
 refine tk 4 ?_
 refine an 5 (fun K hK => ?_)
 go_simp
 (go_at_call 13; (with_reducible refine (H.out.c1 D da _ HG1.out (HKD.out _ (below_dr (Below.refl _ _)))).mono ?_); rintro e w6 ⟨E, ea, rfl, ⟨hg, hk6⟩, hb6⟩; have HG2 := lh hg; have HK6 := lh hk6; have HB6 := lh ((below_dr (Below.refl W5.heap.size W5)).trans (hb6.mono (below_dr (Below.refl W5.heap.size W5)).size)); clear hb6 hg hk6)
 try go_wp2_with fail
 refine hK.out _ _ ?_ (fun hHeld => ?_)
 . (try dsimp only); exact HS8.out _ HB6.out
 clear hK K
 try simp only [pe]
 refine an 6 (fun K hK => ?_)
 go_simp
 refine hK.out _ _ ?_ (fun hHeld => ?_)
 . (try dsimp only); exact HS8.out _ (HB6.out.alloc HB6.out.size _)
 clear hK K
 try simp only [pe]
 refine tk 7 ?_
 refine wpAnyH_done (by kernel_rfl) ?_ _
 clear hHeld
 have hKE := HK6.out.on (bo (.cells #[(C.n 0), (C.n 1), (C.n 2), (C.n 3), (C.n 4), .slice ca.a1 C.q.length ca.c1, .slice ca.a2 C.l.length ca.c2, .slice ca.a3 C.b.length ca.c3, (D.n 0), (D.n 1), (D.n 2), (D.n 3), (D.n 4), .slice da.a1 D.q.length da.c1, .slice da.a2 D.l.length da.c2, .slice da.a3 D.b.length da.c3, (E.n 0), (E.n 1), (E.n 2), (E.n 3), (E.n 4), .slice ea.a1 E.q.length ea.c1, .slice ea.a2 E.l.length ea.c2, .slice ea.a3 E.b.length ea.c3] 36))
 have hbA := heap_alloc_new w6 (.cells #[(C.n 0), (C.n 1), (C.n 2), (C.n 3), (C.n 4), .slice ca.a1 C.q.length ca.c1, .slice ca.a2 C.l.length ca.c2, .slice ca.a3 C.b.length ca.c3, (D.n 0), (D.n 1), (D.n 2), (D.n 3), (D.n 4), .slice da.a1 D.q.length da.c1, .slice da.a2 D.l.length da.c2, .slice da.a3 D.b.length da.c3, (E.n 0), (E.n 1), (E.n 2), (E.n 3), (E.n 4), .slice ea.a1 E.q.length ea.c1, .slice ea.a2 E.l.length ea.c2, .slice ea.a3 E.b.length ea.c3] 36)
 have HB7 := lh (HB6.out.alloc HB6.out.size (.cells #[(C.n 0), (C.n 1), (C.n 2), (C.n 3), (C.n 4), .slice ca.a1 C.q.length ca.c1, .slice ca.a2 C.l.length ca.c2, .slice ca.a3 C.b.length ca.c3, (D.n 0), (D.n 1), (D.n 2), (D.n 3), (D.n 4), .slice da.a1 D.q.length da.c1, .slice da.a2 D.l.length da.c2, .slice da.a3 D.b.length da.c3, (E.n 0), (E.n 1), (E.n 2), (E.n 3), (E.n 4), .slice ea.a1 E.q.length ea.c1, .slice ea.a2 E.l.length ea.c2, .slice ea.a3 E.b.length ea.c3] 36))
 go_upto_region 10 with fail
 generalize (w6.alloc (.cells #[(C.n 0), (C.n 1), (C.n 2), (C.n 3), (C.n 4), .slice ca.a1 C.q.length ca.c1, .slice ca.a2 C.l.length ca.c2, .slice ca.a3 C.b.length ca.c3, (D.n 0), (D.n 1), (D.n 2), (D.n 3), (D.n 4), .slice da.a1 D.q.length da.c1, .slice da.a2 D.l.length da.c2, .slice da.a3 D.b.length da.c3, (E.n 0), (E.n 1), (E.n 2), (E.n 3), (E.n 4), .slice ea.a1 E.q.length ea.c1, .slice ea.a2 E.l.length ea.c2, .slice ea.a3 E.b.length ea.c3] 36)) = W7 at *
 generalize w6.heap.size = bA at *
 have HW0 := lh (fun V (hV : Below W7.heap.size W7 V) => show Below w.heap.size w V from HWW.out V (H05.out V (HB7.out.trans (hV.mono HB7.out.size))))
 have HXX := lh (show ∀ k, k < 3 -> ∃ (X : CdV) (ya : CdA), G X /\ CdK X ya W7 /\ ∀ V, Below W7.heap.size W7 V -> (fun w' => w'.cell? ⟨bA, k * 8, none⟩ = some (.int .i64 (X.n 0)) /\ w'.cell? ⟨bA, k * 8 + 1, none⟩ = some (.int .i64 (X.n 1)) /\ w'.cell? ⟨bA, k * 8 + 2, none⟩ = some (.int .i64 (X.n 2)) /\ w'.cell? ⟨bA, k * 8 + 3, none⟩ = some (.int .i64 (X.n 3)) /\ w'.cell? ⟨bA, k * 8 + 4, none⟩ = some (.int .i64 (X.n 4)) /\ w'.cell? ⟨bA, k * 8 + 5, none⟩ = some (.slice ya.a1 X.q.length ya.c1) /\ w'.cell? ⟨bA, k * 8 + 6, none⟩ = some (.slice ya.a2 X.l.length ya.c2) /\ w'.cell? ⟨bA, k * 8 + 7, none⟩ = some (.slice ya.a3 X.b.length ya.c3)) V from fun k hk => by
  have hc := fun V (hV : Below W7.heap.size W7 V) => kcel ((hV.block _ (Array.getElem?_eq_some_iff.1 hbA).1).trans hbA)
  match k, hk with
  | 0, _ => exact ⟨C, ca, H.out.g01 _ HG0.out, HKC.out _ (H35.out _ HB7.out), fun V hV => ⟨hc V hV 0, hc V hV 1, hc V hV 2, hc V hV 3, hc V hV 4, hc V hV 5, hc V hV 6, hc V hV 7⟩⟩
  | 1, _ => exact ⟨D, da, H.out.g12 _ HG1.out, HKD.out _ HB7.out, fun V hV => ⟨hc V hV 8, hc V hV 9, hc V hV 10, hc V hV 11, hc V hV 12, hc V hV 13, hc V hV 14, hc V hV 15⟩⟩
  | 2, _ => exact ⟨E, ea, HG2.out, hKE, fun V hV => ⟨hc V hV 16, hc V hV 17, hc V hV 18, hc V hV 19, hc V hV 20, hc V hV 21, hc V hV 22, hc V hV 23⟩⟩)
 clear hbA hKE HB7 HB6 HK6 HS8 HKD HKC H8 HB5 HB3 HG0 HG1 HG2 H35 H05 HC HWW HB1 HB0
 go_loopw [11] (fun i wr => ∃ k : Nat, k <= 3 /\ i = .int .i64 k /\ Hid (Below W7.heap.size W7 wr)) (fun i _ => 3 - (intOf i).toNat)
 case atStart => exact ⟨0, Nat.zero_le _, rfl, lh (Below.refl _ _)⟩
 case round =>
  as_aux_lemma =>
   obtain ⟨k, hk, rfl, HBr⟩ := hrel
   by_cases hlt : k < 3
   rotate_left
   . obtain rfl : k = 3 := by omega
     go_wp2
     go_ret
     exact ⟨rfl, HW0.out _ HBr.out⟩
   have hki : (k : Int) < 3 := by omega
   obtain ⟨X, ya, hgx, hkx, hsc⟩ := HXX.out k hlt
   have HG := lh hgx
   have HSC := lh hsc
   have HKX := lh (fun V (hV : Below W7.heap.size W7 V) => hkx.on hV)
   clear hgx hkx hsc
   obtain ⟨z, hz⟩ : ∃ z, Z X = z := ⟨_, rfl⟩
   obtain ⟨s, hs⟩ : ∃ s, T X = s := ⟨_, rfl⟩
   have HK1 := lh (fun V (hV : Below W7.heap.size W7 V) => H.out.k1 X ya V HG.out (HKX.out V hV))
   have HK2 := lh (fun V (hV : Below W7.heap.size W7 V) => H.out.k2 X ya V HG.out (HKX.out V hV))
   have HX1 := lh (fun V (hV : Below W7.heap.size W7 V) => H.out.x1 X ya V (HW0.out V hV) HG.out (HKX.out V hV))
   have HX2 := lh (fun V (hV : Below W7.heap.size W7 V) => H.out.x2 X ya V HG.out (HKX.out V hV))
   rw [hz] at HK1 HK2
   rw [hz, hs] at HX1 HX2
   have HZ := lh hz
   clear hz hs
   obtain ⟨y0, y1, y2, y3, y4, y5, y6, y7⟩ := HSC.out _ HBr.out
   go_upto_region 13 with (go_at_call 14; (with_reducible refine (HK1.out _ HBr.out).mono ?_); rintro e w1 ⟨rfl, hb1⟩; have HV1 := lh (HBr.out.trans (hb1.mono HBr.out.size)); clear hb1)
   clear y0 y1 y2 y3 y4 y5 y6 y7
   obtain ⟨y0, y1, y2, y3, y4, y5, y6, y7⟩ := HSC.out _ HV1.out
   go_upto_region 14 with (go_at_call 15; (with_reducible refine (HX1.out _ HV1.out).mono ?_); rintro e w2 ⟨rfl, hb2⟩; have HV2 := lh (HV1.out.trans (hb2.mono HV1.out.size)); clear hb2)
   clear y0 y1 y2 y3 y4 y5 y6 y7
   obtain ⟨y0, y1, y2, y3, y4, y5, y6, y7⟩ := HSC.out _ HV2.out
   go_upto_region 15 with (go_at_call 16; (with_reducible refine (HX2.out _ HV2.out).mono ?_); rintro e w3 ⟨rfl, hb3⟩; have HV3 := lh (HV2.out.trans (hb3.mono HV2.out.size)); clear hb3)
   clear y0 y1 y2 y3 y4 y5 y6 y7
   have hb15 := heap_alloc_new w3 (.cells #[.string s, z] 45)
   have HV4 := lh (HV3.out.alloc HV3.out.size (.cells #[.string s, z] 45))
   generalize (w3.alloc (.cells #[.string s, z] 45)) = V4 at *
   generalize w3.heap.size = b15 at *
   obtain ⟨y0, y1, y2, y3, y4, y5, y6, y7⟩ := HSC.out _ HV4.out
   go_upto_region 17 with (go_at_call 17; (with_reducible refine (HK2.out _ HV4.out).mono ?_); rintro e w5 ⟨rfl, hb5⟩; have HV5 := lh (HV4.out.trans (hb5.mono HV4.out.size)); have k15 := kcel ((hb5.block _ (Array.getElem?_eq_some_iff.1 hb15).1).trans hb15); clear hb5)
   clear y0 y1 y2 y3 y4 y5 y6 y7 k15 hb15
   by_cases hz : z = 0
   rotate_left
   . have hz1 : (z == 0) = false := by simpa using hz
     go_wp2
     go_roundw
     case rel => exact ⟨k + 1, by omega, by go_num, lh HV5.out⟩
     case measure => simp [intOf]; omega
   subst hz
   have HZ0 := lh HZ.out
   go_upto_region 18 with fail
   refine wp_region_held_drew (S := (fun w' => w'.cell? ⟨bA, k * 8, none⟩ = some (.int .i64 (X.n 0)) /\ w'.cell? ⟨bA, k * 8 + 1, none⟩ = some (.int .i64 (X.n 1)) /\ w'.cell? ⟨bA, k * 8 + 2, none⟩ = some (.int .i64 (X.n 2)) /\ w'.cell? ⟨bA, k * 8 + 3, none⟩ = some (.int .i64 (X.n 3)) /\ w'.cell? ⟨bA, k * 8 + 4, none⟩ = some (.int .i64 (X.n 4)) /\ w'.cell? ⟨bA, k * 8 + 5, none⟩ = some (.slice ya.a1 X.q.length ya.c1) /\ w'.cell? ⟨bA, k * 8 + 6, none⟩ = some (.slice ya.a2 X.l.length ya.c2) /\ w'.cell? ⟨bA, k * 8 + 7, none⟩ = some (.slice ya.a3 X.b.length ya.c3))) (by kernel_rfl) ?_ (fun hHeld => ?_)
   . (try dsimp only); exact HSC.out _ (below_dr HV5.out)
   refine tk 0 ?_
   refine tk 1 ?_
   refine tk 2 ?_
   refine tk 3 ?_
   refine tk 5 ?_
   refine tk 6 ?_
   refine tk 7 ?_
   refine tk 8 ?_
   refine an 4 (fun K hK => ?_)
   go_simp
   (go_at_call 19; (with_reducible refine (H.out.r1 X ya _ HG.out HZ0.out (HKX.out _ (below_dr HV5.out))).mono ?_); rintro e w6 ⟨g1, rfl, hr1, hb6⟩; have HR1 := lh hr1; have HV6 := lh ((below_dr HV5.out).trans (hb6.mono (below_dr HV5.out).size)); clear hb6 hr1)
   try go_wp2_with fail
   refine hK.out _ _ ?_ (fun hHeld => ?_)
   . (try dsimp only); exact HSC.out _ HV6.out
   clear hK K
   try simp only [pe]
   refine an 9 (fun K hK => ?_)
   go_simp
   (go_at_call 20; (with_reducible refine (H.out.r2 X ya _ HG.out HZ0.out (HKX.out _ HV6.out)).mono ?_); rintro e w7 ⟨g2, rfl, hr2, hb7⟩; have HR2 := lh hr2; have HR3 := lh (HR1.out.of_block (hb7.block _ HR1.out.lt)); have HV7 := lh (HV6.out.trans (hb7.mono HV6.out.size)); clear hb7 hr2)
   try go_wp2_with fail
   refine hK.out _ _ ?_ (fun hHeld => ?_)
   . (try dsimp only); exact HSC.out _ HV7.out
   clear hK K
   try simp only [pe]
   refine an 10 (fun K hK => ?_)
   go_simp
   (go_at_call 18; (with_reducible refine (H.out.r3 X g1 g2 _ HG.out HR3.out HR2.out).mono ?_); rintro e w8 ⟨rfl, hb8⟩; have HV8 := lh (HV7.out.trans (hb8.mono HV7.out.size)); clear hb8)
   try go_wp2_with fail
   refine hK.out _ _ ?_ (fun hHeld => ?_)
   . (try dsimp only); exact HSC.out _ HV8.out
   clear hK K
   try simp only [pe]
   refine tk 11 ?_
   refine wpAnyH_done (by kernel_rfl) ?_ _
   clear hHeld
   go_upto_region 21 with fail
   obtain ⟨nb, hnb⟩ : ∃ nb, X.b.length = nb := ⟨_, rfl⟩
   have hnbs : nb <= 65536 := by rw [<- hnb]; exact (H.out.sz X HG.out).1
   have HIL := lh (H.out.sz X HG.out).2
   have HBL := lh (fun V (hV : Below W7.heap.size W7 V) => (HKX.out V hV).mem.blocks)
   have HIN := lh (fun V (hV : Below W7.heap.size W7 V) => (HKX.out V hV).mem.insts)
   have HS2 := lh (fun j V (hj : j < nb) => H.out.s2 X j V HG.out HZ0.out (by rw [hnb]; exact hj))
   rw [hnb] at HSC HBL HIN
   clear hnb
   obtain ⟨wo, rfl⟩ : ∃ wo : World, wo = wr := ⟨_, rfl⟩
   go_loopw [16] (fun i wr => ∃ j : Nat, j <= nb /\ i = .int .i64 j /\ Hid (Below W7.heap.size W7 wr)) (fun i _ => nb - (intOf i).toNat)
   case atStart => exact ⟨0, Nat.zero_le _, rfl, HV8⟩
   case round =>
    as_aux_lemma =>
     obtain ⟨j, hj, rfl, HBj⟩ := hrel
     obtain ⟨y0, y1, y2, y3, y4, y5, y6, y7⟩ := HSC.out _ HBj.out
     by_cases hjl : j < nb
     rotate_left
     . obtain rfl : j = nb := by omega
       go_wp2
       go_roundw
       case rel => exact ⟨k + 1, by omega, by go_num, lh HBj.out⟩
       case measure => simp [intOf]; omega
     have hji : (j : Int) < (nb : Int) := by omega
     obtain ⟨b3, o3, hA3, hb3, hcells⟩ := HBL.out _ HBj.out (by omega)
     obtain ⟨m0, m1, m2, m3, m4, m5, m6, m7, m8, m9, m10, m11, m12, m13⟩ := hcells j hjl
     rw [hA3] at y7
     have HS2j := lh (fun V => HS2.out j V hjl)
     obtain ⟨t, ht⟩ : ∃ t, X.te j = t := ⟨_, rfl⟩
     rw [ht] at m1 m2 m3 m4 m5 m6 m7 m8 m9 m10 m11 m12 m13 HS2j
     clear hA3 hb3 hcells m0 ht
     go_upto_region 24 with fail
     clear y0 y1 y2 y3 y4 y5 y6 y7 m1 m2 m3 m4 m5 m6 m7 m8 m9 m10 m11 m12 m13
     have hb17 := heap_alloc_new wr (.cells #[t.kind, t.sub, t.d.k, t.d.n, .int .i32 t.d.v, t.a.k, t.a.n, .int .i32 t.a.v, t.b.k, t.b.n, .int .i32 t.b.v, t.t0, t.t1] 53)
     have HUz := lh (HBj.out.alloc HBj.out.size (.cells #[t.kind, t.sub, t.d.k, t.d.n, .int .i32 t.d.v, t.a.k, t.a.n, .int .i32 t.a.v, t.b.k, t.b.n, .int .i32 t.b.v, t.t0, t.t1] 53))
     generalize (wr.alloc (.cells #[t.kind, t.sub, t.d.k, t.d.n, .int .i32 t.d.v, t.a.k, t.a.n, .int .i32 t.a.v, t.b.k, t.b.n, .int .i32 t.b.v, t.t0, t.t1] 53)) = V1z at *
     generalize wr.heap.size = b17 at *
     have HT17 := lh (fun V (hV : Below V1z.heap.size V1z V) => show ∀ o, V.cell? ⟨b17, o, none⟩ = (#[t.kind, t.sub, t.d.k, t.d.n, .int .i32 t.d.v, t.a.k, t.a.n, .int .i32 t.a.v, t.b.k, t.b.n, .int .i32 t.b.v, t.t0, t.t1] : Array Value)[o]? from kcel ((hV.block _ (Array.getElem?_eq_some_iff.1 hb17).1).trans hb17))
     have HU0 := lh (below_dr (Below.refl V1z.heap.size V1z))
     clear hb17
     refine wp_region_held_drew (S := (fun w' => ∀ o, w'.cell? ⟨b17, o, none⟩ = (#[t.kind, t.sub, t.d.k, t.d.n, .int .i32 t.d.v, t.a.k, t.a.n, .int .i32 t.a.v, t.b.k, t.b.n, .int .i32 t.b.v, t.t0, t.t1] : Array Value)[o]?)) (by kernel_rfl) ?_ (fun hHeld => ?_)
     . (try dsimp only); exact HT17.out _ HU0.out
     refine tk 0 ?_
     refine tk 2 ?_
     refine an 1 (fun K hK => ?_)
     go_simp
     (go_at_call 22; (with_reducible refine (H.out.s1 t _).mono ?_); rintro e w11 ⟨v1, rfl, hs, hb⟩; have V1 := lh hs; have HU11 := lh (HU0.out.trans (hb.mono HU0.out.size)); clear hb hs)
     try go_wp2_with fail
     refine hK.out _ _ ?_ (fun hHeld => ?_)
     . (try dsimp only); exact HT17.out _ HU11.out
     clear hK K
     try simp only [pe]
     refine an 3 (fun K hK => ?_)
     go_simp
     (go_at_call 23; (with_reducible refine (HS2j.out _).mono ?_); rintro e w12 ⟨v2, rfl, hs, hb⟩; have V2 := lh hs; have V1b := lh (V1.out.on hb); have HU12 := lh (HU11.out.trans (hb.mono HU11.out.size)); clear hb hs)
     try go_wp2_with fail
     refine hK.out _ _ ?_ (fun hHeld => ?_)
     . (try dsimp only); exact HT17.out _ HU12.out
     clear hK K
     try simp only [pe]
     refine an 4 (fun K hK => ?_)
     go_simp
     (go_at_call 21; (with_reducible refine (H.out.si _ _ _ _ V1b.out V2.out).mono ?_); rintro e w13 ⟨rfl, hb⟩; have HU13 := lh (HU12.out.trans (hb.mono HU12.out.size)); clear hb)
     try go_wp2_with fail
     refine hK.out _ _ ?_ (fun hHeld => ?_)
     . (try dsimp only); exact HT17.out _ HU13.out
     clear hK K
     try simp only [pe]
     refine tk 5 ?_
     refine tk 6 ?_
     refine tk 7 ?_
     refine tk 9 ?_
     refine an 8 (fun K hK => ?_)
     go_simp
     (go_at_call 24; (with_reducible refine (H.out.u1 t _).mono ?_); rintro e w14 ⟨v3, rfl, hs, hb⟩; have V3 := lh hs; have HU14 := lh (HU13.out.trans (hb.mono HU13.out.size)); clear hb hs)
     try go_wp2_with fail
     refine hK.out _ _ ?_ (fun hHeld => ?_)
     . (try dsimp only); exact HT17.out _ HU14.out
     clear hK K
     try simp only [pe]
     refine an 10 (fun K hK => ?_)
     go_simp
     (go_at_call 25; (with_reducible refine (H.out.u2 t _).mono ?_); rintro e w15 ⟨v4, rfl, hs, hb⟩; have V4 := lh hs; have V3b := lh (V3.out.on hb); have HU15 := lh (HU14.out.trans (hb.mono HU14.out.size)); clear hb hs)
     try go_wp2_with fail
     refine hK.out _ _ ?_ (fun hHeld => ?_)
     . (try dsimp only); exact HT17.out _ HU15.out
     clear hK K
     try simp only [pe]
     refine an 11 (fun K hK => ?_)
     go_simp
     (go_at_call 21; (with_reducible refine (H.out.si _ _ _ _ V3b.out V4.out).mono ?_); rintro e w16 ⟨rfl, hb⟩; have HU16 := lh (HU15.out.trans (hb.mono HU15.out.size)); clear hb)
     try go_wp2_with fail
     refine hK.out _ _ ?_ (fun hHeld => ?_)
     . (try dsimp only); exact HT17.out _ HU16.out
     clear hK K
     try simp only [pe]
     refine tk 12 ?_
     refine tk 13 ?_
     refine tk 14 ?_
     refine tk 15 ?_
     refine tk 17 ?_
     refine an 16 (fun K hK => ?_)
     go_simp
     (go_at_call 26; (with_reducible refine (H.out.d1 t _).mono ?_); rintro e w17 ⟨rfl, hb⟩; have HU17 := lh (HU16.out.trans (hb.mono HU16.out.size)); clear hb)
     try go_wp2_with fail
     refine hK.out _ _ ?_ (fun hHeld => ?_)
     . (try dsimp only); exact HT17.out _ HU17.out
     clear hK K
     try simp only [pe]
     refine an 18 (fun K hK => ?_)
     go_simp
     (go_at_call 27; (with_reducible refine (H.out.d2 t _).mono ?_); rintro e w18 ⟨rfl, hb⟩; have HU18 := lh (HU17.out.trans (hb.mono HU17.out.size)); clear hb)
     try go_wp2_with fail
     refine hK.out _ _ ?_ (fun hHeld => ?_)
     . (try dsimp only); exact HT17.out _ HU18.out
     clear hK K
     try simp only [pe]
     refine tk 19 ?_
     refine tk 20 ?_
     refine wpAnyH_done (by kernel_rfl) ?_ _
     clear hHeld
     have HBk := lh (HUz.out.trans (HU18.out.mono HUz.out.size))
     go_upto_region 27 with fail
     clear HU0 HU11 HU12 HU13 HU14 HU15 HU16 HU17 HU18 HUz HT17 V1 V1b V2 V3 V3b V4 HS2j
     obtain ⟨nI, hnI⟩ : ∃ n, X.il j = n := ⟨_, rfl⟩
     have hnIs : nI <= 65536 := by rw [<- hnI]; exact HIL.out j
     have HBLj := lh (fun V hV => HBL.out V hV (by omega))
     have HINj := lh (fun V hV => HIN.out V hV j hjl)
     rw [hnI] at HINj
     have HNI := lh hnI
     clear hnI
     obtain ⟨wo2, rfl⟩ : ∃ wo : World, wo = wr := ⟨_, rfl⟩
     go_loopw [18] (fun i wr => ∃ m : Nat, m <= nI /\ i = .int .i64 m /\ Hid (Below W7.heap.size W7 wr)) (fun i _ => nI - (intOf i).toNat)
     case atStart => exact ⟨0, Nat.zero_le _, rfl, HBk⟩
     case round =>
      as_aux_lemma =>
       obtain ⟨m, hm, rfl, HBm⟩ := hrel
       obtain ⟨y0, y1, y2, y3, y4, y5, y6, y7⟩ := HSC.out _ HBm.out
       obtain ⟨b3, o3, hA3, hb3, hcells⟩ := HBLj.out _ HBm.out
       have m0 := (hcells j hjl).1
       rw [hA3] at y7
       rw [HNI.out] at m0
       clear hA3 hb3 hcells
       by_cases hml : m < nI
       rotate_left
       . obtain rfl : m = nI := by omega
         go_wp2
         go_roundw
         case rel => exact ⟨j + 1, by omega, by go_num, lh HBm.out⟩
         case measure => simp [intOf]; omega
       have hmi : (m : Int) < (nI : Int) := by omega
       obtain ⟨bi, oi, hAi, hbi, hic⟩ := HINj.out _ HBm.out (by omega)
       obtain ⟨n0, n1, n2, n3, n4, n5, n6, n7, n8, n9, n10, n11, n12, n13, n14⟩ := hic m hml
       rw [hAi] at m0
       obtain ⟨iv, hiv⟩ : ∃ i, X.is j m = i := ⟨_, rfl⟩
       rw [hiv] at n0 n1 n2 n3 n4 n5 n6 n7 n8 n9 n10 n11 n12 n13 n14
       clear hAi hbi hic hiv
       go_upto_region 30 with fail
       clear y0 y1 y2 y3 y4 y5 y6 y7 m0 n0 n1 n2 n3 n4 n5 n6 n7 n8 n9 n10 n11 n12 n13 n14
       have hb19 := heap_alloc_new wr (.cells #[iv.op, iv.sub, iv.n, iv.d.k, iv.d.n, .int .i32 iv.d.v, iv.a.k, iv.a.n, .int .i32 iv.a.v, iv.b.k, iv.b.n, .int .i32 iv.b.v, iv.c.k, iv.c.n, .int .i32 iv.c.v] 61)
       have HYz := lh (HBm.out.alloc HBm.out.size (.cells #[iv.op, iv.sub, iv.n, iv.d.k, iv.d.n, .int .i32 iv.d.v, iv.a.k, iv.a.n, .int .i32 iv.a.v, iv.b.k, iv.b.n, .int .i32 iv.b.v, iv.c.k, iv.c.n, .int .i32 iv.c.v] 61))
       generalize (wr.alloc (.cells #[iv.op, iv.sub, iv.n, iv.d.k, iv.d.n, .int .i32 iv.d.v, iv.a.k, iv.a.n, .int .i32 iv.a.v, iv.b.k, iv.b.n, .int .i32 iv.b.v, iv.c.k, iv.c.n, .int .i32 iv.c.v] 61)) = V2z at *
       generalize wr.heap.size = b19 at *
       have HT19 := lh (fun V (hV : Below V2z.heap.size V2z V) => show ∀ o, V.cell? ⟨b19, o, none⟩ = (#[iv.op, iv.sub, iv.n, iv.d.k, iv.d.n, .int .i32 iv.d.v, iv.a.k, iv.a.n, .int .i32 iv.a.v, iv.b.k, iv.b.n, .int .i32 iv.b.v, iv.c.k, iv.c.n, .int .i32 iv.c.v] : Array Value)[o]? from kcel ((hV.block _ (Array.getElem?_eq_some_iff.1 hb19).1).trans hb19))
       have HY0 := lh (below_dr (Below.refl V2z.heap.size V2z))
       clear hb19
       refine wp_region_held_drew (S := (fun w' => ∀ o, w'.cell? ⟨b19, o, none⟩ = (#[iv.op, iv.sub, iv.n, iv.d.k, iv.d.n, .int .i32 iv.d.v, iv.a.k, iv.a.n, .int .i32 iv.a.v, iv.b.k, iv.b.n, .int .i32 iv.b.v, iv.c.k, iv.c.n, .int .i32 iv.c.v] : Array Value)[o]?)) (by kernel_rfl) ?_ (fun hHeld => ?_)
       . (try dsimp only); exact HT19.out _ HY0.out
       refine tk 0 ?_
       refine tk 2 ?_
       refine an 1 (fun K hK => ?_)
       go_simp
       (go_at_call 28; (with_reducible refine (H.out.i1 iv _).mono ?_); rintro e w21 ⟨v5, rfl, hs, hb⟩; have V5 := lh hs; have HY1 := lh (HY0.out.trans (hb.mono HY0.out.size)); clear hb hs)
       try go_wp2_with fail
       refine hK.out _ _ ?_ (fun hHeld => ?_)
       . (try dsimp only); exact HT19.out _ HY1.out
       clear hK K
       try simp only [pe]
       refine an 3 (fun K hK => ?_)
       go_simp
       (go_at_call 29; (with_reducible refine (H.out.i2 iv _).mono ?_); rintro e w22 ⟨v6, rfl, hs, hb⟩; have V6 := lh hs; have V5b := lh (V5.out.on hb); have HY2 := lh (HY1.out.trans (hb.mono HY1.out.size)); clear hb hs)
       try go_wp2_with fail
       refine hK.out _ _ ?_ (fun hHeld => ?_)
       . (try dsimp only); exact HT19.out _ HY2.out
       clear hK K
       try simp only [pe]
       refine an 4 (fun K hK => ?_)
       go_simp
       (go_at_call 21; (with_reducible refine (H.out.si _ _ _ _ V5b.out V6.out).mono ?_); rintro e w23 ⟨rfl, hb⟩; have HY3 := lh (HY2.out.trans (hb.mono HY2.out.size)); clear hb)
       try go_wp2_with fail
       refine hK.out _ _ ?_ (fun hHeld => ?_)
       . (try dsimp only); exact HT19.out _ HY3.out
       clear hK K
       try simp only [pe]
       refine tk 5 ?_
       refine tk 6 ?_
       refine tk 7 ?_
       refine tk 9 ?_
       refine an 8 (fun K hK => ?_)
       go_simp
       (go_at_call 30; (with_reducible refine (H.out.e1 iv _).mono ?_); rintro e w24 ⟨rfl, hb⟩; have HY4 := lh (HY3.out.trans (hb.mono HY3.out.size)); clear hb)
       try go_wp2_with fail
       refine hK.out _ _ ?_ (fun hHeld => ?_)
       . (try dsimp only); exact HT19.out _ HY4.out
       clear hK K
       try simp only [pe]
       refine an 10 (fun K hK => ?_)
       go_simp
       (go_at_call 31; (with_reducible refine (H.out.e2 iv _).mono ?_); rintro e w25 ⟨rfl, hb⟩; have HY5 := lh (HY4.out.trans (hb.mono HY4.out.size)); clear hb)
       try go_wp2_with fail
       refine hK.out _ _ ?_ (fun hHeld => ?_)
       . (try dsimp only); exact HT19.out _ HY5.out
       clear hK K
       try simp only [pe]
       refine tk 11 ?_
       refine tk 12 ?_
       refine wpAnyH_done (by kernel_rfl) ?_ _
       clear hHeld
       have HBn := lh (HYz.out.trans (HY5.out.mono HYz.out.size))
       go_wp2
       go_roundw
       case rel => exact ⟨m + 1, by omega, by go_num, HBn⟩
       case measure => simp [intOf]; omega
end Go.Proofs.YtkncilgmlkeifaaGreatDoor
