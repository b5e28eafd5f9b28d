import Derived.Test.YtkncilgmlkeifaaGreatDoorWrp
import Derived.Test.YtkncilgmlkeifaaGreatDoorRci
/-
  The reference's writer: the contract of TextIn.
-/
set_option linter.unusedVariables false
set_option linter.unusedSimpArgs false
set_option maxRecDepth 100000
set_option maxHeartbeats 16000000
namespace Go.Proofs.YtkncilgmlkeifaaGreatDoor
open Go.ChangeShapes Go.WideShapes Go.ChangeAt Go.RowKit Go.Shelf
def TI (c : CdV) (a : CdA) (w W : World) : Prop := OneK (w.alloc (.cells #[(c.n 0), (c.n 1), (c.n 2), (c.n 3), (c.n 4), .slice a.a1 c.q.length a.c1, .slice a.a2 c.l.length a.c2, .slice a.a3 c.b.length a.c3] 36)) 45 #[.string ⟨#[]⟩, (0:Int)] W
def cdK (c : CdV) (a : CdA) : Array Value := #[(c.n 0), (c.n 1), (c.n 2), (c.n 3), (c.n 4), .slice a.a1 c.q.length a.c1, .slice a.a2 c.l.length a.c2, .slice a.a3 c.b.length a.c3]
section
variable {c : CdV} {a : CdA} {w W W' : World}
theorem TI.below (h : TI c a w W) : Below w.heap.size w W :=
 (bo _).trans ((OneK.below h).mono (by simp))
theorem TI.size (h : TI c a w W) : w.heap.size + 2 <= W.heap.size := by
 have := OneK.size h
 simp only [World.size_alloc] at this
 omega
theorem TI.step (h : TI c a w W) (hb : Below W.heap.size W W') : TI c a w W' := OneK.step h hb
theorem TI.new (h : TI c a w W) (o : Obj) : TI c a w (W.alloc o) := OneK.step h (bo _)
theorem TI.drew (h : TI c a w W) : TI c a w W.drew := OneK.drew h
theorem TI.ck (h : TI c a w W) (o : Nat) : W.cell? ⟨w.heap.size, o, none⟩ = (cdK c a)[o]? := by
 rw [(OneK.below h).cell (p := ⟨w.heap.size, o, none⟩) (by simp), World.cell?_alloc_at _ _ _ _ rfl]
 rfl
theorem TI.zk (h : TI c a w W) (o : Nat) : W.cell? ⟨w.heap.size + 1, o, none⟩ = (#[.string ⟨#[]⟩, (0:Int)] : Array Value)[o]? := by
 have := OneK.ck h o
 rwa [World.size_alloc] at this
theorem TI.zf (h : TI c a w W) (o : Nat) : W.frozen? ⟨w.heap.size + 1, o, none⟩ = false := by
 have := OneK.free h o
 rwa [World.size_alloc] at this
end
theorem below_drewT {B : Nat} {w W : World} (h : Below B w W) : Below B w W.drew := ⟨h.os, h.tape, h.output, h.size, h.block⟩
theorem ri3 (W : World) (x y z : Int) (b : Nat) (hb : b = W.heap.size) : RI (W.alloc (.cells #[x, y, z] 3)).drew (W.alloc (.cells #[x, y, z] 3)).drew.heap.size (some ⟨b, 0, none⟩) 3 (f3 x y z) := fun _ => by
 subst hb
 refine ⟨W.heap.size, 0, rfl, by show W.heap.size < (W.alloc _).heap.size; simp, fun j hj => ?_⟩
 show (W.alloc _).cell? _ = _
 have hj3 : j = 0 \/ j = 1 \/ j = 2 := by omega
 rcases hj3 with rfl | rfl | rfl <;> simp [f3]
theorem ri5 (W : World) (x y z u v : Int) (b : Nat) (hb : b = W.heap.size) : RI (W.alloc (.cells #[x, y, z, u, v] 3)) (W.alloc (.cells #[x, y, z, u, v] 3)).heap.size (some ⟨b, 0, none⟩) 5 (f5 x y z u v) := fun _ => by
 subst hb
 refine ⟨W.heap.size, 0, rfl, by simp, fun j hj => ?_⟩
 have hj3 : j = 0 \/ j = 1 \/ j = 2 \/ j = 3 \/ j = 4 := by omega
 rcases hj3 with rfl | rfl | rfl | rfl | rfl <;> simp [f5]
theorem TextIn_no (c : CdV) (a : CdA) (w : World) (h : CdM c a w) (hf : c.Fits) (hz : chkC c ≠ 0) :
 Calls Tryz.prog 16 #[cdval c a] w fun e w' => e = .returned (.agg #[.string ⟨#[]⟩, (chkC c)]) /\ Below w.heap.size w w' := by
 have HK := lh (show TI c a w ((w.alloc (.cells (cdK c a) 36)).alloc (.cells #[.string ⟨#[]⟩, (0:Int)] 45)) from OneK.start)
 have HC := lh (fun (W : World) (hW : TI c a w W) => Check_rc c a W (h.on hW.below) hf)
 obtain ⟨z, hz'⟩ : ∃ z, chkC c = z := ⟨_, rfl⟩
 rw [hz'] at HC hz ⊢
 have hzn : (z != 0) = true := by simpa using hz
 clear hz hz' h
 unfold cdval at HC ⊢
 unfold cdK at HK
 go_enter Tryz.func16, Tryz.ntmps16
 go_wp2_with (first | (go_at_call 14; (with_reducible refine (HC.out _ HK.out).mono ?_); rintro e w1 ⟨rfl, hb1⟩; have HK1 := lh (HK.out.step hb1); clear hb1; have zk := HK1.out.zk; have zf := HK1.out.zf))
 refine bodyPost_ret (v := .agg #[.string ⟨#[]⟩, z]) (by simp [results, Tryz.results16, go_sem, zk]) rfl ⟨rfl, (HK1.out.below.setCell (by simp) _).setCell (by simp) _⟩
def arrF (c : CdV) (j : Nat) : List UInt8 := arrT (c.nm j) (c.sp j) (c.ty j) (c.ln j)
def lopF (c : CdV) (j : Nat) : List UInt8 := loopT (c.hd j) (c.rg j) (c.bd j)
def blkF (c : CdV) (j : Nat) : List UInt8 := blockT (c.il j) (c.is j) (c.te j)
def hedF (c : CdV) : List UInt8 := headT (c.n 0) (c.n 1) (c.n 2) (c.n 3) (c.n 4)
def txt1 (c : CdV) (k : Nat) : List UInt8 := hedF c ++ catT (arrF c) k
def txt2 (c : CdV) (k : Nat) : List UInt8 := txt1 c c.q.length ++ catT (lopF c) k
def txt3 (c : CdV) (k : Nat) : List UInt8 := txt2 c c.l.length ++ catT (blkF c) k
def txt4 (c : CdV) (j k : Nat) : List UInt8 := txt3 c j ++ ([98, 108, 111, 99, 107, 10] ++ instsT (c.is j) k)
theorem txt3_all (c : CdV) : txt3 c c.b.length = txtC c := rfl
structure TxOk (c : CdV) : Prop where
 nums : ∀ j, I64 (f5 (c.n 0) (c.n 1) (c.n 2) (c.n 3) (c.n 4) j)
 arr : ∀ j, j < c.q.length -> ∀ i, I64 (f3 (c.sp j) (c.ty j) (c.ln j) i)
 nm : ∀ j, j < c.q.length -> (c.nm j).size <= 12
 lop : ∀ j, j < c.l.length -> ∀ i, I64 (f3 (c.hd j) (c.rg j) (c.bd j) i)
 op : ∀ j, j < c.b.length -> ∀ k, k < c.il j -> (1 <= (c.is j k).op /\ (c.is j k).op <= 12) /\ (c.is j k).parts.Rng /\ lineS (c.is j k) = instT (c.is j k)
 te : ∀ j, j < c.b.length -> (c.te j).parts.Rng /\ endS (c.te j) = endT (c.te j)
 l1 : ∀ k, k <= c.q.length -> (txt1 c k).length <= 100000000000
 l2 : ∀ k, k <= c.l.length -> (txt2 c k).length <= 100000000000
 l3 : ∀ k, k <= c.b.length -> (txt3 c k).length <= 100000000000
 l4 : ∀ j, j < c.b.length -> ∀ k, k <= c.il j -> (txt4 c j k).length <= 200000000000
theorem TextIn_ok (c : CdV) (a : CdA) (w : World) (h : CdM c a w) (hf : c.Fits) (hz : chkC c = 0) (hx : TxOk c) :
 Calls Tryz.prog 16 #[cdval c a] w fun e w' => e = .returned (.agg #[.string ⟨(txtC c).toArray⟩, (0:Int)]) /\ Below w.heap.size w w' := by
 have HK := lh (show TI c a w ((w.alloc (.cells (cdK c a) 36)).alloc (.cells #[.string ⟨#[]⟩, (0:Int)] 45)) from OneK.start)
 have HC := lh (fun (W : World) (hW : TI c a w W) => Check_rc c a W (h.on hW.below) hf)
 rw [hz] at HC
 have HM := lh (fun (W : World) (hW : TI c a w W) => h.on hW.below)
 have HX := lh hx
 have HN5 := lh (fun (W : World) (b : Nat) (hb : b = W.heap.size) => numbers_any (some ⟨b, 0, none⟩) 5 5 (f5 (c.n 0) (c.n 1) (c.n 2) (c.n 3) (c.n 4)) (W.alloc (.cells #[(c.n 0), (c.n 1), (c.n 2), (c.n 3), (c.n 4)] 3)) (by decide) (ri5 W (c.n 0) (c.n 1) (c.n 2) (c.n 3) (c.n 4) b hb) (fun j _ => hx.nums j))
 have hl5 := numsT_len (n := 5) (fun j _ => hx.nums j) 5 (Nat.le_refl _)
 obtain ⟨N5, hN5⟩ : ∃ N, numsT (f5 (c.n 0) (c.n 1) (c.n 2) (c.n 3) (c.n 4)) 5 = N := ⟨_, rfl⟩
 have HH := lh (show hedF c = [99, 111, 100, 101] ++ N5 ++ [10] by unfold hedF headT; rw [hN5])
 rw [hN5] at HN5 hl5
 have r1 : ¬ 9223372036854775807 < 4 + N5.length := by omega
 have r2 : ¬ 9223372036854775807 < 4 + N5.length + 1 := by omega
 have f1 := hf.1
 have f2 := hf.2.1
 have f3' := hf.2.2
 clear h hz hx hN5 hl5
 unfold cdval at HC ⊢
 have HKu := HK
 unfold cdK at HKu
 go_enter Tryz.func16, Tryz.ntmps16
 go_wp2_with (first
  | (go_at_call 14; (with_reducible refine (HC.out _ HKu.out).mono ?_); rintro e w1 ⟨rfl, hb1⟩; have HK1 := lh (HKu.out.step hb1); clear hb1; have kc := HK1.out.ck; unfold cdK at kc)
  | (go_at_call 51; (with_reducible refine (HN5.out _ _ rfl).mono ?_); rintro e w2 ⟨rfl, hb2⟩; have HK2 := lh ((HK1.out.new _).step hb2); clear hb2 kc))
 clear HC HK HKu HN5 HK1
 go_loopg [4, 5] c.q.length (fun g z4 z5 wx => ∃ (k : Nat) (X : ByteArray), z4 = .string X /\ z5 = .int .i64 k /\ k + g = c.q.length /\ Hid (X.data.toList = txt1 c k) /\ Hid (TI c a w wx))
 case atStart => exact ⟨0, _, rfl, rfl, by omega, lh (by unfold txt1; rw [HH.out]; simp [catT]), HK2⟩
 case round =>
  obtain ⟨k, X, rfl, rfl, hkg, HXX, HT⟩ := hrel
  have kc := HT.out.ck
  unfold cdK at kc
  cases gk with
  | zero =>
   obtain rfl : k = c.q.length := by omega
   have hk0 : ¬ ((c.q.length : Int) < (c.q.length : Int)) := by omega
   go_wp2
   clear kc
   go_loopg [4, 7] c.l.length (fun g z4 z7 wx => ∃ (k : Nat) (X : ByteArray), z4 = .string X /\ z7 = .int .i64 k /\ k + g = c.l.length /\ Hid (X.data.toList = txt2 c k) /\ Hid (TI c a w wx))
   case atStart => exact ⟨0, _, rfl, rfl, by omega, lh (by rw [HXX.out]; simp [txt2, catT]), HT⟩
   case round =>
    clear HXX HT
    obtain ⟨k, Y, rfl, rfl, hkg2, HXX, HT⟩ := hrel
    have kc := HT.out.ck
    unfold cdK at kc
    cases gk with
    | zero =>
     obtain rfl : k = c.l.length := by omega
     have hk0 : ¬ ((c.l.length : Int) < (c.l.length : Int)) := by omega
     go_wp2
     clear kc
     go_loopg [4, 8] c.b.length (fun g z4 z8 wx => ∃ (k : Nat) (X : ByteArray), z4 = .string X /\ z8 = .int .i64 k /\ k + g = c.b.length /\ Hid (X.data.toList = txt3 c k) /\ Hid (TI c a w wx))
     case atStart => exact ⟨0, _, rfl, rfl, by omega, lh (by rw [HXX.out]; simp [txt3, catT]), HT⟩
     case round =>
      clear HXX HT
      obtain ⟨k, U, rfl, rfl, hkg3, HXX, HT⟩ := hrel
      have kc := HT.out.ck
      unfold cdK at kc
      cases gk with
      | zero =>
       obtain rfl : k = c.b.length := by omega
       have hk0 : ¬ ((c.b.length : Int) < (c.b.length : Int)) := by omega
       have zk := HT.out.zk
       have zf := HT.out.zf
       go_wp2
       refine bodyPost_ret (v := .agg #[.string U, (0:Int)]) (by simp [results, Tryz.results16, go_sem, zk]) rfl ⟨?_, (HT.out.below.setCell (by simp) _).setCell (by simp) _⟩
       rw [<- txt3_all, <- HXX.out]
      | succ g =>
       have hk1 : k < c.b.length := by omega
       have hk2 : (k : Int) < (c.b.length : Int) := by omega
       have hk3 : 0 <= (k : Int) := by omega
       obtain ⟨b1, o1, ea, hb1, hc1⟩ := (HM.out _ HT.out).blocks (by omega)
       have hc1k := hc1 k hk1
       rw [ea] at kc
       clear hc1 ea
       have hxl : U.size + 6 <= 200000000000 := by
        have e : U.size = (txt3 c k).length := by rw [<- HXX.out, Array.length_toList]; rfl
        have := HX.out.l4 k hk1 0 (by omega)
        rw [e]
        simpa [txt4, instsT] using this
       have r1 : ¬ 9223372036854775807 < U.size + 6 := by omega
       clear hxl
       obtain ⟨wo, rfl⟩ : ∃ wo : World, wo = wr := ⟨_, rfl⟩
       have HBC := lh (show ∀ W, Below wo.heap.size wo W -> (∀ o, W.cell? ⟨b1, o, none⟩ = wo.cell? ⟨b1, o, none⟩) from fun W hb o => hb.cell (p := ⟨b1, o, none⟩) hb1)
       have HKC := lh (show ∀ W, Below wo.heap.size wo W -> ∀ o, W.cell? ⟨w.heap.size, o, none⟩ = (#[(c.n 0), (c.n 1), (c.n 2), (c.n 3), (c.n 4), .slice a.a1 c.q.length a.c1, .slice a.a2 c.l.length a.c2, .slice (some ⟨b1, o1, none⟩) c.b.length a.c3] : Array Value)[o]? from fun W hb o => (hb.cell (p := ⟨w.heap.size, o, none⟩) (show w.heap.size < wo.heap.size by have := TI.size HT.out; omega)).trans (kc o))
       have HE := lh (fun W => End_any (c.te k) W (HX.out.te k hk1).1)
       rw [(HX.out.te k hk1).2] at HE
       simp only [TermV.val] at HE
       obtain ⟨m0, m1, m2, m3, m4, m5, m6, m7, m8, m9, m10, m11, m12, m13⟩ := hc1k
       go_wp2
       go_loopg [4, 9] (c.il k) (fun g z4 z9 wx => ∃ (j : Nat) (Y : ByteArray), z4 = .string Y /\ z9 = .int .i64 j /\ j + g = c.il k /\ Hid (Y.data.toList = txt4 c k j) /\ Hid (Below wo.heap.size wo wx))
       case atStart => exact ⟨0, _, rfl, rfl, by omega, lh (by simp [txt4, instsT, HXX.out]), lh (Below.refl _ _)⟩
       case round =>
        obtain ⟨j, Y, rfl, rfl, hjg, HYY, HB⟩ := hrel
        have kd := HKC.out _ HB.out
        have bc := HBC.out _ HB.out
        have HT2 := lh (HT.out.step HB.out)
        have m0' := (bc _).trans m0
        cases gk with
        | zero =>
         obtain rfl : j = c.il k := by omega
         have hj0 : ¬ ((c.il k : Int) < (c.il k : Int)) := by omega
         have m1' := (bc _).trans m1
         have m2' := (bc _).trans m2
         have m3' := (bc _).trans m3
         have m4' := (bc _).trans m4
         have m5' := (bc _).trans m5
         have m6' := (bc _).trans m6
         have m7' := (bc _).trans m7
         have m8' := (bc _).trans m8
         have m9' := (bc _).trans m9
         have m10' := (bc _).trans m10
         have m11' := (bc _).trans m11
         have m12' := (bc _).trans m12
         have m13' := (bc _).trans m13
         have HL := lh (show txt3 c (k + 1) = txt4 c k (c.il k) ++ endT (c.te k) by simp [txt3, txt4, catT, blkF, blockT])
         have hyl : Y.size + (endT (c.te k)).length <= 200000000000 := by
          have e : Y.size = (txt4 c k (c.il k)).length := by rw [<- HYY.out, Array.length_toList]; rfl
          have := HX.out.l3 (k + 1) (by omega)
          rw [HL.out, List.length_append] at this
          rw [e]
          omega
         have r2 : ¬ 9223372036854775807 < Y.size + (endT (c.te k)).length := by omega
         clear hyl m1 m2 m3 m4 m5 m6 m7 m8 m9 m10 m11 m12 m13 bc
         go_wp2_with (first | (go_at_call 53; (with_reducible refine (HE.out _).mono ?_); rintro e w3 ⟨rfl, hb3⟩; have HT3 := lh (HT2.out.step hb3); clear hb3))
         go_roundg g
         case measure => omega
         case rel => exact ⟨k + 1, _, rfl, by go_num, by omega, lh (by rw [HL.out, toN_bs, HYY.out]), HT3⟩
        | succ g2 =>
         have hj1 : j < c.il k := by omega
         have hj2 : (j : Int) < (c.il k : Int) := by omega
         have hj3 : 0 <= (j : Int) := by omega
         have hil := (HM.out _ HT2.out).lens k hk1
         obtain ⟨b2, o2, eb, hb2, hc2⟩ := ((HM.out _ HT2.out).insts k hk1) (by omega)
         obtain ⟨_, _, _, _, _, _, _, _, _, _, _, _, _, _, _⟩ := hc2 j hj1
         rw [eb] at m0'
         clear hc2 eb
         have HL := lh (show txt4 c k (j + 1) = txt4 c k j ++ lineS (c.is k j) by rw [(HX.out.op k hk1 j hj1).2.2]; simp [txt4, instsT])
         have HE2 := lh (fun W => Line_any (c.is k j) W (HX.out.op k hk1 j hj1).2.1 (HX.out.op k hk1 j hj1).1)
         simp only [InstV.val] at HE2
         have hyl : Y.size + (lineS (c.is k j)).length <= 200000000000 := by
          have e : Y.size = (txt4 c k j).length := by rw [<- HYY.out, Array.length_toList]; rfl
          have := HX.out.l4 k hk1 (j + 1) (by omega)
          rw [HL.out, List.length_append] at this
          rw [e]
          omega
         have r2 : ¬ 9223372036854775807 < Y.size + (lineS (c.is k j)).length := by omega
         clear hyl m0 m1 m2 m3 m4 m5 m6 m7 m8 m9 m10 m11 m12 m13 bc HE
         obtain ⟨wp, rfl⟩ : ∃ wp : World, wp = wr := ⟨_, rfl⟩
         go_wp2_with (first | (go_at_call 52; (with_reducible refine (HE2.out _).mono ?_); rintro e w3 ⟨rfl, hb3⟩; have HB3 := lh (HB.out.trans (hb3.mono HB.out.size)); clear hb3))
         go_roundg g2
         case measure => omega
         case rel => exact ⟨j + 1, _, rfl, by go_num, by omega, lh (by rw [HL.out, toN_bs, HYY.out]), HB3⟩
    | succ g =>
     have hk1 : k < c.l.length := by omega
     have hk2 : (k : Int) < (c.l.length : Int) := by omega
     have hk3 : 0 <= (k : Int) := by omega
     obtain ⟨b1, o1, ea, hb1, hc1⟩ := (HM.out _ HT.out).loops (by omega)
     have hc1k := hc1 k hk1
     rw [ea] at kc
     clear hc1 ea
     have HU := lh (fun (W : World) (b : Nat) (hb : b = W.heap.size) => numbers_any (some ⟨b, 0, none⟩) 3 3 (f3 (c.hd k) (c.rg k) (c.bd k)) (W.alloc (.cells #[(c.hd k), (c.rg k), (c.bd k)] 3)).drew (by decide) (ri3 W (c.hd k) (c.rg k) (c.bd k) b hb) (fun j _ => HX.out.lop k hk1 j))
     have hl3 := numsT_len (n := 3) (fun j _ => HX.out.lop k hk1 j) 3 (Nat.le_refl _)
     have hxl : Y.size <= 100000000000 := by
      have e : Y.size = (txt2 c k).length := by rw [<- HXX.out, Array.length_toList]; rfl
      rw [e]
      exact HX.out.l2 k (by omega)
     obtain ⟨N, hN⟩ : ∃ N, numsT (f3 (c.hd k) (c.rg k) (c.bd k)) 3 = N := ⟨_, rfl⟩
     have HA := lh (show lopF c k = [108, 111, 111, 112] ++ N ++ [10] by unfold lopF loopT; rw [hN])
     rw [hN] at HU hl3
     have r1 : ¬ 9223372036854775807 < 4 + N.length := by omega
     have r2 : ¬ 9223372036854775807 < 4 + N.length + 1 := by omega
     have r3 : ¬ 9223372036854775807 < Y.size + (4 + N.length + 1) := by omega
     clear hN hl3 hxl
     obtain ⟨wo, rfl⟩ : ∃ wo : World, wo = wr := ⟨_, rfl⟩
     have HS := lh (fun (W : World) (hb : Below wo.heap.size wo W) => show (fun w' => w'.cell? ⟨w.heap.size, 6, none⟩ = some (.slice (some ⟨b1, o1, none⟩) c.l.length a.c2) /\ w'.cell? ⟨b1, o1 + k * 3, none⟩ = some (.int .i64 (c.hd k)) /\ w'.cell? ⟨b1, o1 + k * 3 + 1, none⟩ = some (.int .i64 (c.rg k)) /\ w'.cell? ⟨b1, o1 + k * 3 + 2, none⟩ = some (.int .i64 (c.bd k))) W from by
      have e := fun o => hb.cell (p := ⟨b1, o, none⟩) hb1
      exact ⟨(hb.cell (p := ⟨w.heap.size, 6, none⟩) (show w.heap.size < wo.heap.size by have := TI.size HT.out; omega)).trans (kc 6), (e _).trans hc1k.1, (e _).trans hc1k.2.1, (e _).trans hc1k.2.2⟩)
     have HB0 := lh (below_drewT (Below.refl wo.heap.size wo))
     have HB1 := lh (below_drewT ((Below.refl wo.heap.size wo).alloc (Nat.le_refl _) (.cells #[(c.hd k), (c.rg k), (c.bd k)] 3)))
     clear hc1k
     go_wp2
     refine wp_region_held_drew (S := (fun w' => w'.cell? ⟨w.heap.size, 6, none⟩ = some (.slice (some ⟨b1, o1, none⟩) c.l.length a.c2) /\ w'.cell? ⟨b1, o1 + k * 3, none⟩ = some (.int .i64 (c.hd k)) /\ w'.cell? ⟨b1, o1 + k * 3 + 1, none⟩ = some (.int .i64 (c.rg k)) /\ w'.cell? ⟨b1, o1 + k * 3 + 2, none⟩ = some (.int .i64 (c.bd k)))) (by kernel_rfl) ?_ (fun hHeld => ?_)
     . (try dsimp only); (first | exact HS.out _ HB0.out | exact HS.out _ HB1.out | exact HS.out _ HB2.out)
     refine tk 0 ?_
     refine tk 1 ?_
     refine tk 2 ?_
     refine tk 3 ?_
     refine tk 4 ?_
     refine tk 5 ?_
     refine tk 6 ?_
     refine tk 7 ?_
     refine tk 8 ?_
     refine tk 9 ?_
     refine tk 10 ?_
     refine tk 11 ?_
     refine tk 12 ?_
     refine tk 13 ?_
     refine tk 14 ?_
     refine tk 15 ?_
     refine tk 16 ?_
     refine tk 17 ?_
     refine tk 18 ?_
     refine am 19 (fun K hK => ?_) ?_
     . go_simp
       refine hK.out _ _ ?_ (fun hHeld => ?_)
       . (try dsimp only); (first | exact HS.out _ HB0.out | exact HS.out _ HB1.out | exact HS.out _ HB2.out)
       clear hK K
       try simp only [pe]
       refine am 20 (fun K hK => ?_) ?_
       . (go_simp; go_at_call 51; refine (HU.out _ _ (by simp)).mono ?_; rintro e w3 ⟨rfl, hb3⟩; have HB2 := lh (HB1.out.trans (hb3.mono HB1.out.size)); have HT3 := lh ((HT.out.new _).drew.step hb3); clear hb3; try go_wp2_with fail)
         refine hK.out _ _ ?_ (fun hHeld => ?_)
         . (try dsimp only); (first | exact HS.out _ HB0.out | exact HS.out _ HB1.out | exact HS.out _ HB2.out)
         clear hK K
         try simp only [pe]
         refine tk 21 ?_
         refine tk 22 ?_
         refine tk 23 ?_
         refine tk 24 ?_
         refine wpAnyH_done (by kernel_rfl) ?_ _
         go_wp2
         go_roundg g
         case measure => omega
         case rel => exact ⟨k + 1, _, rfl, by go_num, by omega, lh (by simp only [txt2, catT]; rw [HA.out]; simp [HXX.out, txt2]), HT3⟩
       exact AllReadyH.nil
     exact AllReadyH.nil
  | succ g =>
   have hk1 : k < c.q.length := by omega
   have hk2 : (k : Int) < (c.q.length : Int) := by omega
   have hk3 : 0 <= (k : Int) := by omega
   obtain ⟨b1, o1, ea, hb1, hc1⟩ := (HM.out _ HT.out).arr (by omega)
   obtain ⟨m0, m1, m2, m3⟩ := hc1 k hk1
   rw [ea] at kc
   clear hc1 ea
   have HU := lh (fun (W : World) (b : Nat) (hb : b = W.heap.size) => numbers_any (some ⟨b, 0, none⟩) 3 3 (f3 (c.sp k) (c.ty k) (c.ln k)) (W.alloc (.cells #[(c.sp k), (c.ty k), (c.ln k)] 3)).drew (by decide) (ri3 W (c.sp k) (c.ty k) (c.ln k) b hb) (fun j _ => HX.out.arr k hk1 j))
   have hn12 := HX.out.nm k hk1
   have hl3 := numsT_len (n := 3) (fun j _ => HX.out.arr k hk1 j) 3 (Nat.le_refl _)
   have hxl : X.size <= 100000000000 := by
    have e : X.size = (txt1 c k).length := by rw [<- HXX.out, Array.length_toList]; rfl
    rw [e]
    exact HX.out.l1 k (by omega)
   obtain ⟨N, hN⟩ : ∃ N, numsT (f3 (c.sp k) (c.ty k) (c.ln k)) 3 = N := ⟨_, rfl⟩
   have HA := lh (show arrF c k = [97, 114, 114, 97, 121, 32] ++ (c.nm k).data.toList ++ N ++ [10] by unfold arrF arrT; rw [hN])
   rw [hN] at HU hl3
   have r1 : ¬ 9223372036854775807 < 6 + (c.nm k).size := by omega
   have r2 : ¬ 9223372036854775807 < 6 + (c.nm k).size + N.length := by omega
   have r3 : ¬ 9223372036854775807 < 6 + (c.nm k).size + N.length + 1 := by omega
   have r4 : ¬ 9223372036854775807 < X.size + (6 + (c.nm k).size + N.length + 1) := by omega
   clear hN hl3 hn12 hxl
   obtain ⟨wo, rfl⟩ : ∃ wo : World, wo = wr := ⟨_, rfl⟩
   have HS := lh (fun (W : World) (hb : Below (wo.heap.size + 1) (wo.alloc (.cells #[.string (c.nm k), (c.sp k), (c.ty k), (c.ln k)] 91)) W) => show (fun w' => w'.cell? ⟨wo.heap.size, 0, none⟩ = some (.string (c.nm k)) /\ w'.cell? ⟨wo.heap.size, 1, none⟩ = some (.int .i64 (c.sp k)) /\ w'.cell? ⟨wo.heap.size, 2, none⟩ = some (.int .i64 (c.ty k)) /\ w'.cell? ⟨wo.heap.size, 3, none⟩ = some (.int .i64 (c.ln k))) W from by
    have e : ∀ o, W.cell? ⟨wo.heap.size, o, none⟩ = (#[.string (c.nm k), (c.sp k), (c.ty k), (c.ln k)] : Array Value)[o]? := fun o => (hb.cell (p := ⟨wo.heap.size, o, none⟩) (by simp)).trans (World.cell?_alloc_at _ _ _ _ rfl)
    exact ⟨e 0, e 1, e 2, e 3⟩)
   have HB0 := lh (below_drewT (Below.refl (wo.heap.size + 1) (wo.alloc (.cells #[.string (c.nm k), (c.sp k), (c.ty k), (c.ln k)] 91))))
   have HB1 := lh (below_drewT ((Below.refl (wo.heap.size + 1) (wo.alloc (.cells #[.string (c.nm k), (c.sp k), (c.ty k), (c.ln k)] 91))).alloc (by simp) (.cells #[(c.sp k), (c.ty k), (c.ln k)] 3)))
   go_wp2
   refine wp_region_held_drew (S := (fun w' => w'.cell? ⟨wo.heap.size, 0, none⟩ = some (.string (c.nm k)) /\ w'.cell? ⟨wo.heap.size, 1, none⟩ = some (.int .i64 (c.sp k)) /\ w'.cell? ⟨wo.heap.size, 2, none⟩ = some (.int .i64 (c.ty k)) /\ w'.cell? ⟨wo.heap.size, 3, none⟩ = some (.int .i64 (c.ln k)))) (by kernel_rfl) ?_ (fun hHeld => ?_)
   . (try dsimp only); (first | exact HS.out _ HB0.out | exact HS.out _ HB1.out | exact HS.out _ HB2.out)
   refine tk 0 ?_
   refine tk 1 ?_
   refine tk 2 ?_
   refine tk 3 ?_
   refine tk 4 ?_
   refine tk 5 ?_
   refine tk 6 ?_
   refine tk 7 ?_
   refine tk 8 ?_
   refine tk 9 ?_
   refine am 10 (fun K hK => ?_) ?_
   . go_simp
     refine hK.out _ _ ?_ (fun hHeld => ?_)
     . (try dsimp only); (first | exact HS.out _ HB0.out | exact HS.out _ HB1.out | exact HS.out _ HB2.out)
     clear hK K
     try simp only [pe]
     refine am 11 (fun K hK => ?_) ?_
     . (go_simp; go_at_call 51; refine (HU.out _ _ (by simp)).mono ?_; rintro e w3 ⟨rfl, hb3⟩; have HB2 := lh (HB1.out.trans (hb3.mono (Nat.le_trans (by simp) HB1.out.size))); have HT3 := lh (((HT.out.new _).new _).drew.step hb3); clear hb3; try go_wp2_with fail)
       refine hK.out _ _ ?_ (fun hHeld => ?_)
       . (try dsimp only); (first | exact HS.out _ HB0.out | exact HS.out _ HB1.out | exact HS.out _ HB2.out)
       clear hK K
       try simp only [pe]
       refine tk 12 ?_
       refine tk 13 ?_
       refine tk 14 ?_
       refine tk 15 ?_
       refine wpAnyH_done (by kernel_rfl) ?_ _
       go_wp2
       go_roundg g
       case measure => omega
       case rel => exact ⟨k + 1, _, rfl, by go_num, by omega, lh (by simp only [txt1, catT]; rw [HA.out]; simp [HXX.out, txt1]), HT3⟩
     exact AllReadyH.nil
   exact AllReadyH.nil
theorem txok_of {c : CdV} (hz : chkC c = 0) (hr : c.Rng) (hl : ∀ j, j < c.b.length -> c.il j <= 65536) : TxOk c := by
 have hs := (rts_of hz hr).ok
 have hb : ∀ j, j < c.b.length -> ∀ k, k < c.il j -> InstOk (c.is j k) := fun j hj k hk => by
  unfold CdV.il at hk
  unfold CdV.is
  rw [getD_of _ _ _ hj] at hk ⊢
  rw [getD_of _ _ _ hk]
  exact (hs.b _ (List.getElem_mem hj)).1 _ (List.getElem_mem hk)
 have ht : ∀ j, j < c.b.length -> EndOk (c.te j) := fun j hj => by
  unfold CdV.te
  rw [getD_of _ _ _ hj]
  exact (hs.b _ (List.getElem_mem hj)).2
 obtain ⟨b1, b2, b3, hnm⟩ := checkE_ok hz
 have ha : ∀ j, j < c.q.length -> ∀ i, I64 (f3 (c.sp j) (c.ty j) (c.ln j) i) := fun j hj i => f3_rng (hr.arr j).1 (hr.arr j).2.1 (hr.arr j).2.2 i
 have hlo : ∀ j, j < c.l.length -> ∀ i, I64 (f3 (c.hd j) (c.rg j) (c.bd j) i) := fun j hj i => f3_rng (hr.loops j).1 (hr.loops j).2.1 (hr.loops j).2.2 i
 have hn : ∀ j, I64 (f5 (c.n 0) (c.n 1) (c.n 2) (c.n 3) (c.n 4) j) := f5_rng hr.head.1 hr.head.2.1 hr.head.2.2.1 hr.head.2.2.2.1 hr.head.2.2.2.2
 have e0 : (hedF c).length <= 200 := headT_len (fun j _ => hn j)
 have e1 : ∀ k, k <= c.q.length -> (txt1 c k).length <= 2000 := fun k hk => by
  have := catT_len (F := arrF c) (n := c.q.length) (m := 200) (fun j hj => arrT_len (hnm j hj) (fun i _ => ha j hj i)) k hk
  unfold txt1
  rw [List.length_append]
  omega
 have e2 : ∀ k, k <= c.l.length -> (txt2 c k).length <= 90000 := fun k hk => by
  have := catT_len (F := lopF c) (n := c.l.length) (m := 200) (fun j hj => loopT_len (fun i _ => hlo j hj i)) k hk
  have := e1 c.q.length (Nat.le_refl _)
  unfold txt2
  rw [List.length_append]
  omega
 have hi : ∀ j, j < c.b.length -> ∀ k, k <= c.il j -> (instsT (c.is j) k).length <= k * 1000 := fun j hj k => by
  induction k with
  | zero => intro _; simp [instsT]
  | succ k ih =>
   intro hk
   have h1 := ih (by omega)
   have h2 := instT_len (hb j hj k (by omega)).rng
   simp only [instsT, List.length_append]
   omega
 have e3 : ∀ k, k <= c.b.length -> (txt3 c k).length <= 100000000000 := fun k hk => by
  have := catT_len (F := blkF c) (n := c.b.length) (m := 70000000) (fun j hj => by
   have h1 := hi j hj (c.il j) (Nat.le_refl _)
   have h2 := endT_len (ht j hj).rng
   have h3 := hl j hj
   simp only [blkF, blockT, List.length_append, List.length_cons, List.length_nil]
   omega) k hk
  have := e2 c.l.length (Nat.le_refl _)
  unfold txt3
  rw [List.length_append]
  omega
 refine ⟨hn, ha, hnm, hlo, fun j hj k hk => ⟨(hb j hj k hk).op, (hb j hj k hk).rng, lineS_eq (hb j hj k hk)⟩, fun j hj => ⟨(ht j hj).rng, endS_eq (ht j hj)⟩, fun k hk => by have := e1 k hk; omega, fun k hk => by have := e2 k hk; omega, e3, fun j hj k hk => ?_⟩
 have h1 := hi j hj k hk
 have h2 := e3 j (by omega)
 have h3 := hl j hj
 simp only [txt4, List.length_append, List.length_cons, List.length_nil]
 omega
theorem TextIn_c (c : CdV) (a : CdA) (w : World) (h : CdM c a w) (hf : c.Fits) (hr : c.Rng) :
 Calls Tryz.prog 16 #[cdval c a] w fun e w' => e = .returned (.agg #[.string (if chkC c = 0 then ⟨(txtC c).toArray⟩ else ⟨#[]⟩), (chkC c)]) /\ Below w.heap.size w w' := by
 by_cases hz : chkC c = 0
 . rw [if_pos hz, hz]
   exact TextIn_ok c a w h hf hz (txok_of hz hr h.lens)
 . rw [if_neg hz]
   exact TextIn_no c a w h hf hz
end Go.Proofs.YtkncilgmlkeifaaGreatDoor
