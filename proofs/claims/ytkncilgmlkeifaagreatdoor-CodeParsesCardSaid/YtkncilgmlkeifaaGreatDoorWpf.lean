import Derived.Test.YtkncilgmlkeifaaGreatDoorWpc
import Derived.Test.YtkncilgmlkeifaaGreatDoorRcd
/-
  The reference's reader: the contracts of instruction and end.
-/
set_option linter.unusedVariables false
set_option linter.unusedSimpArgs false
set_option maxRecDepth 100000
set_option maxHeartbeats 16000000
namespace Go.Proofs.YtkncilgmlkeifaaGreatDoor
open Go.ChangeShapes Go.WideShapes Go.ChangeAt Go.RowKit Go.Shelf
theorem ch_up {bf : Nat} {w W W' : World} (h : Ch bf bf w W) (hb : Below w.heap.size W W') : Ch bf bf w W' :=
 ⟨hb.os.trans h.os, hb.tape.trans h.tape, hb.output.trans h.output, Nat.le_trans h.size hb.size, fun i hi ha hb' => (hb.block i hi).trans (h.block i hi ha hb')⟩
theorem tail_getD (fs : List ByteArray) (j : Nat) : fs.tail.getD j ⟨#[]⟩ = fs.getD (j + 1) ⟨#[]⟩ := by cases fs <;> rfl
structure InK (w : World) (bf : Nat) (v : Value) (fs : List ByteArray) (T T5 b5 b7 : Nat) (Z SH : Array Value) (j : Nat) (X : Array Value) (W : World) : Prop where
 fd : FdK bf v fs j W
 ch : Ch bf bf w W
 r4 : W.heap[w.heap.size]? = some (.cells Z T (0, 0))
 r5 : W.heap[b5]? = some (.cells SH T5 (0, 0))
 r7 : W.heap[b7]? = some (.cells X T (0, 0))
 n5 : w.heap.size <= b5 /\ b5 < b7
 fl : FdL w.heap.size bf v
section
variable {w W w1 : World} {bf T T5 b5 b7 j j' : Nat} {v : Value} {fs : List ByteArray} {Z SH X : Array Value}
theorem InK.call (h : InK w bf v fs T T5 b5 b7 Z SH j X W) (hf : FdK bf v fs j' w1) (hc : Ch bf bf W w1) : InK w bf v fs T T5 b5 b7 Z SH j' X w1 := by
 have hb := h.fl.1
 have h5 := h.n5
 have k : ∀ b C T', W.heap[b]? = some (.cells C T' (0, 0)) -> b ≠ bf -> w1.heap[b]? = some (.cells C T' (0, 0)) := fun b C T' hh hn => (hc.block b (Array.getElem?_eq_some_iff.1 hh).1 hn hn).trans hh
 exact ⟨hf, h.ch.trans hc, k _ _ _ h.r4 (by omega), k _ _ _ h.r5 (by omega), k _ _ _ h.r7 (by omega), h.n5, h.fl⟩
theorem InK.set (h : InK w bf v fs T T5 b5 b7 Z SH j X W) (o : Nat) (x : Value) : InK w bf v fs T T5 b5 b7 Z SH j (X.setIfInBounds o x) (W.setCell ⟨b7, o, none⟩ x) := by
 have hb := h.fl.1
 have h5 := h.n5
 have hs : Below w.heap.size W (W.setCell ⟨b7, o, none⟩ x) := (Below.refl _ _).setCell (by show w.heap.size <= b7; omega) x
 have k : ∀ b C T', W.heap[b]? = some (.cells C T' (0, 0)) -> b ≠ b7 -> (W.setCell ⟨b7, o, none⟩ x).heap[b]? = some (.cells C T' (0, 0)) := fun b C T' hh hn => (heap_setCell_other W ⟨b7, o, none⟩ _ _ hn).trans hh
 exact ⟨h.fd.below h.fl hs, ⟨h.ch.os, h.ch.tape, h.ch.output, Nat.le_trans h.ch.size hs.size, fun i hi ha hb => (hs.block i hi).trans (h.ch.block i hi ha hb)⟩, k _ _ _ h.r4 (by omega), k _ _ _ h.r5 (by omega), heap_setCell_same W b7 o _ T x h.r7, h.n5, h.fl⟩
theorem InK.c5 (h : InK w bf v fs T T5 b5 b7 Z SH j X W) (o : Nat) : W.cell? ⟨b5, o, none⟩ = SH[o]? := by simp [World.cell?, h.r5]
theorem InK.c7 (h : InK w bf v fs T T5 b5 b7 Z SH j X W) (o : Nat) : W.cell? ⟨b7, o, none⟩ = X[o]? := by simp [World.cell?, h.r7]
theorem InK.f7 (h : InK w bf v fs T T5 b5 b7 Z SH j X W) (o : Nat) : W.frozen? ⟨b7, o, none⟩ = false := by simp [World.frozen?, h.r7]
theorem InK.c4 (h : InK w bf v fs T T5 b5 b7 Z SH j X W) (o : Nat) : W.cell? ⟨w.heap.size, o, none⟩ = Z[o]? := by simp [World.cell?, h.r4]
theorem InK.f4 (h : InK w bf v fs T T5 b5 b7 Z SH j X W) (o : Nat) : W.frozen? ⟨w.heap.size, o, none⟩ = false := by simp [World.frozen?, h.r4]
def stw (W : World) (b : Nat) : Nat -> List Value -> World
 | _, [] => W
 | i, v :: l => stw (W.setCell ⟨b, i, none⟩ v) b (i + 1) l
theorem stw_cells {b : Nat} {T : TypeId} : ∀ (l : List Value) (W : World) (p q : List Value), W.heap[b]? = some (.cells (p ++ q).toArray T (0, 0)) -> q.length = l.length -> (stw W b p.length l).heap[b]? = some (.cells (p ++ l).toArray T (0, 0))
 | [], W, p, q, h, hl => by
  obtain rfl : q = [] := List.eq_nil_of_length_eq_zero hl
  exact h
 | v :: l, W, p, [], h, hl => by simp at hl
 | v :: l, W, p, x :: q, h, hl => by
  have h1 := heap_setCell_same W b p.length _ T v h
  rw [show (p ++ x :: q).toArray.setIfInBounds p.length v = ((p ++ [v]) ++ q).toArray by simp] at h1
  have h2 := stw_cells l _ (p ++ [v]) q h1 (by simpa using hl)
  rw [List.length_append, List.append_assoc] at h2
  exact h2
theorem stw_below {n b : Nat} (hb : n <= b) : ∀ (l : List Value) (W V : World) (i : Nat), Below n W V -> Below n W (stw V b i l)
 | [], _, _, _, h => h
 | v :: l, W, V, i, h => stw_below hb l W _ _ (Below.setCell (p := ⟨b, i, none⟩) h hb v)
theorem stw_ex {n b : Nat} {T : TypeId} {W : World} {C : List Value} (h : W.heap[b]? = some (.cells C.toArray T (0, 0))) (hb : n <= b) (l : List Value) (hl : C.length = l.length) : ∃ V, stw W b 0 l = V /\ V.heap[b]? = some (.cells l.toArray T (0, 0)) /\ Below n W V :=
 ⟨_, rfl, stw_cells l W [] C h hl, stw_below hb l W W 0 (Below.refl _ _)⟩
theorem st13 (W : World) (b : Nat) (v0 v1 v2 v3 v4 v5 v6 v7 v8 v9 v10 v11 v12 : Value) : (((((((((((((W.setCell ⟨b, 0, none⟩ v0).setCell ⟨b, 1, none⟩ v1).setCell ⟨b, 2, none⟩ v2).setCell ⟨b, 3, none⟩ v3).setCell ⟨b, 4, none⟩ v4).setCell ⟨b, 5, none⟩ v5).setCell ⟨b, 6, none⟩ v6).setCell ⟨b, 7, none⟩ v7).setCell ⟨b, 8, none⟩ v8).setCell ⟨b, 9, none⟩ v9).setCell ⟨b, 10, none⟩ v10).setCell ⟨b, 11, none⟩ v11).setCell ⟨b, 12, none⟩ v12) = stw W b 0 [v0, v1, v2, v3, v4, v5, v6, v7, v8, v9, v10, v11, v12] := rfl
theorem st15 (W : World) (b : Nat) (v0 v1 v2 v3 v4 v5 v6 v7 v8 v9 v10 v11 v12 v13 v14 : Value) : (((((((((((((((W.setCell ⟨b, 0, none⟩ v0).setCell ⟨b, 1, none⟩ v1).setCell ⟨b, 2, none⟩ v2).setCell ⟨b, 3, none⟩ v3).setCell ⟨b, 4, none⟩ v4).setCell ⟨b, 5, none⟩ v5).setCell ⟨b, 6, none⟩ v6).setCell ⟨b, 7, none⟩ v7).setCell ⟨b, 8, none⟩ v8).setCell ⟨b, 9, none⟩ v9).setCell ⟨b, 10, none⟩ v10).setCell ⟨b, 11, none⟩ v11).setCell ⟨b, 12, none⟩ v12).setCell ⟨b, 13, none⟩ v13).setCell ⟨b, 14, none⟩ v14) = stw W b 0 [v0, v1, v2, v3, v4, v5, v6, v7, v8, v9, v10, v11, v12, v13, v14] := rfl
theorem InK.ex (h : InK w bf v fs T T5 b5 b7 Z SH j X W) : ∃ V, Hid (InK w bf v fs T T5 b5 b7 Z SH j X V) /\ V = W := ⟨_, lh h, rfl⟩
theorem InK.start (h : FdK bf v fs j w) (hL : FdL w.heap.size bf v) (X : Array Value) : InK w bf v fs T T w.heap.size (w.heap.size + 1) Z Z j X ((w.alloc (Obj.cells Z T)).alloc (Obj.cells X T)) := by
 have hbb : Below w.heap.size w ((w.alloc (Obj.cells Z T)).alloc (Obj.cells X T)) := (bo _).alloc (by simp) _
 have h4 : ((w.alloc (Obj.cells Z T)).alloc (Obj.cells X T)).heap[w.heap.size]? = some (Obj.cells Z T (0, 0)) := (Below.heap_alloc _ _ _ (by simp)).trans (heap_alloc_new w _)
 refine ⟨h.below hL hbb, Ch.of_below hbb, h4, h4, ?_, ⟨Nat.le_refl _, by omega⟩, hL⟩
 have := heap_alloc_new (w.alloc (Obj.cells Z T)) (Obj.cells X T)
 rwa [World.size_alloc] at this
end
theorem inst_gen (bf : Nat) (v : Value) (fs : List ByteArray) (w : World) (op : Int) (xs xn xd : Bool) (xv : Int) (hsh : shpF op = ⟨xs, xn, xd, xv⟩) (j0 j1 j2 j3 j4 j5 j6 : Nat) (xsV xnV : Int) (od oa ob oc : OpdV) (h : FdK bf v fs j0 w) (hL : FdL w.heap.size bf v) (hl : fs.length <= 1000000) (hs : ∀ s, s ∈ fs -> s.size <= 1000000)
 (hjm : j0 <= 100 /\ j1 <= 100 /\ j2 <= 100 /\ j3 <= 100 /\ j4 <= 100 /\ j5 <= 100)
 (hj1 : Hid (j1 = if xs = true then j0 + 1 else j0)) (hsV : Hid (xsV = if xs = true then wholeV (fs.getD j0 ⟨#[]⟩).data.toList else 0))
 (hj2 : Hid (j2 = if xn = true then j1 + 1 else j1)) (hnV : Hid (xnV = if xn = true then wholeV (fs.getD j1 ⟨#[]⟩).data.toList else 0))
 (hj3 : Hid (j3 = if xd = true then j2 + 1 else j2)) (hdV : Hid (od = if xd = true then opdQ (fs.getD j2 ⟨#[]⟩) else noOpd))
 (hj4 : Hid ((0 < xv -> j4 = j3 + 1) /\ (¬ 0 < xv -> j4 = j3))) (haV : Hid ((0 < xv -> oa = opdQ (fs.getD j3 ⟨#[]⟩)) /\ (¬ 0 < xv -> oa = noOpd)))
 (hj5 : Hid ((1 < xv -> j5 = j4 + 1) /\ (¬ 1 < xv -> j5 = j4))) (hbV : Hid ((1 < xv -> ob = opdQ (fs.getD j4 ⟨#[]⟩)) /\ (¬ 1 < xv -> ob = noOpd)))
 (hj6 : Hid ((2 < xv -> j6 = j5 + 1) /\ (¬ 2 < xv -> j6 = j5))) (hcV : Hid ((2 < xv -> oc = opdQ (fs.getD j5 ⟨#[]⟩)) /\ (¬ 2 < xv -> oc = noOpd))) :
 Calls Tryz.prog 112 #[.pointer (some ⟨bf, 0, none⟩), op] w fun e w' => e = .returned (.agg #[op, xsV, xnV, od.k, od.n, .int .i32 od.v, oa.k, oa.n, .int .i32 oa.v, ob.k, ob.n, .int .i32 ob.v, oc.k, oc.n, .int .i32 oc.v]) /\ FdK bf v fs j6 w' /\ Ch bf bf w w' := by
 have HF := lh (fun W => form_r op W)
 rw [hsh] at HF
 simp only at HF
 have hlt := h.lt
 have hb4 : Below w.heap.size w (w.alloc (Obj.cells #[(0:Int), (0:Int), (0:Int), (0:Int), (0:Int), .int .i32 0, (0:Int), (0:Int), .int .i32 0, (0:Int), (0:Int), .int .i32 0, (0:Int), (0:Int), .int .i32 0] 61)) := bo _
 have HI := lh (fun (w1 : World) (hb : Below (w.alloc (Obj.cells #[(0:Int), (0:Int), (0:Int), (0:Int), (0:Int), .int .i32 0, (0:Int), (0:Int), .int .i32 0, (0:Int), (0:Int), .int .i32 0, (0:Int), (0:Int), .int .i32 0] 61)).heap.size (w.alloc (Obj.cells #[(0:Int), (0:Int), (0:Int), (0:Int), (0:Int), .int .i32 0, (0:Int), (0:Int), .int .i32 0, (0:Int), (0:Int), .int .i32 0, (0:Int), (0:Int), .int .i32 0] 61)) w1) =>
  show InK w bf v fs 61 153 w1.heap.size (w1.heap.size + 1) #[(0:Int), (0:Int), (0:Int), (0:Int), (0:Int), .int .i32 0, (0:Int), (0:Int), .int .i32 0, (0:Int), (0:Int), .int .i32 0, (0:Int), (0:Int), .int .i32 0] #[.bool xs, .bool xn, .bool xd, xv] j0 #[op, (0:Int), (0:Int), (0:Int), (0:Int), .int .i32 0, (0:Int), (0:Int), .int .i32 0, (0:Int), (0:Int), .int .i32 0, (0:Int), (0:Int), .int .i32 0] ((w1.alloc (Obj.cells #[.bool xs, .bool xn, .bool xd, xv] 153)).alloc (Obj.cells #[op, (0:Int), (0:Int), (0:Int), (0:Int), .int .i32 0, (0:Int), (0:Int), .int .i32 0, (0:Int), (0:Int), .int .i32 0, (0:Int), (0:Int), .int .i32 0] 61)) from by
   have hz := hb.size
   simp only [World.size_alloc] at hz
   have hbw : Below w.heap.size w w1 := hb4.trans (hb.mono (by simp))
   have hbb : Below w.heap.size w ((w1.alloc (Obj.cells #[.bool xs, .bool xn, .bool xd, xv] 153)).alloc (Obj.cells #[op, (0:Int), (0:Int), (0:Int), (0:Int), .int .i32 0, (0:Int), (0:Int), .int .i32 0, (0:Int), (0:Int), .int .i32 0, (0:Int), (0:Int), .int .i32 0] 61)) := (hbw.alloc (by omega) _).alloc (by simp; omega) _
   have k1 : ∀ (b : Nat) (C : Array Value) (T' : TypeId), w1.heap[b]? = some (Obj.cells C T' (0, 0)) -> ((w1.alloc (Obj.cells #[.bool xs, .bool xn, .bool xd, xv] 153)).alloc (Obj.cells #[op, (0:Int), (0:Int), (0:Int), (0:Int), .int .i32 0, (0:Int), (0:Int), .int .i32 0, (0:Int), (0:Int), .int .i32 0, (0:Int), (0:Int), .int .i32 0] 61)).heap[b]? = some (Obj.cells C T' (0, 0)) := fun b C T' hh => by
    have hb' := (Array.getElem?_eq_some_iff.1 hh).1
    exact (Below.heap_alloc _ _ _ (by simp; omega)).trans ((Below.heap_alloc _ _ _ hb').trans hh)
   refine ⟨h.below hL hbb, Ch.of_below hbb, k1 _ _ _ ((hb.block w.heap.size (by simp)).trans (heap_alloc_new w _)), ?_, ?_, ⟨by omega, by omega⟩, hL⟩
   . exact (Below.heap_alloc _ _ _ (by simp)).trans (heap_alloc_new w1 _)
   . have := heap_alloc_new (w1.alloc (Obj.cells #[.bool xs, .bool xn, .bool xd, xv] 153)) (.cells #[op, (0:Int), (0:Int), (0:Int), (0:Int), .int .i32 0, (0:Int), (0:Int), .int .i32 0, (0:Int), (0:Int), .int .i32 0, (0:Int), (0:Int), .int .i32 0] 61)
     rwa [World.size_alloc] at this)
 have HN := lh (fun (j : Nat) (W : World) (hf : FdK bf v fs j W) (hj : j <= 1000000) => number_r bf v fs j W hf hl hj hs)
 have HO := lh (fun (j : Nat) (W : World) (hf : FdK bf v fs j W) (hj : j <= 1000000) => operand_r bf v fs j W hf hl hj hs)
 obtain ⟨i0, i1, i2, i3, i4, i5⟩ := hjm
 clear h hs hl hb4 hsh
 go_enter Tryz.func112, Tryz.ntmps112
 go_upto_region 3 with (first
  | (go_at_call 91; (with_reducible refine (HF.out _).mono ?_); rintro e w1 ⟨rfl, hb1⟩; have HK := lh (HI.out w1 hb1); clear hb1))
 clear HI HF
 generalize ((w1.alloc (Obj.cells #[.bool xs, .bool xn, .bool xd, xv] 153)).alloc (Obj.cells #[op, (0:Int), (0:Int), (0:Int), (0:Int), .int .i32 0, (0:Int), (0:Int), .int .i32 0, (0:Int), (0:Int), .int .i32 0, (0:Int), (0:Int), .int .i32 0] 61)) = W0 at HK ⊢
 generalize w1.heap.size = b5 at HK ⊢
 have kc := HK.out.c5
 go_upto_if 16 with fail
 go_cut [] (fun wx => Hid (InK w bf v fs 61 153 b5 (b5 + 1) #[(0:Int), (0:Int), (0:Int), (0:Int), (0:Int), .int .i32 0, (0:Int), (0:Int), .int .i32 0, (0:Int), (0:Int), .int .i32 0, (0:Int), (0:Int), .int .i32 0] #[.bool xs, .bool xn, .bool xd, xv] j1 #[op, xsV, (0:Int), (0:Int), (0:Int), .int .i32 0, (0:Int), (0:Int), .int .i32 0, (0:Int), (0:Int), .int .i32 0, (0:Int), (0:Int), .int .i32 0] wx))
 case first =>
  cases xs
  . have hj : j1 = j0 := hj1.out
    have hx : xsV = 0 := hsV.out
    go_wp2
    go_meet
    exact lh (by rw [hj, hx]; exact HK.out)
  . have hj : j1 = j0 + 1 := hj1.out
    have hx : xsV = wholeV (fs.getD j0 ⟨#[]⟩).data.toList := hsV.out
    go_wp2_with (first | (go_at_call 111; (with_reducible refine (HN.out _ _ HK.out.fd (by omega)).mono ?_); rintro e w2 ⟨rfl, hf2, hc2⟩; have HQ := lh (HK.out.call hf2 hc2); clear hf2 hc2; have z7 := HQ.out.f7; have q7 := HQ.out.c7))
    go_meet
    exact lh (by rw [hj, hx]; exact HQ.out.set 1 _)
 case rest =>
 clear kc HK
 have HK := hcut
 have kc := HK.out.c5
 go_upto_if 21 with fail
 go_cut [] (fun wx => Hid (InK w bf v fs 61 153 b5 (b5 + 1) #[(0:Int), (0:Int), (0:Int), (0:Int), (0:Int), .int .i32 0, (0:Int), (0:Int), .int .i32 0, (0:Int), (0:Int), .int .i32 0, (0:Int), (0:Int), .int .i32 0] #[.bool xs, .bool xn, .bool xd, xv] j2 #[op, xsV, xnV, (0:Int), (0:Int), .int .i32 0, (0:Int), (0:Int), .int .i32 0, (0:Int), (0:Int), .int .i32 0, (0:Int), (0:Int), .int .i32 0] wx))
 case first =>
  cases xn
  . have hj : j2 = j1 := hj2.out
    have hx : xnV = 0 := hnV.out
    go_wp2
    go_meet
    exact lh (by rw [hj, hx]; exact HK.out)
  . have hj : j2 = j1 + 1 := hj2.out
    have hx : xnV = wholeV (fs.getD j1 ⟨#[]⟩).data.toList := hnV.out
    go_wp2_with (first | (go_at_call 111; (with_reducible refine (HN.out _ _ HK.out.fd (by omega)).mono ?_); rintro e w2 ⟨rfl, hf2, hc2⟩; have HQ := lh (HK.out.call hf2 hc2); clear hf2 hc2; have z7 := HQ.out.f7; have q7 := HQ.out.c7))
    go_meet
    exact lh (by rw [hj, hx]; exact HQ.out.set 2 _)
 case rest =>
 clear kc HK
 have HK := hcut
 have kc := HK.out.c5
 go_upto_if 26 with fail
 go_cut [] (fun wx => Hid (InK w bf v fs 61 153 b5 (b5 + 1) #[(0:Int), (0:Int), (0:Int), (0:Int), (0:Int), .int .i32 0, (0:Int), (0:Int), .int .i32 0, (0:Int), (0:Int), .int .i32 0, (0:Int), (0:Int), .int .i32 0] #[.bool xs, .bool xn, .bool xd, xv] j3 #[op, xsV, xnV, od.k, od.n, .int .i32 od.v, (0:Int), (0:Int), .int .i32 0, (0:Int), (0:Int), .int .i32 0, (0:Int), (0:Int), .int .i32 0] wx))
 case first =>
  cases xd
  . have hj : j3 = j2 := hj3.out
    have hx : od = noOpd := hdV.out
    go_wp2
    go_meet
    exact lh (by rw [hj, hx]; exact HK.out)
  . have hj : j3 = j2 + 1 := hj3.out
    have hx : od = opdQ (fs.getD j2 ⟨#[]⟩) := hdV.out
    go_wp2_with (first | (go_at_call 143; (with_reducible refine (HO.out _ _ HK.out.fd (by omega)).mono ?_); rintro e w2 ⟨rfl, hf2, hc2⟩; have HQ := lh (HK.out.call hf2 hc2); clear hf2 hc2; have z7 := HQ.out.f7; have q7 := HQ.out.c7))
    go_meet
    exact lh (by rw [hj, hx]; exact ((HQ.out.set 3 _).set 4 _).set 5 _)
 case rest =>
 clear kc HK
 have HK := hcut
 have kc := HK.out.c5
 go_upto_if 32 with fail
 go_cut [] (fun wx => Hid (InK w bf v fs 61 153 b5 (b5 + 1) #[(0:Int), (0:Int), (0:Int), (0:Int), (0:Int), .int .i32 0, (0:Int), (0:Int), .int .i32 0, (0:Int), (0:Int), .int .i32 0, (0:Int), (0:Int), .int .i32 0] #[.bool xs, .bool xn, .bool xd, xv] j4 #[op, xsV, xnV, od.k, od.n, .int .i32 od.v, oa.k, oa.n, .int .i32 oa.v, (0:Int), (0:Int), .int .i32 0, (0:Int), (0:Int), .int .i32 0] wx))
 case first =>
  by_cases hv : 0 < xv
  rotate_left
  . have hj : j4 = j3 := hj4.out.2 (by omega)
    have hx : oa = noOpd := haV.out.2 (by omega)
    go_wp2
    go_meet
    exact lh (by rw [hj, hx]; exact HK.out)
  . have hj : j4 = j3 + 1 := hj4.out.1 (by omega)
    have hx : oa = opdQ (fs.getD j3 ⟨#[]⟩) := haV.out.1 (by omega)
    go_wp2_with (first | (go_at_call 143; (with_reducible refine (HO.out _ _ HK.out.fd (by omega)).mono ?_); rintro e w2 ⟨rfl, hf2, hc2⟩; have HQ := lh (HK.out.call hf2 hc2); clear hf2 hc2; have z7 := HQ.out.f7; have q7 := HQ.out.c7))
    go_meet
    exact lh (by rw [hj, hx]; exact ((HQ.out.set 6 _).set 7 _).set 8 _)
 case rest =>
 clear kc HK
 have HK := hcut
 have kc := HK.out.c5
 go_upto_if 38 with fail
 go_cut [] (fun wx => Hid (InK w bf v fs 61 153 b5 (b5 + 1) #[(0:Int), (0:Int), (0:Int), (0:Int), (0:Int), .int .i32 0, (0:Int), (0:Int), .int .i32 0, (0:Int), (0:Int), .int .i32 0, (0:Int), (0:Int), .int .i32 0] #[.bool xs, .bool xn, .bool xd, xv] j5 #[op, xsV, xnV, od.k, od.n, .int .i32 od.v, oa.k, oa.n, .int .i32 oa.v, ob.k, ob.n, .int .i32 ob.v, (0:Int), (0:Int), .int .i32 0] wx))
 case first =>
  by_cases hv : 1 < xv
  rotate_left
  . have hj : j5 = j4 := hj5.out.2 (by omega)
    have hx : ob = noOpd := hbV.out.2 (by omega)
    go_wp2
    go_meet
    exact lh (by rw [hj, hx]; exact HK.out)
  . have hj : j5 = j4 + 1 := hj5.out.1 (by omega)
    have hx : ob = opdQ (fs.getD j4 ⟨#[]⟩) := hbV.out.1 (by omega)
    go_wp2_with (first | (go_at_call 143; (with_reducible refine (HO.out _ _ HK.out.fd (by omega)).mono ?_); rintro e w2 ⟨rfl, hf2, hc2⟩; have HQ := lh (HK.out.call hf2 hc2); clear hf2 hc2; have z7 := HQ.out.f7; have q7 := HQ.out.c7))
    go_meet
    exact lh (by rw [hj, hx]; exact ((HQ.out.set 9 _).set 10 _).set 11 _)
 case rest =>
 clear kc HK
 have HK := hcut
 have kc := HK.out.c5
 go_upto_if 44 with fail
 go_cut [] (fun wx => Hid (InK w bf v fs 61 153 b5 (b5 + 1) #[(0:Int), (0:Int), (0:Int), (0:Int), (0:Int), .int .i32 0, (0:Int), (0:Int), .int .i32 0, (0:Int), (0:Int), .int .i32 0, (0:Int), (0:Int), .int .i32 0] #[.bool xs, .bool xn, .bool xd, xv] j6 #[op, xsV, xnV, od.k, od.n, .int .i32 od.v, oa.k, oa.n, .int .i32 oa.v, ob.k, ob.n, .int .i32 ob.v, oc.k, oc.n, .int .i32 oc.v] wx))
 case first =>
  by_cases hv : 2 < xv
  rotate_left
  . have hj : j6 = j5 := hj6.out.2 (by omega)
    have hx : oc = noOpd := hcV.out.2 (by omega)
    go_wp2
    go_meet
    exact lh (by rw [hj, hx]; exact HK.out)
  . have hj : j6 = j5 + 1 := hj6.out.1 (by omega)
    have hx : oc = opdQ (fs.getD j5 ⟨#[]⟩) := hcV.out.1 (by omega)
    go_wp2_with (first | (go_at_call 143; (with_reducible refine (HO.out _ _ HK.out.fd (by omega)).mono ?_); rintro e w2 ⟨rfl, hf2, hc2⟩; have HQ := lh (HK.out.call hf2 hc2); clear hf2 hc2; have z7 := HQ.out.f7; have q7 := HQ.out.c7))
    go_meet
    exact lh (by rw [hj, hx]; exact ((HQ.out.set 12 _).set 13 _).set 14 _)
 case rest =>
 clear kc HK
 have HK := hcut
 have kc := HK.out.c7
 have k4 := HK.out.c4
 have z4 := HK.out.f4
 have HZ := lh (fun (W : World) (hW : Below w.heap.size wc W) => show FdK bf v fs j6 W /\ Ch bf bf w W from ⟨HK.out.fd.below HK.out.fl hW, ch_up HK.out.ch hW⟩)
 obtain ⟨V, hV, e5, bV⟩ := stw_ex HK.out.r4 (Nat.le_refl w.heap.size) [.int .i64 op, .int .i64 xsV, .int .i64 xnV, .int .i64 od.k, .int .i64 od.n, .int .i32 od.v, .int .i64 oa.k, .int .i64 oa.n, .int .i32 oa.v, .int .i64 ob.k, .int .i64 ob.n, .int .i32 ob.v, .int .i64 oc.k, .int .i64 oc.n, .int .i32 oc.v] rfl
 have HV' := lh hV
 clear hV
 go_wp2
 rw [st15, HV'.out]
 have k5 : ∀ o, V.cell? ⟨w.heap.size, o, none⟩ = (#[op, xsV, xnV, od.k, od.n, .int .i32 od.v, oa.k, oa.n, .int .i32 oa.v, ob.k, ob.n, .int .i32 ob.v, oc.k, oc.n, .int .i32 oc.v] : Array Value)[o]? := fun o => by simp [World.cell?, e5]
 exact bodyPost_ret (v := .agg #[op, xsV, xnV, od.k, od.n, .int .i32 od.v, oa.k, oa.n, .int .i32 oa.v, ob.k, ob.n, .int .i32 ob.v, oc.k, oc.n, .int .i32 oc.v]) (by simp [results, Tryz.results112, go_sem, k5]) rfl ⟨rfl, HZ.out _ bV⟩
theorem InK.start13 {w : World} {bf : Nat} {v : Value} {fs : List ByteArray} {j : Nat} (h : FdK bf v fs j w) (hL : FdL w.heap.size bf v) (k : Int) : InK w bf v fs 53 53 w.heap.size (w.heap.size + 1) #[(0:Int), (0:Int), (0:Int), (0:Int), .int .i32 0, (0:Int), (0:Int), .int .i32 0, (0:Int), (0:Int), .int .i32 0, (0:Int), (0:Int)] #[(0:Int), (0:Int), (0:Int), (0:Int), .int .i32 0, (0:Int), (0:Int), .int .i32 0, (0:Int), (0:Int), .int .i32 0, (0:Int), (0:Int)] j #[k, (0:Int), (0:Int), (0:Int), .int .i32 0, (0:Int), (0:Int), .int .i32 0, (0:Int), (0:Int), .int .i32 0, (0:Int), (0:Int)] ((w.alloc (Obj.cells #[(0:Int), (0:Int), (0:Int), (0:Int), .int .i32 0, (0:Int), (0:Int), .int .i32 0, (0:Int), (0:Int), .int .i32 0, (0:Int), (0:Int)] 53)).alloc (Obj.cells #[k, (0:Int), (0:Int), (0:Int), .int .i32 0, (0:Int), (0:Int), .int .i32 0, (0:Int), (0:Int), .int .i32 0, (0:Int), (0:Int)] 53)) := InK.start h hL _
theorem end_1 (bf : Nat) (v : Value) (fs : List ByteArray) (w : World) (h : FdK bf v fs 1 w) (hL : FdL w.heap.size bf v) (hl : fs.length <= 1000000) (hs : ∀ s, s ∈ fs -> s.size <= 1000000) :
 Calls Tryz.prog 113 #[.pointer (some ⟨bf, 0, none⟩), (1:Int)] w fun e w' => e = .returned (endQ 1 fs.tail).val /\ FdK bf v fs 2 w' /\ Ch bf bf w w' := by
 obtain ⟨x0, hx0⟩ : ∃ x, fs.getD 1 ⟨#[]⟩ = x := ⟨_, rfl⟩
 have HV := lh (show (endQ 1 fs.tail).val = .agg #[(1:Int), (0:Int), (0:Int), (0:Int), .int .i32 0, (0:Int), (0:Int), .int .i32 0, (0:Int), (0:Int), .int .i32 0, (wholeV x0.data.toList), (0:Int)] by
  simp [endQ, rdQ, fldS, cnt, endF, FormV.want, TermV.val, noOpd, tail_getD, <- List.getD_eq_getElem?_getD, hx0])
 rw [HV.out]
 have hlt := h.lt
 have HK0 := lh (InK.start13 h hL 1)
 have HC0 := lh (fun (W : World) (hf : FdK bf v fs 1 W) => number_r bf v fs 1 W hf hl (by decide) hs)
 rw [hx0] at HC0
 clear h hs hl hx0
 go_enter Tryz.func113, Tryz.ntmps113
 go_upto_region 13 with (first
  | (go_at_call 111; (with_reducible refine (HC0.out _ HK0.out.fd).mono ?_); rintro e w1 ⟨rfl, hf1, hc1⟩; have HK1 := lh (show InK w bf v fs 53 53 _ _ _ _ 2 #[(1:Int), (0:Int), (0:Int), (0:Int), .int .i32 0, (0:Int), (0:Int), .int .i32 0, (0:Int), (0:Int), .int .i32 0, (0:Int), (0:Int)] w1 from HK0.out.call hf1 hc1); clear hf1 hc1; have z7 := HK1.out.f7; have q7 := HK1.out.c7))
 obtain ⟨wc, HK, hwc⟩ := InK.ex (show InK w bf v fs 53 53 _ _ _ _ 2 #[(1:Int), (0:Int), (0:Int), (0:Int), .int .i32 0, (0:Int), (0:Int), .int .i32 0, (0:Int), (0:Int), .int .i32 0, (wholeV x0.data.toList), (0:Int)] _ from (HK1.out.set 11 _))
 rw [<- hwc]
 clear hwc
 have kc := HK.out.c7
 have k4 := HK.out.c4
 have z4 := HK.out.f4
 have HZ := lh (fun (W : World) (hW : Below w.heap.size wc W) => show FdK bf v fs 2 W /\ Ch bf bf w W from ⟨HK.out.fd.below HK.out.fl hW, ch_up HK.out.ch hW⟩)
 obtain ⟨V, hV, e5, b5⟩ := stw_ex HK.out.r4 (Nat.le_refl w.heap.size) [(1:Int), (0:Int), (0:Int), (0:Int), .int .i32 0, (0:Int), (0:Int), .int .i32 0, (0:Int), (0:Int), .int .i32 0, .int .i64 (wholeV x0.data.toList), (0:Int)] rfl
 have HV' := lh hV
 clear hV
 go_wp2
 rw [st13, HV'.out]
 have k5 : ∀ o, V.cell? ⟨w.heap.size, o, none⟩ = (#[(1:Int), (0:Int), (0:Int), (0:Int), .int .i32 0, (0:Int), (0:Int), .int .i32 0, (0:Int), (0:Int), .int .i32 0, (wholeV x0.data.toList), (0:Int)] : Array Value)[o]? := fun o => by simp [World.cell?, e5]
 exact bodyPost_ret (v := .agg #[(1:Int), (0:Int), (0:Int), (0:Int), .int .i32 0, (0:Int), (0:Int), .int .i32 0, (0:Int), (0:Int), .int .i32 0, (wholeV x0.data.toList), (0:Int)]) (by simp [results, Tryz.results113, go_sem, k5]) rfl ⟨rfl, HZ.out _ b5⟩
theorem end_2 (bf : Nat) (v : Value) (fs : List ByteArray) (w : World) (h : FdK bf v fs 1 w) (hL : FdL w.heap.size bf v) (hl : fs.length <= 1000000) (hs : ∀ s, s ∈ fs -> s.size <= 1000000) :
 Calls Tryz.prog 113 #[.pointer (some ⟨bf, 0, none⟩), (2:Int)] w fun e w' => e = .returned (endQ 2 fs.tail).val /\ FdK bf v fs 4 w' /\ Ch bf bf w w' := by
 obtain ⟨x0, hx0⟩ : ∃ x, fs.getD 1 ⟨#[]⟩ = x := ⟨_, rfl⟩
 obtain ⟨x1, hx1⟩ : ∃ x, fs.getD 2 ⟨#[]⟩ = x := ⟨_, rfl⟩
 obtain ⟨x2, hx2⟩ : ∃ x, fs.getD 3 ⟨#[]⟩ = x := ⟨_, rfl⟩
 have HV := lh (show (endQ 2 fs.tail).val = .agg #[(2:Int), (0:Int), (0:Int), (0:Int), .int .i32 0, (opdQ x0).k, (opdQ x0).n, .int .i32 (opdQ x0).v, (0:Int), (0:Int), .int .i32 0, (wholeV x1.data.toList), (wholeV x2.data.toList)] by
  simp [endQ, rdQ, fldS, cnt, endF, FormV.want, TermV.val, noOpd, tail_getD, <- List.getD_eq_getElem?_getD, hx0, hx1, hx2])
 rw [HV.out]
 have hlt := h.lt
 have HK0 := lh (InK.start13 h hL 2)
 have HC0 := lh (fun (W : World) (hf : FdK bf v fs 1 W) => operand_r bf v fs 1 W hf hl (by decide) hs)
 rw [hx0] at HC0
 have HC1 := lh (fun (W : World) (hf : FdK bf v fs 2 W) => number_r bf v fs 2 W hf hl (by decide) hs)
 rw [hx1] at HC1
 have HC2 := lh (fun (W : World) (hf : FdK bf v fs 3 W) => number_r bf v fs 3 W hf hl (by decide) hs)
 rw [hx2] at HC2
 clear h hs hl hx0 hx1 hx2
 go_enter Tryz.func113, Tryz.ntmps113
 go_upto_region 13 with (first
  | (go_at_call 143; (with_reducible refine (HC0.out _ HK0.out.fd).mono ?_); rintro e w1 ⟨rfl, hf1, hc1⟩; have HK1 := lh (show InK w bf v fs 53 53 _ _ _ _ 2 #[(2:Int), (0:Int), (0:Int), (0:Int), .int .i32 0, (0:Int), (0:Int), .int .i32 0, (0:Int), (0:Int), .int .i32 0, (0:Int), (0:Int)] w1 from HK0.out.call hf1 hc1); clear hf1 hc1; have z7 := HK1.out.f7; have q7 := HK1.out.c7)
  | (go_at_call 111; (with_reducible refine (HC1.out _ (((HK1.out.set 5 _).set 6 _).set 7 _).fd).mono ?_); rintro e w2 ⟨rfl, hf2, hc2⟩; have HK2 := lh (show InK w bf v fs 53 53 _ _ _ _ 3 #[(2:Int), (0:Int), (0:Int), (0:Int), .int .i32 0, (opdQ x0).k, (opdQ x0).n, .int .i32 (opdQ x0).v, (0:Int), (0:Int), .int .i32 0, (0:Int), (0:Int)] w2 from (((HK1.out.set 5 _).set 6 _).set 7 _).call hf2 hc2); clear hf2 hc2; have z7 := HK2.out.f7; have q7 := HK2.out.c7)
  | (go_at_call 111; (with_reducible refine (HC2.out _ (HK2.out.set 11 _).fd).mono ?_); rintro e w3 ⟨rfl, hf3, hc3⟩; have HK3 := lh (show InK w bf v fs 53 53 _ _ _ _ 4 #[(2:Int), (0:Int), (0:Int), (0:Int), .int .i32 0, (opdQ x0).k, (opdQ x0).n, .int .i32 (opdQ x0).v, (0:Int), (0:Int), .int .i32 0, (wholeV x1.data.toList), (0:Int)] w3 from (HK2.out.set 11 _).call hf3 hc3); clear hf3 hc3; have z7 := HK3.out.f7; have q7 := HK3.out.c7))
 obtain ⟨wc, HK, hwc⟩ := InK.ex (show InK w bf v fs 53 53 _ _ _ _ 4 #[(2:Int), (0:Int), (0:Int), (0:Int), .int .i32 0, (opdQ x0).k, (opdQ x0).n, .int .i32 (opdQ x0).v, (0:Int), (0:Int), .int .i32 0, (wholeV x1.data.toList), (wholeV x2.data.toList)] _ from (HK3.out.set 12 _))
 rw [<- hwc]
 clear hwc
 have kc := HK.out.c7
 have k4 := HK.out.c4
 have z4 := HK.out.f4
 have HZ := lh (fun (W : World) (hW : Below w.heap.size wc W) => show FdK bf v fs 4 W /\ Ch bf bf w W from ⟨HK.out.fd.below HK.out.fl hW, ch_up HK.out.ch hW⟩)
 obtain ⟨V, hV, e5, b5⟩ := stw_ex HK.out.r4 (Nat.le_refl w.heap.size) [(2:Int), (0:Int), (0:Int), (0:Int), .int .i32 0, .int .i64 (opdQ x0).k, .int .i64 (opdQ x0).n, .int .i32 (opdQ x0).v, (0:Int), (0:Int), .int .i32 0, .int .i64 (wholeV x1.data.toList), .int .i64 (wholeV x2.data.toList)] rfl
 have HV' := lh hV
 clear hV
 go_wp2
 rw [st13, HV'.out]
 have k5 : ∀ o, V.cell? ⟨w.heap.size, o, none⟩ = (#[(2:Int), (0:Int), (0:Int), (0:Int), .int .i32 0, (opdQ x0).k, (opdQ x0).n, .int .i32 (opdQ x0).v, (0:Int), (0:Int), .int .i32 0, (wholeV x1.data.toList), (wholeV x2.data.toList)] : Array Value)[o]? := fun o => by simp [World.cell?, e5]
 exact bodyPost_ret (v := .agg #[(2:Int), (0:Int), (0:Int), (0:Int), .int .i32 0, (opdQ x0).k, (opdQ x0).n, .int .i32 (opdQ x0).v, (0:Int), (0:Int), .int .i32 0, (wholeV x1.data.toList), (wholeV x2.data.toList)]) (by simp [results, Tryz.results113, go_sem, k5]) rfl ⟨rfl, HZ.out _ b5⟩
theorem end_3 (bf : Nat) (v : Value) (fs : List ByteArray) (w : World) (h : FdK bf v fs 1 w) (hL : FdL w.heap.size bf v) (hl : fs.length <= 1000000) (hs : ∀ s, s ∈ fs -> s.size <= 1000000) :
 Calls Tryz.prog 113 #[.pointer (some ⟨bf, 0, none⟩), (3:Int)] w fun e w' => e = .returned (endQ 3 fs.tail).val /\ FdK bf v fs 2 w' /\ Ch bf bf w w' := by
 obtain ⟨x0, hx0⟩ : ∃ x, fs.getD 1 ⟨#[]⟩ = x := ⟨_, rfl⟩
 have HV := lh (show (endQ 3 fs.tail).val = .agg #[(3:Int), (0:Int), (0:Int), (0:Int), .int .i32 0, (0:Int), (0:Int), .int .i32 0, (0:Int), (0:Int), .int .i32 0, (wholeV x0.data.toList), (0:Int)] by
  simp [endQ, rdQ, fldS, cnt, endF, FormV.want, TermV.val, noOpd, tail_getD, <- List.getD_eq_getElem?_getD, hx0])
 rw [HV.out]
 have hlt := h.lt
 have HK0 := lh (InK.start13 h hL 3)
 have HC0 := lh (fun (W : World) (hf : FdK bf v fs 1 W) => number_r bf v fs 1 W hf hl (by decide) hs)
 rw [hx0] at HC0
 clear h hs hl hx0
 go_enter Tryz.func113, Tryz.ntmps113
 go_upto_region 13 with (first
  | (go_at_call 111; (with_reducible refine (HC0.out _ HK0.out.fd).mono ?_); rintro e w1 ⟨rfl, hf1, hc1⟩; have HK1 := lh (show InK w bf v fs 53 53 _ _ _ _ 2 #[(3:Int), (0:Int), (0:Int), (0:Int), .int .i32 0, (0:Int), (0:Int), .int .i32 0, (0:Int), (0:Int), .int .i32 0, (0:Int), (0:Int)] w1 from HK0.out.call hf1 hc1); clear hf1 hc1; have z7 := HK1.out.f7; have q7 := HK1.out.c7))
 obtain ⟨wc, HK, hwc⟩ := InK.ex (show InK w bf v fs 53 53 _ _ _ _ 2 #[(3:Int), (0:Int), (0:Int), (0:Int), .int .i32 0, (0:Int), (0:Int), .int .i32 0, (0:Int), (0:Int), .int .i32 0, (wholeV x0.data.toList), (0:Int)] _ from (HK1.out.set 11 _))
 rw [<- hwc]
 clear hwc
 have kc := HK.out.c7
 have k4 := HK.out.c4
 have z4 := HK.out.f4
 have HZ := lh (fun (W : World) (hW : Below w.heap.size wc W) => show FdK bf v fs 2 W /\ Ch bf bf w W from ⟨HK.out.fd.below HK.out.fl hW, ch_up HK.out.ch hW⟩)
 obtain ⟨V, hV, e5, b5⟩ := stw_ex HK.out.r4 (Nat.le_refl w.heap.size) [(3:Int), (0:Int), (0:Int), (0:Int), .int .i32 0, (0:Int), (0:Int), .int .i32 0, (0:Int), (0:Int), .int .i32 0, .int .i64 (wholeV x0.data.toList), (0:Int)] rfl
 have HV' := lh hV
 clear hV
 go_wp2
 rw [st13, HV'.out]
 have k5 : ∀ o, V.cell? ⟨w.heap.size, o, none⟩ = (#[(3:Int), (0:Int), (0:Int), (0:Int), .int .i32 0, (0:Int), (0:Int), .int .i32 0, (0:Int), (0:Int), .int .i32 0, (wholeV x0.data.toList), (0:Int)] : Array Value)[o]? := fun o => by simp [World.cell?, e5]
 exact bodyPost_ret (v := .agg #[(3:Int), (0:Int), (0:Int), (0:Int), .int .i32 0, (0:Int), (0:Int), .int .i32 0, (0:Int), (0:Int), .int .i32 0, (wholeV x0.data.toList), (0:Int)]) (by simp [results, Tryz.results113, go_sem, k5]) rfl ⟨rfl, HZ.out _ b5⟩
theorem end_4 (bf : Nat) (v : Value) (fs : List ByteArray) (w : World) (h : FdK bf v fs 1 w) (hL : FdL w.heap.size bf v) (hl : fs.length <= 1000000) (hs : ∀ s, s ∈ fs -> s.size <= 1000000) :
 Calls Tryz.prog 113 #[.pointer (some ⟨bf, 0, none⟩), (4:Int)] w fun e w' => e = .returned (endQ 4 fs.tail).val /\ FdK bf v fs 6 w' /\ Ch bf bf w w' := by
 obtain ⟨x0, hx0⟩ : ∃ x, fs.getD 1 ⟨#[]⟩ = x := ⟨_, rfl⟩
 obtain ⟨x1, hx1⟩ : ∃ x, fs.getD 2 ⟨#[]⟩ = x := ⟨_, rfl⟩
 obtain ⟨x2, hx2⟩ : ∃ x, fs.getD 3 ⟨#[]⟩ = x := ⟨_, rfl⟩
 obtain ⟨x3, hx3⟩ : ∃ x, fs.getD 4 ⟨#[]⟩ = x := ⟨_, rfl⟩
 obtain ⟨x4, hx4⟩ : ∃ x, fs.getD 5 ⟨#[]⟩ = x := ⟨_, rfl⟩
 have HV := lh (show (endQ 4 fs.tail).val = .agg #[(4:Int), (wholeV x0.data.toList), (opdQ x1).k, (opdQ x1).n, .int .i32 (opdQ x1).v, (opdQ x2).k, (opdQ x2).n, .int .i32 (opdQ x2).v, (opdQ x3).k, (opdQ x3).n, .int .i32 (opdQ x3).v, (wholeV x4.data.toList), (0:Int)] by
  simp [endQ, rdQ, fldS, cnt, endF, FormV.want, TermV.val, noOpd, tail_getD, <- List.getD_eq_getElem?_getD, hx0, hx1, hx2, hx3, hx4])
 rw [HV.out]
 have hlt := h.lt
 have HK0 := lh (InK.start13 h hL 4)
 have HC0 := lh (fun (W : World) (hf : FdK bf v fs 1 W) => number_r bf v fs 1 W hf hl (by decide) hs)
 rw [hx0] at HC0
 have HC1 := lh (fun (W : World) (hf : FdK bf v fs 2 W) => operand_r bf v fs 2 W hf hl (by decide) hs)
 rw [hx1] at HC1
 have HC2 := lh (fun (W : World) (hf : FdK bf v fs 3 W) => operand_r bf v fs 3 W hf hl (by decide) hs)
 rw [hx2] at HC2
 have HC3 := lh (fun (W : World) (hf : FdK bf v fs 4 W) => operand_r bf v fs 4 W hf hl (by decide) hs)
 rw [hx3] at HC3
 have HC4 := lh (fun (W : World) (hf : FdK bf v fs 5 W) => number_r bf v fs 5 W hf hl (by decide) hs)
 rw [hx4] at HC4
 clear h hs hl hx0 hx1 hx2 hx3 hx4
 go_enter Tryz.func113, Tryz.ntmps113
 go_upto_region 13 with (first
  | (go_at_call 111; (with_reducible refine (HC0.out _ HK0.out.fd).mono ?_); rintro e w1 ⟨rfl, hf1, hc1⟩; have HK1 := lh (show InK w bf v fs 53 53 _ _ _ _ 2 #[(4:Int), (0:Int), (0:Int), (0:Int), .int .i32 0, (0:Int), (0:Int), .int .i32 0, (0:Int), (0:Int), .int .i32 0, (0:Int), (0:Int)] w1 from HK0.out.call hf1 hc1); clear hf1 hc1; have z7 := HK1.out.f7; have q7 := HK1.out.c7)
  | (go_at_call 143; (with_reducible refine (HC1.out _ (HK1.out.set 1 _).fd).mono ?_); rintro e w2 ⟨rfl, hf2, hc2⟩; have HK2 := lh (show InK w bf v fs 53 53 _ _ _ _ 3 #[(4:Int), (wholeV x0.data.toList), (0:Int), (0:Int), .int .i32 0, (0:Int), (0:Int), .int .i32 0, (0:Int), (0:Int), .int .i32 0, (0:Int), (0:Int)] w2 from (HK1.out.set 1 _).call hf2 hc2); clear hf2 hc2; have z7 := HK2.out.f7; have q7 := HK2.out.c7)
  | (go_at_call 143; (with_reducible refine (HC2.out _ (((HK2.out.set 2 _).set 3 _).set 4 _).fd).mono ?_); rintro e w3 ⟨rfl, hf3, hc3⟩; have HK3 := lh (show InK w bf v fs 53 53 _ _ _ _ 4 #[(4:Int), (wholeV x0.data.toList), (opdQ x1).k, (opdQ x1).n, .int .i32 (opdQ x1).v, (0:Int), (0:Int), .int .i32 0, (0:Int), (0:Int), .int .i32 0, (0:Int), (0:Int)] w3 from (((HK2.out.set 2 _).set 3 _).set 4 _).call hf3 hc3); clear hf3 hc3; have z7 := HK3.out.f7; have q7 := HK3.out.c7)
  | (go_at_call 143; (with_reducible refine (HC3.out _ (((HK3.out.set 5 _).set 6 _).set 7 _).fd).mono ?_); rintro e w4 ⟨rfl, hf4, hc4⟩; have HK4 := lh (show InK w bf v fs 53 53 _ _ _ _ 5 #[(4:Int), (wholeV x0.data.toList), (opdQ x1).k, (opdQ x1).n, .int .i32 (opdQ x1).v, (opdQ x2).k, (opdQ x2).n, .int .i32 (opdQ x2).v, (0:Int), (0:Int), .int .i32 0, (0:Int), (0:Int)] w4 from (((HK3.out.set 5 _).set 6 _).set 7 _).call hf4 hc4); clear hf4 hc4; have z7 := HK4.out.f7; have q7 := HK4.out.c7)
  | (go_at_call 111; (with_reducible refine (HC4.out _ (((HK4.out.set 8 _).set 9 _).set 10 _).fd).mono ?_); rintro e w5 ⟨rfl, hf5, hc5⟩; have HK5 := lh (show InK w bf v fs 53 53 _ _ _ _ 6 #[(4:Int), (wholeV x0.data.toList), (opdQ x1).k, (opdQ x1).n, .int .i32 (opdQ x1).v, (opdQ x2).k, (opdQ x2).n, .int .i32 (opdQ x2).v, (opdQ x3).k, (opdQ x3).n, .int .i32 (opdQ x3).v, (0:Int), (0:Int)] w5 from (((HK4.out.set 8 _).set 9 _).set 10 _).call hf5 hc5); clear hf5 hc5; have z7 := HK5.out.f7; have q7 := HK5.out.c7))
 obtain ⟨wc, HK, hwc⟩ := InK.ex (show InK w bf v fs 53 53 _ _ _ _ 6 #[(4:Int), (wholeV x0.data.toList), (opdQ x1).k, (opdQ x1).n, .int .i32 (opdQ x1).v, (opdQ x2).k, (opdQ x2).n, .int .i32 (opdQ x2).v, (opdQ x3).k, (opdQ x3).n, .int .i32 (opdQ x3).v, (wholeV x4.data.toList), (0:Int)] _ from (HK5.out.set 11 _))
 rw [<- hwc]
 clear hwc
 have kc := HK.out.c7
 have k4 := HK.out.c4
 have z4 := HK.out.f4
 have HZ := lh (fun (W : World) (hW : Below w.heap.size wc W) => show FdK bf v fs 6 W /\ Ch bf bf w W from ⟨HK.out.fd.below HK.out.fl hW, ch_up HK.out.ch hW⟩)
 obtain ⟨V, hV, e5, b5⟩ := stw_ex HK.out.r4 (Nat.le_refl w.heap.size) [(4:Int), .int .i64 (wholeV x0.data.toList), .int .i64 (opdQ x1).k, .int .i64 (opdQ x1).n, .int .i32 (opdQ x1).v, .int .i64 (opdQ x2).k, .int .i64 (opdQ x2).n, .int .i32 (opdQ x2).v, .int .i64 (opdQ x3).k, .int .i64 (opdQ x3).n, .int .i32 (opdQ x3).v, .int .i64 (wholeV x4.data.toList), (0:Int)] rfl
 have HV' := lh hV
 clear hV
 go_wp2
 rw [st13, HV'.out]
 have k5 : ∀ o, V.cell? ⟨w.heap.size, o, none⟩ = (#[(4:Int), (wholeV x0.data.toList), (opdQ x1).k, (opdQ x1).n, .int .i32 (opdQ x1).v, (opdQ x2).k, (opdQ x2).n, .int .i32 (opdQ x2).v, (opdQ x3).k, (opdQ x3).n, .int .i32 (opdQ x3).v, (wholeV x4.data.toList), (0:Int)] : Array Value)[o]? := fun o => by simp [World.cell?, e5]
 exact bodyPost_ret (v := .agg #[(4:Int), (wholeV x0.data.toList), (opdQ x1).k, (opdQ x1).n, .int .i32 (opdQ x1).v, (opdQ x2).k, (opdQ x2).n, .int .i32 (opdQ x2).v, (opdQ x3).k, (opdQ x3).n, .int .i32 (opdQ x3).v, (wholeV x4.data.toList), (0:Int)]) (by simp [results, Tryz.results113, go_sem, k5]) rfl ⟨rfl, HZ.out _ b5⟩
theorem end_5 (bf : Nat) (v : Value) (fs : List ByteArray) (w : World) (h : FdK bf v fs 1 w) (hL : FdL w.heap.size bf v) (hl : fs.length <= 1000000) (hs : ∀ s, s ∈ fs -> s.size <= 1000000) :
 Calls Tryz.prog 113 #[.pointer (some ⟨bf, 0, none⟩), (5:Int)] w fun e w' => e = .returned (endQ 5 fs.tail).val /\ FdK bf v fs 1 w' /\ Ch bf bf w w' := by
 have HV := lh (show (endQ 5 fs.tail).val = .agg #[(5:Int), (0:Int), (0:Int), (0:Int), .int .i32 0, (0:Int), (0:Int), .int .i32 0, (0:Int), (0:Int), .int .i32 0, (0:Int), (0:Int)] by
  simp [endQ, rdQ, fldS, cnt, endF, FormV.want, TermV.val, noOpd, tail_getD, <- List.getD_eq_getElem?_getD])
 rw [HV.out]
 have hlt := h.lt
 have HK0 := lh (InK.start13 h hL 5)
 clear h hs hl
 go_enter Tryz.func113, Tryz.ntmps113
 go_upto_region 13 with fail
 obtain ⟨wc, HK, hwc⟩ := InK.ex (show InK w bf v fs 53 53 _ _ _ _ 1 #[(5:Int), (0:Int), (0:Int), (0:Int), .int .i32 0, (0:Int), (0:Int), .int .i32 0, (0:Int), (0:Int), .int .i32 0, (0:Int), (0:Int)] _ from HK0.out)
 rw [<- hwc]
 clear hwc
 have kc := HK.out.c7
 have k4 := HK.out.c4
 have z4 := HK.out.f4
 have HZ := lh (fun (W : World) (hW : Below w.heap.size wc W) => show FdK bf v fs 1 W /\ Ch bf bf w W from ⟨HK.out.fd.below HK.out.fl hW, ch_up HK.out.ch hW⟩)
 obtain ⟨V, hV, e5, b5⟩ := stw_ex HK.out.r4 (Nat.le_refl w.heap.size) [(5:Int), (0:Int), (0:Int), (0:Int), .int .i32 0, (0:Int), (0:Int), .int .i32 0, (0:Int), (0:Int), .int .i32 0, (0:Int), (0:Int)] rfl
 have HV' := lh hV
 clear hV
 go_wp2
 rw [st13, HV'.out]
 have k5 : ∀ o, V.cell? ⟨w.heap.size, o, none⟩ = (#[(5:Int), (0:Int), (0:Int), (0:Int), .int .i32 0, (0:Int), (0:Int), .int .i32 0, (0:Int), (0:Int), .int .i32 0, (0:Int), (0:Int)] : Array Value)[o]? := fun o => by simp [World.cell?, e5]
 exact bodyPost_ret (v := .agg #[(5:Int), (0:Int), (0:Int), (0:Int), .int .i32 0, (0:Int), (0:Int), .int .i32 0, (0:Int), (0:Int), .int .i32 0, (0:Int), (0:Int)]) (by simp [results, Tryz.results113, go_sem, k5]) rfl ⟨rfl, HZ.out _ b5⟩
def up1 (b : Bool) (j : Nat) : Nat := if b = true then j + 1 else j
def pickO (b : Bool) (s : ByteArray) : OpdV := if b = true then opdQ s else noOpd
theorem inst_any (bf : Nat) (v : Value) (fs : List ByteArray) (w : World) (op : Int) (hop : 1 <= op /\ op <= 12) (h : FdK bf v fs 1 w) (hL : FdL w.heap.size bf v) (hl : fs.length <= 1000000) (hs : ∀ s, s ∈ fs -> s.size <= 1000000) :
 Calls Tryz.prog 112 #[.pointer (some ⟨bf, 0, none⟩), op] w fun e w' => e = .returned (instQ op fs.tail).val /\ Ch bf bf w w' := by
 have key : ∀ (xs xn xd : Bool) (xv : Int), shpF op = ⟨xs, xn, xd, xv⟩ -> Calls Tryz.prog 112 #[.pointer (some ⟨bf, 0, none⟩), op] w fun e w' => e = .returned (.agg #[op, .int .i64 (if xs = true then wholeV (fs.getD 1 ⟨#[]⟩).data.toList else 0), .int .i64 (if xn = true then wholeV (fs.getD (up1 xs 1) ⟨#[]⟩).data.toList else 0),
  .int .i64 (pickO xd (fs.getD (up1 xn (up1 xs 1)) ⟨#[]⟩)).k, .int .i64 (pickO xd (fs.getD (up1 xn (up1 xs 1)) ⟨#[]⟩)).n, .int .i32 (pickO xd (fs.getD (up1 xn (up1 xs 1)) ⟨#[]⟩)).v,
  .int .i64 (pickO (decide (0 < xv)) (fs.getD (up1 xd (up1 xn (up1 xs 1))) ⟨#[]⟩)).k, .int .i64 (pickO (decide (0 < xv)) (fs.getD (up1 xd (up1 xn (up1 xs 1))) ⟨#[]⟩)).n, .int .i32 (pickO (decide (0 < xv)) (fs.getD (up1 xd (up1 xn (up1 xs 1))) ⟨#[]⟩)).v,
  .int .i64 (pickO (decide (1 < xv)) (fs.getD (up1 (decide (0 < xv)) (up1 xd (up1 xn (up1 xs 1)))) ⟨#[]⟩)).k, .int .i64 (pickO (decide (1 < xv)) (fs.getD (up1 (decide (0 < xv)) (up1 xd (up1 xn (up1 xs 1)))) ⟨#[]⟩)).n, .int .i32 (pickO (decide (1 < xv)) (fs.getD (up1 (decide (0 < xv)) (up1 xd (up1 xn (up1 xs 1)))) ⟨#[]⟩)).v,
  .int .i64 (pickO (decide (2 < xv)) (fs.getD (up1 (decide (1 < xv)) (up1 (decide (0 < xv)) (up1 xd (up1 xn (up1 xs 1))))) ⟨#[]⟩)).k, .int .i64 (pickO (decide (2 < xv)) (fs.getD (up1 (decide (1 < xv)) (up1 (decide (0 < xv)) (up1 xd (up1 xn (up1 xs 1))))) ⟨#[]⟩)).n, .int .i32 (pickO (decide (2 < xv)) (fs.getD (up1 (decide (1 < xv)) (up1 (decide (0 < xv)) (up1 xd (up1 xn (up1 xs 1))))) ⟨#[]⟩)).v]) /\ Ch bf bf w w' := by
  intro xs xn xd xv hsh
  have u : ∀ (b : Bool) j, up1 b j <= j + 1 := fun b j => by unfold up1; split <;> omega
  have u1 := u xs 1
  have u2 := u xn (up1 xs 1)
  have u3 := u xd (up1 xn (up1 xs 1))
  have u4 := u (decide (0 < xv)) (up1 xd (up1 xn (up1 xs 1)))
  have u5 := u (decide (1 < xv)) (up1 (decide (0 < xv)) (up1 xd (up1 xn (up1 xs 1))))
  have ud : ∀ (P : Prop) [Decidable P] (j : Nat), (P -> up1 (decide P) j = j + 1) /\ (¬ P -> up1 (decide P) j = j) := fun P _ j => ⟨fun p => by simp [up1, p], fun p => by simp [up1, p]⟩
  have pd : ∀ (P : Prop) [Decidable P] (s : ByteArray), (P -> pickO (decide P) s = opdQ s) /\ (¬ P -> pickO (decide P) s = noOpd) := fun P _ s => ⟨fun p => by simp [pickO, p], fun p => by simp [pickO, p]⟩
  refine (inst_gen bf v fs w op xs xn xd xv hsh 1 (up1 xs 1) (up1 xn (up1 xs 1)) (up1 xd (up1 xn (up1 xs 1))) (up1 (decide (0 < xv)) (up1 xd (up1 xn (up1 xs 1)))) (up1 (decide (1 < xv)) (up1 (decide (0 < xv)) (up1 xd (up1 xn (up1 xs 1))))) (up1 (decide (2 < xv)) (up1 (decide (1 < xv)) (up1 (decide (0 < xv)) (up1 xd (up1 xn (up1 xs 1))))))
   _ _ _ _ _ _ h hL hl hs (by omega) (lh rfl) (lh rfl) (lh rfl) (lh rfl) (lh rfl) (lh rfl) (lh (ud _ _)) (lh (pd _ _)) (lh (ud _ _)) (lh (pd _ _)) (lh (ud _ _)) (lh (pd _ _))).mono ?_
  rintro e w' ⟨he, _, hc⟩
  exact ⟨he, hc⟩
 obtain ⟨⟨xs, xn, xd, xv⟩, hsh⟩ : ∃ s, shpF op = s := ⟨_, rfl⟩
 have hk := key xs xn xd xv hsh
 clear key
 have h12 : op = 1 \/ op = 2 \/ op = 3 \/ op = 4 \/ op = 5 \/ op = 6 \/ op = 7 \/ op = 8 \/ op = 9 \/ op = 10 \/ op = 11 \/ op = 12 := by omega
 refine hk.mono ?_
 rintro e w' ⟨rfl, hc⟩
 refine ⟨congrArg Ending.returned ?_, hc⟩
 clear hk hc h hL hl hs hop
 rcases h12 with rfl | rfl | rfl | rfl | rfl | rfl | rfl | rfl | rfl | rfl | rfl | rfl
 all_goals
  injection hsh with e1 e2 e3 e4
  subst e1 e2 e3 e4
  simp [instQ, rdQ, fldS, cnt, instF, FormV.want, InstV.val, noOpd, tail_getD, up1, pickO]
theorem end_any (bf : Nat) (v : Value) (fs : List ByteArray) (w : World) (k : Int) (hk : 1 <= k /\ k <= 5) (h : FdK bf v fs 1 w) (hL : FdL w.heap.size bf v) (hl : fs.length <= 1000000) (hs : ∀ s, s ∈ fs -> s.size <= 1000000) :
 Calls Tryz.prog 113 #[.pointer (some ⟨bf, 0, none⟩), k] w fun e w' => e = .returned (endQ k fs.tail).val /\ Ch bf bf w w' := by
 have h5 : k = 1 \/ k = 2 \/ k = 3 \/ k = 4 \/ k = 5 := by omega
 rcases h5 with rfl | rfl | rfl | rfl | rfl
 . exact (end_1 bf v fs w h hL hl hs).mono fun e w' ⟨a, _, c⟩ => ⟨a, c⟩
 . exact (end_2 bf v fs w h hL hl hs).mono fun e w' ⟨a, _, c⟩ => ⟨a, c⟩
 . exact (end_3 bf v fs w h hL hl hs).mono fun e w' ⟨a, _, c⟩ => ⟨a, c⟩
 . exact (end_4 bf v fs w h hL hl hs).mono fun e w' ⟨a, _, c⟩ => ⟨a, c⟩
 . exact (end_5 bf v fs w h hL hl hs).mono fun e w' ⟨a, _, c⟩ => ⟨a, c⟩
end Go.Proofs.YtkncilgmlkeifaaGreatDoor
