import Derived.Test.YtkncilgmlkeifaaGreatDoorWre
import Derived.Test.YtkncilgmlkeifaaGreatDoorRcd
import Derived.Test.YtkncilgmlkeifaaGreatDoorRrt
/-
  The reference's writer: the contract of Line.
-/
set_option linter.unusedVariables false
set_option linter.unusedSimpArgs false
namespace Go.Proofs.YtkncilgmlkeifaaGreatDoor
open Go.ChangeShapes Go.WideShapes Go.ChangeAt Go.RowKit Go.Shelf
def valsT (l : Nat -> OpdV) : Nat -> List UInt8
 | 0 => []
 | k + 1 => valsT l k ++ shwT (l k)
theorem valsT_len {l : Nat -> OpdV} (h : ∀ j, (l j).Rng) : ∀ k, (valsT l k).length <= k * 30
 | 0 => Nat.le_refl _
 | k + 1 => by
  have h1 := valsT_len h k
  have h2 := shwT_len (h k)
  simp only [valsT, List.length_append]
  omega
def baseS (i : InstV) : List UInt8 := (instF i.op).word.toList ++ (if (shpF i.op).sub = true then numsT (fun _ => i.sub) 1 else []) ++ (if (shpF i.op).n = true then numsT (fun _ => i.n) 1 else []) ++ (if (shpF i.op).d = true then shwT i.d else [])
def lineS (i : InstV) : List UInt8 := baseS i ++ valsT (lstO [i.a, i.b, i.c]) (shpF i.op).vs.toNat ++ [10]
theorem ri_one1 (W : World) (s : Int) (b : Nat) (hb : b = W.heap.size) : RI (W.alloc (.cells #[s] 3)) (W.alloc (.cells #[s] 3)).heap.size (some ⟨b, 0, none⟩) 1 (fun _ => s) := fun _ => by
 subst hb
 refine ⟨W.heap.size, 0, rfl, by simp, fun j hj => ?_⟩
 obtain rfl : j = 0 := by omega
 simp
theorem instF_words : ∀ j : Nat, j < 12 -> (instF ((j : Int) + 1)).word.size <= 10 := by decide +kernel
theorem word_len {op : Int} (h : 1 <= op /\ op <= 12) : (instF op).word.size <= 10 := by
 have := instF_words (op - 1).toNat (by omega)
 rwa [show (((op - 1).toNat : Nat) : Int) + 1 = op by omega] at this
theorem shpL_vs {op : Int} (h : 1 <= op /\ op <= 12) : 0 <= (shpF op).vs /\ (shpF op).vs <= 3 := by
 have h12 : ∀ j : Nat, j < 12 -> 0 <= (shpF ((j : Int) + 1)).vs /\ (shpF ((j : Int) + 1)).vs <= 3 := by decide +kernel
 have := h12 (op - 1).toNat (by omega)
 rwa [show (((op - 1).toNat : Nat) : Int) + 1 = op by omega] at this
def strsR : List Value := [.string ⟨#[]⟩, .string ⟨#[109, 111, 118]⟩, .string ⟨#[117, 110]⟩, .string ⟨#[98, 105, 110]⟩, .string ⟨#[115, 101, 108]⟩, .string ⟨#[105, 100]⟩, .string ⟨#[112, 97, 114, 97, 109]⟩, .string ⟨#[108, 111, 97, 100]⟩, .string ⟨#[115, 116, 111, 114, 101]⟩, .string ⟨#[97, 116, 111, 109]⟩, .string ⟨#[102, 101, 110, 99, 101]⟩, .string ⟨#[103, 101, 116]⟩, .string ⟨#[112, 117, 116]⟩]
theorem strsR_at {op : Int} (h : 1 <= op /\ op <= 12) : strsR[op.toNat]? = some (.string ⟨(instF op).word⟩) := by
 have hop : op = 1 \/ op = 2 \/ op = 3 \/ op = 4 \/ op = 5 \/ op = 6 \/ op = 7 \/ op = 8 \/ op = 9 \/ op = 10 \/ op = 11 \/ op = 12 := by omega
 rcases hop with rfl | rfl | rfl | rfl | rfl | rfl | rfl | rfl | rfl | rfl | rfl | rfl <;> rfl
theorem bs_snoc (X : ByteArray) : X ++ ⟨#[10]⟩ = ⟨(X.data.toList ++ [10]).toArray⟩ := by
 obtain ⟨⟨l⟩⟩ := X
 rfl
theorem toN_bs (X : ByteArray) (L : List UInt8) : (X ++ ⟨L.toArray⟩).data.toList = X.data.toList ++ L := by simp
set_option maxRecDepth 100000 in
set_option maxHeartbeats 8000000 in
theorem Line_any (i : InstV) (w : World) (hr : i.parts.Rng) (hop : 1 <= i.op /\ i.op <= 12) : Calls Tryz.prog 52 #[i.val] w fun e w' => e = .returned (.string ⟨(lineS i).toArray⟩) /\ Below w.heap.size w w' := by
 have hvs := shpL_vs hop
 have hwl := word_len hop
 have hat := strsR_at hop
 have hlr : ∀ j, (lstO [i.a, i.b, i.c] j).Rng := fun j => by
  match j with
  | 0 => exact hr.a
  | 1 => exact hr.b
  | 2 => exact hr.c
  | j + 3 => exact (⟨⟨by decide, by decide⟩, ⟨by decide, by decide⟩⟩ : noOpd.Rng)
 have hvl := valsT_len hlr
 unfold lineS
 obtain ⟨B, hB⟩ : ∃ B, baseS i = B := ⟨_, rfl⟩
 rw [hB]
 unfold baseS at hB
 obtain ⟨op, s, n, ⟨dk, dn, dv⟩, ⟨ak, an, av⟩, ⟨bk, bn, bv⟩, ⟨ck, cn, cv⟩⟩ := i
 have HF := lh (fun W => form_r op W)
 simp only at hvs hat hwl hlr hvl hop hB ⊢
 rw [show decide (1 <= op /\ op <= 12) = true from decide_eq_true hop] at HF
 obtain ⟨⟨xs, xn, xd, xv⟩, hsh⟩ : ∃ sh, shpF op = sh := ⟨_, rfl⟩
 rw [hsh] at HF hvs hB ⊢
 simp only at hB hvs HF ⊢
 obtain ⟨v, rfl⟩ : ∃ v : Nat, xv = v := ⟨xv.toNat, by omega⟩
 obtain ⟨lo, hlo⟩ : ∃ lo, lstO [⟨ak, an, av⟩, ⟨bk, bn, bv⟩, ⟨ck, cn, cv⟩] = lo := ⟨_, rfl⟩
 have HRO := lh (fun (W : World) => show RO (W.alloc (.cells #[ak, an, .int .i32 av, bk, bn, .int .i32 bv, ck, cn, .int .i32 cv] 27)) (W.heap.size + 1) (some ⟨W.heap.size, 0, none⟩) 3 lo from hlo ▸ ro3 W ⟨ak, an, av⟩ ⟨bk, bn, bv⟩ ⟨ck, cn, cv⟩ 27 _ _ rfl (by omega))
 rw [hlo] at hlr hvl ⊢
 rw [Int.toNat_natCast]
 obtain ⟨wd, hwd⟩ : ∃ wd, (instF op).word = wd := ⟨_, rfl⟩
 rw [hwd] at hat hB hwl
 have HKI := lh (OneK.start (w := w) (T := 61) (K := #[op, s, n, dk, dn, .int .i32 dv, ak, an, .int .i32 av, bk, bn, .int .i32 bv, ck, cn, .int .i32 cv]))
 have HUS := lh (fun (W : World) (b : Nat) (hb : b = W.heap.size) => numbers_any (some ⟨b, 0, none⟩) 1 1 (fun _ => s) (W.alloc (.cells #[s] 3)) (by decide) (ri_one1 W s b hb) (fun _ _ => hr.sub))
 have HUN := lh (fun (W : World) (b : Nat) (hb : b = W.heap.size) => numbers_any (some ⟨b, 0, none⟩) 1 1 (fun _ => n) (W.alloc (.cells #[n] 3)) (by decide) (ri_one1 W n b hb) (fun _ _ => hr.n))
 have HSD := lh (fun W => shown_any ⟨dk, dn, dv⟩ W hr.d)
 have HSV := lh (fun (k : Nat) W => shown_any (lo k) W (hlr k))
 have hl1 := numsT_len (n := 1) (f := fun _ => s) (fun j _ => hr.sub) 1 (Nat.le_refl _)
 have hl2 := numsT_len (n := 1) (f := fun _ => n) (fun j _ => hr.n) 1 (Nat.le_refl _)
 have hl3 := shwT_len (o := ⟨dk, dn, dv⟩) hr.d
 have HVL := lh (fun (k : Nat) (h : k < 3) => show (shwT (lo k)).length <= 30 from shwT_len (hlr k))
 obtain ⟨Ns, hNs⟩ : ∃ N, numsT (fun _ => s) 1 = N := ⟨_, rfl⟩
 obtain ⟨Nn, hNn⟩ : ∃ N, numsT (fun _ => n) 1 = N := ⟨_, rfl⟩
 obtain ⟨D, hD⟩ : ∃ D, shwT ⟨dk, dn, dv⟩ = D := ⟨_, rfl⟩
 rw [hNs] at hl1 HUS hB
 rw [hNn] at hl2 HUN hB
 rw [hD] at hl3 HSD hB
 have hbl : B.length <= 200 := by rw [<- hB]; cases xs <;> cases xn <;> cases xd <;> simp <;> omega
 have hop0 : 0 <= op := by omega
 have hop1 : op < 13 := by omega
 have q1 : ¬ 9223372036854775807 < wd.size + Ns.length := by omega
 have q2 : ¬ 9223372036854775807 < wd.size + Nn.length := by omega
 have q3 : ¬ 9223372036854775807 < wd.size + Ns.length + Nn.length := by omega
 have q4 : ¬ 9223372036854775807 < wd.size + D.length := by omega
 have q5 : ¬ 9223372036854775807 < wd.size + Ns.length + D.length := by omega
 have q6 : ¬ 9223372036854775807 < wd.size + Nn.length + D.length := by omega
 have q7 : ¬ 9223372036854775807 < wd.size + Ns.length + Nn.length + D.length := by omega
 have HBe := lh hB
 have HAT := lh hat
 have HVS := lh hvl
 clear hB hat hr hlr hwd hNs hNn hD hsh hop hl1 hl2 hl3 hwl hvl hlo
 simp only [InstV.val]
 go_enter Tryz.func52, Tryz.ntmps52
 go_upto_region 2 with (first | (go_at_call 91; (with_reducible refine (HF.out _).mono ?_); rintro e w1 ⟨rfl, hb1⟩; have HK1 := lh (HKI.out.step hb1); clear hb1))
 have HJ1 := lh (OneK.start (w := w1) (T := 153) (K := #[.bool xs, .bool xn, .bool xd, v]))
 have HK2 := lh (HK1.out.step (bo (.cells #[.bool xs, .bool xn, .bool xd, v] 153)))
 generalize hW : w1.alloc (.cells #[.bool xs, .bool xn, .bool xd, v] 153) = W2 at HJ1 HK2 ⊢
 have hb1 : w1.heap.size < W2.heap.size := by rw [<- hW]; simp
 clear hW
 have ka := fun (o : Obj) => (HK2.out.step (bo o)).ck
 go_cut [5] (fun s5 wx => s5 = .string ⟨wd⟩ /\ Hid (Below W2.heap.size W2 wx))
 case first =>
  go_wp2
  go_meet
  exact ⟨Option.some.inj ((List.getElem?_eq_getElem _).symm.trans HAT.out), lh (bo _)⟩
 case rest =>
  obtain ⟨rfl, hbx⟩ := hcut
  have HK := lh (HK2.out.step hbx.out)
  have HJ := lh (HJ1.out.step hbx.out)
  have kc := HK.out.ck
  have jc := HJ.out.ck
  clear ka HKI HK1 HK2 HJ1 hbx
  cases xs <;> cases xn <;> cases xd
  . go_wp2_with (first
     | (go_at_call 51; (with_reducible first | refine (HUS.out _ _ rfl).mono ?_ | refine (HUN.out _ _ rfl).mono ?_); rintro e w4 ⟨rfl, hb4⟩; have HK' := lh ((HK.out.step (bo _)).step hb4); have HJ' := lh ((HJ.out.step (bo _)).step hb4); clear hb4 kc jc HK HJ; have HK := HK'; have HJ := HJ'; clear HK' HJ'; have kc := HK.out.ck; have jc := HJ.out.ck)
     | (go_at_call 92; (with_reducible refine (HSD.out _).mono ?_); rintro e w5 ⟨rfl, hb5⟩; have HK' := lh (HK.out.step hb5); have HJ' := lh (HJ.out.step hb5); clear hb5 kc jc HK HJ; have HK := HK'; have HJ := HJ'; clear HK' HJ'; have kc := HK.out.ck; have jc := HJ.out.ck))
    go_loopg [5, 7] v (fun g z5 z7 wx => ∃ (k : Nat) (X : ByteArray), z5 = .string X /\ z7 = .int .i64 k /\ k + g = v /\ Hid (X.data.toList = B ++ valsT lo k) /\ Hid (Below w.heap.size w wx) /\ Hid (∀ o, wx.cell? ⟨w1.heap.size, o, none⟩ = (#[.bool false, .bool false, .bool false, v] : Array Value)[o]?) /\ Hid (w1.heap.size < wx.heap.size) /\ Hid (RO wx wx.heap.size (some ⟨wc.heap.size, 0, none⟩) 3 lo))
    case atStart => exact ⟨0, _, rfl, rfl, by omega, lh (by rw [<- HBe.out]; simp [valsT]), lh (HK.out.step (bo _)).below, lh (HJ.out.step (bo _)).ck, lh (by have := HJ.out.size; simp; omega), lh (by rw [World.size_alloc]; exact HRO.out _)⟩
    case round =>
     obtain ⟨k, X, rfl, rfl, hkg, HX, HB, HC, HLt, HO⟩ := hrel
     have jc := HC.out
     have hxl : X.size <= 400 := by
      have e : X.size = (B ++ valsT lo k).length := by rw [<- HX.out, Array.length_toList]; rfl
      have := HVS.out k
      rw [e, List.length_append]
      omega
     cases gk with
     | zero =>
      have hk0 : ¬ ((k : Int) < (v : Int)) := by omega
      obtain rfl : k = v := by omega
      have hq : ¬ 9223372036854775807 < X.size + 1 := by omega
      go_wp2
      refine bodyPost_ret (v := .string (X ++ ⟨#[10]⟩)) (by simp [results, Tryz.results52, go_sem]) rfl ⟨ret_s ?_, HB.out⟩
      rw [<- List.append_assoc, <- HX.out]
      exact bs_snoc X
     | succ g =>
      have hk1 : k < v := by omega
      have hk2 : (k : Int) < (v : Int) := by omega
      have hk3 : (k : Int) < 3 := by omega
      have hk4 : 0 <= (k : Int) := by omega
      obtain ⟨b2, o2, hbe, hb2, hc2⟩ := HO.out (by omega)
      obtain ⟨rfl, rfl⟩ : wc.heap.size = b2 /\ 0 = o2 := by simpa using hbe
      clear hbe
      obtain ⟨m1, m2, m3⟩ := hc2 k (by omega)
      rw [Nat.zero_add] at m1 m2 m3
      clear hc2
      have hvl := HVL.out k (by omega)
      have hq : ¬ 9223372036854775807 < X.size + (shwT (lo k)).length := by omega
      obtain ⟨wo, rfl⟩ : ∃ wo : World, wo = wr := ⟨_, rfl⟩
      go_wp2_with (first | (go_at_call 92; refine (HSV.out k _).mono ?_; rintro e w6 ⟨rfl, hb6⟩))
      go_roundg g
      case measure => omega
      case rel => exact ⟨k + 1, _, rfl, by go_num, by omega, lh (by rw [toN_bs, HX.out, List.append_assoc]; rfl), lh (HB.out.trans (hb6.mono HB.out.size)), lh (fun o => (hb6.cell (p := ⟨w1.heap.size, o, none⟩) HLt.out).trans (HC.out o)), lh (Nat.lt_of_lt_of_le HLt.out hb6.size), lh (fun h => by
       obtain ⟨b3, o3, e3, h3, c3⟩ := HO.out.below hb6 h
       exact ⟨b3, o3, e3, Nat.lt_of_lt_of_le h3 hb6.size, c3⟩)⟩
  . go_wp2_with (first
     | (go_at_call 51; (with_reducible first | refine (HUS.out _ _ rfl).mono ?_ | refine (HUN.out _ _ rfl).mono ?_); rintro e w4 ⟨rfl, hb4⟩; have HK' := lh ((HK.out.step (bo _)).step hb4); have HJ' := lh ((HJ.out.step (bo _)).step hb4); clear hb4 kc jc HK HJ; have HK := HK'; have HJ := HJ'; clear HK' HJ'; have kc := HK.out.ck; have jc := HJ.out.ck)
     | (go_at_call 92; (with_reducible refine (HSD.out _).mono ?_); rintro e w5 ⟨rfl, hb5⟩; have HK' := lh (HK.out.step hb5); have HJ' := lh (HJ.out.step hb5); clear hb5 kc jc HK HJ; have HK := HK'; have HJ := HJ'; clear HK' HJ'; have kc := HK.out.ck; have jc := HJ.out.ck))
    go_loopg [5, 7] v (fun g z5 z7 wx => ∃ (k : Nat) (X : ByteArray), z5 = .string X /\ z7 = .int .i64 k /\ k + g = v /\ Hid (X.data.toList = B ++ valsT lo k) /\ Hid (Below w.heap.size w wx) /\ Hid (∀ o, wx.cell? ⟨w1.heap.size, o, none⟩ = (#[.bool false, .bool false, .bool true, v] : Array Value)[o]?) /\ Hid (w1.heap.size < wx.heap.size) /\ Hid (RO wx wx.heap.size (some ⟨w5.heap.size, 0, none⟩) 3 lo))
    case atStart => exact ⟨0, _, rfl, rfl, by omega, lh (by rw [<- HBe.out]; simp [valsT]), lh (HK.out.step (bo _)).below, lh (HJ.out.step (bo _)).ck, lh (by have := HJ.out.size; simp; omega), lh (by rw [World.size_alloc]; exact HRO.out _)⟩
    case round =>
     obtain ⟨k, X, rfl, rfl, hkg, HX, HB, HC, HLt, HO⟩ := hrel
     have jc := HC.out
     have hxl : X.size <= 400 := by
      have e : X.size = (B ++ valsT lo k).length := by rw [<- HX.out, Array.length_toList]; rfl
      have := HVS.out k
      rw [e, List.length_append]
      omega
     cases gk with
     | zero =>
      have hk0 : ¬ ((k : Int) < (v : Int)) := by omega
      obtain rfl : k = v := by omega
      have hq : ¬ 9223372036854775807 < X.size + 1 := by omega
      go_wp2
      refine bodyPost_ret (v := .string (X ++ ⟨#[10]⟩)) (by simp [results, Tryz.results52, go_sem]) rfl ⟨ret_s ?_, HB.out⟩
      rw [<- List.append_assoc, <- HX.out]
      exact bs_snoc X
     | succ g =>
      have hk1 : k < v := by omega
      have hk2 : (k : Int) < (v : Int) := by omega
      have hk3 : (k : Int) < 3 := by omega
      have hk4 : 0 <= (k : Int) := by omega
      obtain ⟨b2, o2, hbe, hb2, hc2⟩ := HO.out (by omega)
      obtain ⟨rfl, rfl⟩ : w5.heap.size = b2 /\ 0 = o2 := by simpa using hbe
      clear hbe
      obtain ⟨m1, m2, m3⟩ := hc2 k (by omega)
      rw [Nat.zero_add] at m1 m2 m3
      clear hc2
      have hvl := HVL.out k (by omega)
      have hq : ¬ 9223372036854775807 < X.size + (shwT (lo k)).length := by omega
      obtain ⟨wo, rfl⟩ : ∃ wo : World, wo = wr := ⟨_, rfl⟩
      go_wp2_with (first | (go_at_call 92; refine (HSV.out k _).mono ?_; rintro e w6 ⟨rfl, hb6⟩))
      go_roundg g
      case measure => omega
      case rel => exact ⟨k + 1, _, rfl, by go_num, by omega, lh (by rw [toN_bs, HX.out, List.append_assoc]; rfl), lh (HB.out.trans (hb6.mono HB.out.size)), lh (fun o => (hb6.cell (p := ⟨w1.heap.size, o, none⟩) HLt.out).trans (HC.out o)), lh (Nat.lt_of_lt_of_le HLt.out hb6.size), lh (fun h => by
       obtain ⟨b3, o3, e3, h3, c3⟩ := HO.out.below hb6 h
       exact ⟨b3, o3, e3, Nat.lt_of_lt_of_le h3 hb6.size, c3⟩)⟩
  . go_wp2_with (first
     | (go_at_call 51; (with_reducible first | refine (HUS.out _ _ rfl).mono ?_ | refine (HUN.out _ _ rfl).mono ?_); rintro e w4 ⟨rfl, hb4⟩; have HK' := lh ((HK.out.step (bo _)).step hb4); have HJ' := lh ((HJ.out.step (bo _)).step hb4); clear hb4 kc jc HK HJ; have HK := HK'; have HJ := HJ'; clear HK' HJ'; have kc := HK.out.ck; have jc := HJ.out.ck)
     | (go_at_call 92; (with_reducible refine (HSD.out _).mono ?_); rintro e w5 ⟨rfl, hb5⟩; have HK' := lh (HK.out.step hb5); have HJ' := lh (HJ.out.step hb5); clear hb5 kc jc HK HJ; have HK := HK'; have HJ := HJ'; clear HK' HJ'; have kc := HK.out.ck; have jc := HJ.out.ck))
    go_loopg [5, 7] v (fun g z5 z7 wx => ∃ (k : Nat) (X : ByteArray), z5 = .string X /\ z7 = .int .i64 k /\ k + g = v /\ Hid (X.data.toList = B ++ valsT lo k) /\ Hid (Below w.heap.size w wx) /\ Hid (∀ o, wx.cell? ⟨w1.heap.size, o, none⟩ = (#[.bool false, .bool true, .bool false, v] : Array Value)[o]?) /\ Hid (w1.heap.size < wx.heap.size) /\ Hid (RO wx wx.heap.size (some ⟨w4.heap.size, 0, none⟩) 3 lo))
    case atStart => exact ⟨0, _, rfl, rfl, by omega, lh (by rw [<- HBe.out]; simp [valsT]), lh (HK.out.step (bo _)).below, lh (HJ.out.step (bo _)).ck, lh (by have := HJ.out.size; simp; omega), lh (by rw [World.size_alloc]; exact HRO.out _)⟩
    case round =>
     obtain ⟨k, X, rfl, rfl, hkg, HX, HB, HC, HLt, HO⟩ := hrel
     have jc := HC.out
     have hxl : X.size <= 400 := by
      have e : X.size = (B ++ valsT lo k).length := by rw [<- HX.out, Array.length_toList]; rfl
      have := HVS.out k
      rw [e, List.length_append]
      omega
     cases gk with
     | zero =>
      have hk0 : ¬ ((k : Int) < (v : Int)) := by omega
      obtain rfl : k = v := by omega
      have hq : ¬ 9223372036854775807 < X.size + 1 := by omega
      go_wp2
      refine bodyPost_ret (v := .string (X ++ ⟨#[10]⟩)) (by simp [results, Tryz.results52, go_sem]) rfl ⟨ret_s ?_, HB.out⟩
      rw [<- List.append_assoc, <- HX.out]
      exact bs_snoc X
     | succ g =>
      have hk1 : k < v := by omega
      have hk2 : (k : Int) < (v : Int) := by omega
      have hk3 : (k : Int) < 3 := by omega
      have hk4 : 0 <= (k : Int) := by omega
      obtain ⟨b2, o2, hbe, hb2, hc2⟩ := HO.out (by omega)
      obtain ⟨rfl, rfl⟩ : w4.heap.size = b2 /\ 0 = o2 := by simpa using hbe
      clear hbe
      obtain ⟨m1, m2, m3⟩ := hc2 k (by omega)
      rw [Nat.zero_add] at m1 m2 m3
      clear hc2
      have hvl := HVL.out k (by omega)
      have hq : ¬ 9223372036854775807 < X.size + (shwT (lo k)).length := by omega
      obtain ⟨wo, rfl⟩ : ∃ wo : World, wo = wr := ⟨_, rfl⟩
      go_wp2_with (first | (go_at_call 92; refine (HSV.out k _).mono ?_; rintro e w6 ⟨rfl, hb6⟩))
      go_roundg g
      case measure => omega
      case rel => exact ⟨k + 1, _, rfl, by go_num, by omega, lh (by rw [toN_bs, HX.out, List.append_assoc]; rfl), lh (HB.out.trans (hb6.mono HB.out.size)), lh (fun o => (hb6.cell (p := ⟨w1.heap.size, o, none⟩) HLt.out).trans (HC.out o)), lh (Nat.lt_of_lt_of_le HLt.out hb6.size), lh (fun h => by
       obtain ⟨b3, o3, e3, h3, c3⟩ := HO.out.below hb6 h
       exact ⟨b3, o3, e3, Nat.lt_of_lt_of_le h3 hb6.size, c3⟩)⟩
  . go_wp2_with (first
     | (go_at_call 51; (with_reducible first | refine (HUS.out _ _ rfl).mono ?_ | refine (HUN.out _ _ rfl).mono ?_); rintro e w4 ⟨rfl, hb4⟩; have HK' := lh ((HK.out.step (bo _)).step hb4); have HJ' := lh ((HJ.out.step (bo _)).step hb4); clear hb4 kc jc HK HJ; have HK := HK'; have HJ := HJ'; clear HK' HJ'; have kc := HK.out.ck; have jc := HJ.out.ck)
     | (go_at_call 92; (with_reducible refine (HSD.out _).mono ?_); rintro e w5 ⟨rfl, hb5⟩; have HK' := lh (HK.out.step hb5); have HJ' := lh (HJ.out.step hb5); clear hb5 kc jc HK HJ; have HK := HK'; have HJ := HJ'; clear HK' HJ'; have kc := HK.out.ck; have jc := HJ.out.ck))
    go_loopg [5, 7] v (fun g z5 z7 wx => ∃ (k : Nat) (X : ByteArray), z5 = .string X /\ z7 = .int .i64 k /\ k + g = v /\ Hid (X.data.toList = B ++ valsT lo k) /\ Hid (Below w.heap.size w wx) /\ Hid (∀ o, wx.cell? ⟨w1.heap.size, o, none⟩ = (#[.bool false, .bool true, .bool true, v] : Array Value)[o]?) /\ Hid (w1.heap.size < wx.heap.size) /\ Hid (RO wx wx.heap.size (some ⟨w5.heap.size, 0, none⟩) 3 lo))
    case atStart => exact ⟨0, _, rfl, rfl, by omega, lh (by rw [<- HBe.out]; simp [valsT]), lh (HK.out.step (bo _)).below, lh (HJ.out.step (bo _)).ck, lh (by have := HJ.out.size; simp; omega), lh (by rw [World.size_alloc]; exact HRO.out _)⟩
    case round =>
     obtain ⟨k, X, rfl, rfl, hkg, HX, HB, HC, HLt, HO⟩ := hrel
     have jc := HC.out
     have hxl : X.size <= 400 := by
      have e : X.size = (B ++ valsT lo k).length := by rw [<- HX.out, Array.length_toList]; rfl
      have := HVS.out k
      rw [e, List.length_append]
      omega
     cases gk with
     | zero =>
      have hk0 : ¬ ((k : Int) < (v : Int)) := by omega
      obtain rfl : k = v := by omega
      have hq : ¬ 9223372036854775807 < X.size + 1 := by omega
      go_wp2
      refine bodyPost_ret (v := .string (X ++ ⟨#[10]⟩)) (by simp [results, Tryz.results52, go_sem]) rfl ⟨ret_s ?_, HB.out⟩
      rw [<- List.append_assoc, <- HX.out]
      exact bs_snoc X
     | succ g =>
      have hk1 : k < v := by omega
      have hk2 : (k : Int) < (v : Int) := by omega
      have hk3 : (k : Int) < 3 := by omega
      have hk4 : 0 <= (k : Int) := by omega
      obtain ⟨b2, o2, hbe, hb2, hc2⟩ := HO.out (by omega)
      obtain ⟨rfl, rfl⟩ : w5.heap.size = b2 /\ 0 = o2 := by simpa using hbe
      clear hbe
      obtain ⟨m1, m2, m3⟩ := hc2 k (by omega)
      rw [Nat.zero_add] at m1 m2 m3
      clear hc2
      have hvl := HVL.out k (by omega)
      have hq : ¬ 9223372036854775807 < X.size + (shwT (lo k)).length := by omega
      obtain ⟨wo, rfl⟩ : ∃ wo : World, wo = wr := ⟨_, rfl⟩
      go_wp2_with (first | (go_at_call 92; refine (HSV.out k _).mono ?_; rintro e w6 ⟨rfl, hb6⟩))
      go_roundg g
      case measure => omega
      case rel => exact ⟨k + 1, _, rfl, by go_num, by omega, lh (by rw [toN_bs, HX.out, List.append_assoc]; rfl), lh (HB.out.trans (hb6.mono HB.out.size)), lh (fun o => (hb6.cell (p := ⟨w1.heap.size, o, none⟩) HLt.out).trans (HC.out o)), lh (Nat.lt_of_lt_of_le HLt.out hb6.size), lh (fun h => by
       obtain ⟨b3, o3, e3, h3, c3⟩ := HO.out.below hb6 h
       exact ⟨b3, o3, e3, Nat.lt_of_lt_of_le h3 hb6.size, c3⟩)⟩
  . go_wp2_with (first
     | (go_at_call 51; (with_reducible first | refine (HUS.out _ _ rfl).mono ?_ | refine (HUN.out _ _ rfl).mono ?_); rintro e w4 ⟨rfl, hb4⟩; have HK' := lh ((HK.out.step (bo _)).step hb4); have HJ' := lh ((HJ.out.step (bo _)).step hb4); clear hb4 kc jc HK HJ; have HK := HK'; have HJ := HJ'; clear HK' HJ'; have kc := HK.out.ck; have jc := HJ.out.ck)
     | (go_at_call 92; (with_reducible refine (HSD.out _).mono ?_); rintro e w5 ⟨rfl, hb5⟩; have HK' := lh (HK.out.step hb5); have HJ' := lh (HJ.out.step hb5); clear hb5 kc jc HK HJ; have HK := HK'; have HJ := HJ'; clear HK' HJ'; have kc := HK.out.ck; have jc := HJ.out.ck))
    go_loopg [5, 7] v (fun g z5 z7 wx => ∃ (k : Nat) (X : ByteArray), z5 = .string X /\ z7 = .int .i64 k /\ k + g = v /\ Hid (X.data.toList = B ++ valsT lo k) /\ Hid (Below w.heap.size w wx) /\ Hid (∀ o, wx.cell? ⟨w1.heap.size, o, none⟩ = (#[.bool true, .bool false, .bool false, v] : Array Value)[o]?) /\ Hid (w1.heap.size < wx.heap.size) /\ Hid (RO wx wx.heap.size (some ⟨w4.heap.size, 0, none⟩) 3 lo))
    case atStart => exact ⟨0, _, rfl, rfl, by omega, lh (by rw [<- HBe.out]; simp [valsT]), lh (HK.out.step (bo _)).below, lh (HJ.out.step (bo _)).ck, lh (by have := HJ.out.size; simp; omega), lh (by rw [World.size_alloc]; exact HRO.out _)⟩
    case round =>
     obtain ⟨k, X, rfl, rfl, hkg, HX, HB, HC, HLt, HO⟩ := hrel
     have jc := HC.out
     have hxl : X.size <= 400 := by
      have e : X.size = (B ++ valsT lo k).length := by rw [<- HX.out, Array.length_toList]; rfl
      have := HVS.out k
      rw [e, List.length_append]
      omega
     cases gk with
     | zero =>
      have hk0 : ¬ ((k : Int) < (v : Int)) := by omega
      obtain rfl : k = v := by omega
      have hq : ¬ 9223372036854775807 < X.size + 1 := by omega
      go_wp2
      refine bodyPost_ret (v := .string (X ++ ⟨#[10]⟩)) (by simp [results, Tryz.results52, go_sem]) rfl ⟨ret_s ?_, HB.out⟩
      rw [<- List.append_assoc, <- HX.out]
      exact bs_snoc X
     | succ g =>
      have hk1 : k < v := by omega
      have hk2 : (k : Int) < (v : Int) := by omega
      have hk3 : (k : Int) < 3 := by omega
      have hk4 : 0 <= (k : Int) := by omega
      obtain ⟨b2, o2, hbe, hb2, hc2⟩ := HO.out (by omega)
      obtain ⟨rfl, rfl⟩ : w4.heap.size = b2 /\ 0 = o2 := by simpa using hbe
      clear hbe
      obtain ⟨m1, m2, m3⟩ := hc2 k (by omega)
      rw [Nat.zero_add] at m1 m2 m3
      clear hc2
      have hvl := HVL.out k (by omega)
      have hq : ¬ 9223372036854775807 < X.size + (shwT (lo k)).length := by omega
      obtain ⟨wo, rfl⟩ : ∃ wo : World, wo = wr := ⟨_, rfl⟩
      go_wp2_with (first | (go_at_call 92; refine (HSV.out k _).mono ?_; rintro e w6 ⟨rfl, hb6⟩))
      go_roundg g
      case measure => omega
      case rel => exact ⟨k + 1, _, rfl, by go_num, by omega, lh (by rw [toN_bs, HX.out, List.append_assoc]; rfl), lh (HB.out.trans (hb6.mono HB.out.size)), lh (fun o => (hb6.cell (p := ⟨w1.heap.size, o, none⟩) HLt.out).trans (HC.out o)), lh (Nat.lt_of_lt_of_le HLt.out hb6.size), lh (fun h => by
       obtain ⟨b3, o3, e3, h3, c3⟩ := HO.out.below hb6 h
       exact ⟨b3, o3, e3, Nat.lt_of_lt_of_le h3 hb6.size, c3⟩)⟩
  . go_wp2_with (first
     | (go_at_call 51; (with_reducible first | refine (HUS.out _ _ rfl).mono ?_ | refine (HUN.out _ _ rfl).mono ?_); rintro e w4 ⟨rfl, hb4⟩; have HK' := lh ((HK.out.step (bo _)).step hb4); have HJ' := lh ((HJ.out.step (bo _)).step hb4); clear hb4 kc jc HK HJ; have HK := HK'; have HJ := HJ'; clear HK' HJ'; have kc := HK.out.ck; have jc := HJ.out.ck)
     | (go_at_call 92; (with_reducible refine (HSD.out _).mono ?_); rintro e w5 ⟨rfl, hb5⟩; have HK' := lh (HK.out.step hb5); have HJ' := lh (HJ.out.step hb5); clear hb5 kc jc HK HJ; have HK := HK'; have HJ := HJ'; clear HK' HJ'; have kc := HK.out.ck; have jc := HJ.out.ck))
    go_loopg [5, 7] v (fun g z5 z7 wx => ∃ (k : Nat) (X : ByteArray), z5 = .string X /\ z7 = .int .i64 k /\ k + g = v /\ Hid (X.data.toList = B ++ valsT lo k) /\ Hid (Below w.heap.size w wx) /\ Hid (∀ o, wx.cell? ⟨w1.heap.size, o, none⟩ = (#[.bool true, .bool false, .bool true, v] : Array Value)[o]?) /\ Hid (w1.heap.size < wx.heap.size) /\ Hid (RO wx wx.heap.size (some ⟨w5.heap.size, 0, none⟩) 3 lo))
    case atStart => exact ⟨0, _, rfl, rfl, by omega, lh (by rw [<- HBe.out]; simp [valsT]), lh (HK.out.step (bo _)).below, lh (HJ.out.step (bo _)).ck, lh (by have := HJ.out.size; simp; omega), lh (by rw [World.size_alloc]; exact HRO.out _)⟩
    case round =>
     obtain ⟨k, X, rfl, rfl, hkg, HX, HB, HC, HLt, HO⟩ := hrel
     have jc := HC.out
     have hxl : X.size <= 400 := by
      have e : X.size = (B ++ valsT lo k).length := by rw [<- HX.out, Array.length_toList]; rfl
      have := HVS.out k
      rw [e, List.length_append]
      omega
     cases gk with
     | zero =>
      have hk0 : ¬ ((k : Int) < (v : Int)) := by omega
      obtain rfl : k = v := by omega
      have hq : ¬ 9223372036854775807 < X.size + 1 := by omega
      go_wp2
      refine bodyPost_ret (v := .string (X ++ ⟨#[10]⟩)) (by simp [results, Tryz.results52, go_sem]) rfl ⟨ret_s ?_, HB.out⟩
      rw [<- List.append_assoc, <- HX.out]
      exact bs_snoc X
     | succ g =>
      have hk1 : k < v := by omega
      have hk2 : (k : Int) < (v : Int) := by omega
      have hk3 : (k : Int) < 3 := by omega
      have hk4 : 0 <= (k : Int) := by omega
      obtain ⟨b2, o2, hbe, hb2, hc2⟩ := HO.out (by omega)
      obtain ⟨rfl, rfl⟩ : w5.heap.size = b2 /\ 0 = o2 := by simpa using hbe
      clear hbe
      obtain ⟨m1, m2, m3⟩ := hc2 k (by omega)
      rw [Nat.zero_add] at m1 m2 m3
      clear hc2
      have hvl := HVL.out k (by omega)
      have hq : ¬ 9223372036854775807 < X.size + (shwT (lo k)).length := by omega
      obtain ⟨wo, rfl⟩ : ∃ wo : World, wo = wr := ⟨_, rfl⟩
      go_wp2_with (first | (go_at_call 92; refine (HSV.out k _).mono ?_; rintro e w6 ⟨rfl, hb6⟩))
      go_roundg g
      case measure => omega
      case rel => exact ⟨k + 1, _, rfl, by go_num, by omega, lh (by rw [toN_bs, HX.out, List.append_assoc]; rfl), lh (HB.out.trans (hb6.mono HB.out.size)), lh (fun o => (hb6.cell (p := ⟨w1.heap.size, o, none⟩) HLt.out).trans (HC.out o)), lh (Nat.lt_of_lt_of_le HLt.out hb6.size), lh (fun h => by
       obtain ⟨b3, o3, e3, h3, c3⟩ := HO.out.below hb6 h
       exact ⟨b3, o3, e3, Nat.lt_of_lt_of_le h3 hb6.size, c3⟩)⟩
  . go_wp2_with (first
     | (go_at_call 51; (with_reducible first | refine (HUS.out _ _ rfl).mono ?_ | refine (HUN.out _ _ rfl).mono ?_); rintro e w4 ⟨rfl, hb4⟩; have HK' := lh ((HK.out.step (bo _)).step hb4); have HJ' := lh ((HJ.out.step (bo _)).step hb4); clear hb4 kc jc HK HJ; have HK := HK'; have HJ := HJ'; clear HK' HJ'; have kc := HK.out.ck; have jc := HJ.out.ck)
     | (go_at_call 92; (with_reducible refine (HSD.out _).mono ?_); rintro e w5 ⟨rfl, hb5⟩; have HK' := lh (HK.out.step hb5); have HJ' := lh (HJ.out.step hb5); clear hb5 kc jc HK HJ; have HK := HK'; have HJ := HJ'; clear HK' HJ'; have kc := HK.out.ck; have jc := HJ.out.ck))
    go_loopg [5, 7] v (fun g z5 z7 wx => ∃ (k : Nat) (X : ByteArray), z5 = .string X /\ z7 = .int .i64 k /\ k + g = v /\ Hid (X.data.toList = B ++ valsT lo k) /\ Hid (Below w.heap.size w wx) /\ Hid (∀ o, wx.cell? ⟨w1.heap.size, o, none⟩ = (#[.bool true, .bool true, .bool false, v] : Array Value)[o]?) /\ Hid (w1.heap.size < wx.heap.size) /\ Hid (RO wx wx.heap.size (some ⟨w4.heap.size, 0, none⟩) 3 lo))
    case atStart => exact ⟨0, _, rfl, rfl, by omega, lh (by rw [<- HBe.out]; simp [valsT]), lh (HK.out.step (bo _)).below, lh (HJ.out.step (bo _)).ck, lh (by have := HJ.out.size; simp; omega), lh (by rw [World.size_alloc]; exact HRO.out _)⟩
    case round =>
     obtain ⟨k, X, rfl, rfl, hkg, HX, HB, HC, HLt, HO⟩ := hrel
     have jc := HC.out
     have hxl : X.size <= 400 := by
      have e : X.size = (B ++ valsT lo k).length := by rw [<- HX.out, Array.length_toList]; rfl
      have := HVS.out k
      rw [e, List.length_append]
      omega
     cases gk with
     | zero =>
      have hk0 : ¬ ((k : Int) < (v : Int)) := by omega
      obtain rfl : k = v := by omega
      have hq : ¬ 9223372036854775807 < X.size + 1 := by omega
      go_wp2
      refine bodyPost_ret (v := .string (X ++ ⟨#[10]⟩)) (by simp [results, Tryz.results52, go_sem]) rfl ⟨ret_s ?_, HB.out⟩
      rw [<- List.append_assoc, <- HX.out]
      exact bs_snoc X
     | succ g =>
      have hk1 : k < v := by omega
      have hk2 : (k : Int) < (v : Int) := by omega
      have hk3 : (k : Int) < 3 := by omega
      have hk4 : 0 <= (k : Int) := by omega
      obtain ⟨b2, o2, hbe, hb2, hc2⟩ := HO.out (by omega)
      obtain ⟨rfl, rfl⟩ : w4.heap.size = b2 /\ 0 = o2 := by simpa using hbe
      clear hbe
      obtain ⟨m1, m2, m3⟩ := hc2 k (by omega)
      rw [Nat.zero_add] at m1 m2 m3
      clear hc2
      have hvl := HVL.out k (by omega)
      have hq : ¬ 9223372036854775807 < X.size + (shwT (lo k)).length := by omega
      obtain ⟨wo, rfl⟩ : ∃ wo : World, wo = wr := ⟨_, rfl⟩
      go_wp2_with (first | (go_at_call 92; refine (HSV.out k _).mono ?_; rintro e w6 ⟨rfl, hb6⟩))
      go_roundg g
      case measure => omega
      case rel => exact ⟨k + 1, _, rfl, by go_num, by omega, lh (by rw [toN_bs, HX.out, List.append_assoc]; rfl), lh (HB.out.trans (hb6.mono HB.out.size)), lh (fun o => (hb6.cell (p := ⟨w1.heap.size, o, none⟩) HLt.out).trans (HC.out o)), lh (Nat.lt_of_lt_of_le HLt.out hb6.size), lh (fun h => by
       obtain ⟨b3, o3, e3, h3, c3⟩ := HO.out.below hb6 h
       exact ⟨b3, o3, e3, Nat.lt_of_lt_of_le h3 hb6.size, c3⟩)⟩
  . go_wp2_with (first
     | (go_at_call 51; (with_reducible first | refine (HUS.out _ _ rfl).mono ?_ | refine (HUN.out _ _ rfl).mono ?_); rintro e w4 ⟨rfl, hb4⟩; have HK' := lh ((HK.out.step (bo _)).step hb4); have HJ' := lh ((HJ.out.step (bo _)).step hb4); clear hb4 kc jc HK HJ; have HK := HK'; have HJ := HJ'; clear HK' HJ'; have kc := HK.out.ck; have jc := HJ.out.ck)
     | (go_at_call 92; (with_reducible refine (HSD.out _).mono ?_); rintro e w5 ⟨rfl, hb5⟩; have HK' := lh (HK.out.step hb5); have HJ' := lh (HJ.out.step hb5); clear hb5 kc jc HK HJ; have HK := HK'; have HJ := HJ'; clear HK' HJ'; have kc := HK.out.ck; have jc := HJ.out.ck))
    go_loopg [5, 7] v (fun g z5 z7 wx => ∃ (k : Nat) (X : ByteArray), z5 = .string X /\ z7 = .int .i64 k /\ k + g = v /\ Hid (X.data.toList = B ++ valsT lo k) /\ Hid (Below w.heap.size w wx) /\ Hid (∀ o, wx.cell? ⟨w1.heap.size, o, none⟩ = (#[.bool true, .bool true, .bool true, v] : Array Value)[o]?) /\ Hid (w1.heap.size < wx.heap.size) /\ Hid (RO wx wx.heap.size (some ⟨w5.heap.size, 0, none⟩) 3 lo))
    case atStart => exact ⟨0, _, rfl, rfl, by omega, lh (by rw [<- HBe.out]; simp [valsT]), lh (HK.out.step (bo _)).below, lh (HJ.out.step (bo _)).ck, lh (by have := HJ.out.size; simp; omega), lh (by rw [World.size_alloc]; exact HRO.out _)⟩
    case round =>
     obtain ⟨k, X, rfl, rfl, hkg, HX, HB, HC, HLt, HO⟩ := hrel
     have jc := HC.out
     have hxl : X.size <= 400 := by
      have e : X.size = (B ++ valsT lo k).length := by rw [<- HX.out, Array.length_toList]; rfl
      have := HVS.out k
      rw [e, List.length_append]
      omega
     cases gk with
     | zero =>
      have hk0 : ¬ ((k : Int) < (v : Int)) := by omega
      obtain rfl : k = v := by omega
      have hq : ¬ 9223372036854775807 < X.size + 1 := by omega
      go_wp2
      refine bodyPost_ret (v := .string (X ++ ⟨#[10]⟩)) (by simp [results, Tryz.results52, go_sem]) rfl ⟨ret_s ?_, HB.out⟩
      rw [<- List.append_assoc, <- HX.out]
      exact bs_snoc X
     | succ g =>
      have hk1 : k < v := by omega
      have hk2 : (k : Int) < (v : Int) := by omega
      have hk3 : (k : Int) < 3 := by omega
      have hk4 : 0 <= (k : Int) := by omega
      obtain ⟨b2, o2, hbe, hb2, hc2⟩ := HO.out (by omega)
      obtain ⟨rfl, rfl⟩ : w5.heap.size = b2 /\ 0 = o2 := by simpa using hbe
      clear hbe
      obtain ⟨m1, m2, m3⟩ := hc2 k (by omega)
      rw [Nat.zero_add] at m1 m2 m3
      clear hc2
      have hvl := HVL.out k (by omega)
      have hq : ¬ 9223372036854775807 < X.size + (shwT (lo k)).length := by omega
      obtain ⟨wo, rfl⟩ : ∃ wo : World, wo = wr := ⟨_, rfl⟩
      go_wp2_with (first | (go_at_call 92; refine (HSV.out k _).mono ?_; rintro e w6 ⟨rfl, hb6⟩))
      go_roundg g
      case measure => omega
      case rel => exact ⟨k + 1, _, rfl, by go_num, by omega, lh (by rw [toN_bs, HX.out, List.append_assoc]; rfl), lh (HB.out.trans (hb6.mono HB.out.size)), lh (fun o => (hb6.cell (p := ⟨w1.heap.size, o, none⟩) HLt.out).trans (HC.out o)), lh (Nat.lt_of_lt_of_le HLt.out hb6.size), lh (fun h => by
       obtain ⟨b3, o3, e3, h3, c3⟩ := HO.out.below hb6 h
       exact ⟨b3, o3, e3, Nat.lt_of_lt_of_le h3 hb6.size, c3⟩)⟩
theorem shw_opd {o : OpdV} (h : OpdOk o) : shwT o = opdT o := by
 unfold shwT opdT
 rcases h with ⟨h, _⟩ | ⟨h, _⟩ <;> rw [h] <;> rfl
theorem nums1 (f : Nat -> Int) : numsT f 1 = 32 :: Lib.itoa (f 0) := rfl
theorem lineS_eq {i : InstV} (h : InstOk i) : lineS i = instT i := by
 obtain ⟨op, s, n, d, a, b, c⟩ := i
 obtain ⟨hop, hp, _⟩ := h
 simp only [InstV.parts] at hop hp
 have h12 : op = 1 \/ op = 2 \/ op = 3 \/ op = 4 \/ op = 5 \/ op = 6 \/ op = 7 \/ op = 8 \/ op = 9 \/ op = 10 \/ op = 11 \/ op = 12 := by omega
 rcases h12 with rfl | rfl | rfl | rfl | rfl | rfl | rfl | rfl | rfl | rfl | rfl | rfl
 all_goals
  have hd := hp.d.1
  have ha := hp.a.1
  have hb := hp.b.1
  have hc := hp.c.1
  clear hp
  simp [instF, FormV.want] at hd ha hb hc
  simp [lineS, baseS, instT, shpF, instF, InstV.parts, partsT, FormV.want, stepT, valsT, lstO, nums1, *, shw_opd]
theorem endS_eq {t : TermV} (h : EndOk t) : endS t = endT t := by
 obtain ⟨k, s, d, a, b, x, y⟩ := t
 obtain ⟨hk, hp, _⟩ := h
 simp only [TermV.parts] at hk hp
 have h5 : k = 1 \/ k = 2 \/ k = 3 \/ k = 4 \/ k = 5 := by omega
 rcases h5 with rfl | rfl | rfl | rfl | rfl
 all_goals
  have hd := hp.d.1
  have ha := hp.a.1
  have hb := hp.b.1
  clear hp
  simp [endF, FormV.want] at hd ha hb
  simp [endS, endT, endF, TermV.parts, partsT, FormV.want, stepT, numsT, two, *, shw_opd]
end Go.Proofs.YtkncilgmlkeifaaGreatDoor
