import Derived.Test.YtkncilgmlkeifaaGreatDoorAll
import Derived.Test.YtkncilgmlkeifaaGreatDoorShelf
import Derived.Sort.OwnSortedInts
import Derived.Laws.AppendOwn
import Derived.Test.YtkncilgmlkeifaaGreatDoorForm
import Derived.Deep.OwnRows
import Derived.Deep.AppendLies
import Derived.Deep.LoopGhost
import Derived.Laws.OwnMore
/-
  Package code: contracts of register, Def and DefT.
-/
set_option linter.unusedVariables false
set_option linter.unusedSimpArgs false
set_option maxRecDepth 100000
set_option maxHeartbeats 4000000
namespace Go.Proofs.YtkncilgmlkeifaaGreatDoor
open Go.ChangeShapes Go.WideShapes Go.ChangeAt Go.RowKit Go.Shelf
def regV (d : OpdV) : Int := if d.k = 2 then d.n else -1
theorem register_any (d : OpdV) (w : World) : Calls Tryz.prog 61 #[.agg #[d.k, d.n, .int .i32 d.v]] w fun e w' => e = .returned (.int .i64 (regV d)) /\ Below w.heap.size w w' := by
 obtain ⟨k, n, v⟩ := d
 have hv : (k = 2 /\ regV ⟨k, n, v⟩ = n) \/ (k ≠ 2 /\ regV ⟨k, n, v⟩ = -1) := by
  unfold regV
  by_cases h : k = 2
  . exact .inl ⟨h, by simp [h]⟩
  . exact .inr ⟨h, by simp [h]⟩
 rcases hv with ⟨rfl, hv⟩ | ⟨hk, hv⟩
 all_goals
  rw [hv]
  clear hv
  simp only
  go_enter Tryz.func61, Tryz.ntmps61
  go_wp2
  go_ret
  exact ⟨rfl, (Below.refl _ _).alloc (Nat.le_refl _) _⟩
theorem Def_any (i : InstV) (w : World) : Calls Tryz.prog 30 #[i.val] w fun e w' => e = .returned (.int .i64 (regV i.d)) /\ Below w.heap.size w w' := by
 have HR := lh (fun (W : World) => register_any i.d W)
 obtain ⟨op, sub, n, ⟨dk, dn, dv⟩, ⟨ak, an, av⟩, ⟨bk, bn, bv⟩, ⟨ck, cn, cv⟩⟩ := i
 simp only [InstV.val] at HR ⊢
 go_enter Tryz.func30, Tryz.ntmps30
 go_wp2_with (go_at_call 61; (with_reducible refine (HR.out _).mono ?_); rintro e w1 ⟨rfl, hb⟩; have HB := lh hb; clear hb)
 go_ret
 exact ⟨rfl, ((Below.refl _ _).alloc (Nat.le_refl _) _).trans (HB.out.mono (by simp))⟩
theorem DefT_any (t : TermV) (w : World) : Calls Tryz.prog 26 #[t.val] w fun e w' => e = .returned (.int .i64 (regV t.d)) /\ Below w.heap.size w w' := by
 have HR := lh (fun (W : World) => register_any t.d W)
 obtain ⟨kind, sub, ⟨dk, dn, dv⟩, ⟨ak, an, av⟩, ⟨bk, bn, bv⟩, t0, t1⟩ := t
 simp only [TermV.val] at HR ⊢
 go_enter Tryz.func26, Tryz.ntmps26
 go_wp2_with (go_at_call 61; (with_reducible refine (HR.out _).mono ?_); rintro e w1 ⟨rfl, hb⟩; have HB := lh hb; clear hb)
 go_ret
 exact ⟨rfl, ((Below.refl _ _).alloc (Nat.le_refl _) _).trans (HB.out.mono (by simp))⟩
def srt (zs : List Int) : List Int := zs.mergeSort fun x y => decide (x <= y)
theorem srt_len (zs : List Int) : (srt zs).length = zs.length := by simp [srt]
theorem sort_own {w : World} {base : Nat} {v : Value} {zs : List Int} (h : w.ownsRow base 3 1 v zs.length (zs.map (Value.int .i64))) (hz : zs.length <= 1000000) :
 Calls Tryz.prog 102 #[v] w fun e w' => e = .returned (.tuple #[]) /\ w'.ownsRow base 3 1 v (srt zs).length ((srt zs).map (Value.int .i64)) /\ w.grownBy w' v.ownBlock := by
 rcases h.2 with ⟨rfl, h0⟩ | ⟨g, cap, cur, rfl, hb, hg, hc, hm, hs, ht⟩
 . obtain rfl : zs = [] := List.length_eq_zero_iff.1 h0
   refine (Tryz.slices_Sort_int_none none 0 w).mono ?_
   rintro e w' ⟨he, rfl⟩
   exact ⟨he, by rw [show srt [] = [] from by simp [srt]]; exact World.ownsRow_nil _ _ _ _, ⟨rfl, rfl, rfl, Nat.le_refl _, fun _ _ _ => rfl⟩⟩
 . rw [Nat.mul_one] at ht
   refine (Tryz.slices_Sort_int g 0 cap zs w (holds_of_blockI hg ht) (Array.getElem?_eq_some_iff.1 hg).1 (by omega)).mono ?_
   rintro e w' ⟨he, n, os, rfl⟩
   refine ⟨he, ?_, grownBy_sortedI _⟩
   have := ownsRow_sortedI (n := n) (os := os) (ts := srt zs) (ss := zs) (srt_len zs) hb hg hc hm hs
   rw [srt_len]
   exact this
theorem compact_le (zs : List Int) : (Lib.compact zs).length <= zs.length := by
 unfold Lib.compact Lib.compactUpTo
 rw [List.length_map]
 exact Nat.le_trans (List.length_filter_le _ _) (by simp)
theorem compact_own {w : World} {base : Nat} {v : Value} {zs : List Int} (h : w.ownsRow base 3 1 v zs.length (zs.map (Value.int .i64))) (hz : zs.length <= 1000000) :
 Calls Tryz.prog 57 #[v] w fun e w' => (∃ A c, e = .returned (.slice A (Lib.compact zs).length c) /\ RI w' w'.heap.size A (Lib.compact zs).length (fun j => (Lib.compact zs).getD j 0)) /\ w.grownBy w' v.ownBlock := by
 by_cases hz0 : zs = []
 . subst hz0
   have he : ∃ a cap, v = .slice a 0 cap := by
    rcases h.2 with ⟨rfl, h0⟩ | ⟨g, cap, cur, rfl, hb, hg, hc, hm, hs, ht⟩
    . exact ⟨_, _, rfl⟩
    . exact ⟨_, _, rfl⟩
   obtain ⟨a, cap, rfl⟩ := he
   refine (Tryz.slices_Compact_int_empty a cap w).mono ?_
   rintro e w' ⟨rfl, rfl⟩
   exact ⟨⟨a, cap, rfl, fun hn => absurd hn (by decide)⟩, ⟨rfl, rfl, rfl, Nat.le_refl _, fun _ _ _ => rfl⟩⟩
 . rcases h.2 with ⟨rfl, h0⟩ | ⟨g, cap, cur, rfl, hb, hg, hc, hm, hs, ht⟩
   . exact absurd (List.length_eq_zero_iff.1 h0) hz0
   . rw [Nat.mul_one] at ht hs
     have hlt := (Array.getElem?_eq_some_iff.1 hg).1
     refine (Tryz.slices_Compact_int g 0 cap zs w (holds_of_blockI hg ht) (by omega) hc).mono ?_
     rintro e w' ⟨rfl, q, hw⟩
     have hw2 : w' = Sort.grow (Sort.putRow (Value.int .i64) (Sort.ahead w q) g 0 (Lib.compact zs ++ List.replicate (zs.length - (Lib.compact zs).length) 0).toArray) #[] := by rw [hw, Sort.grow_empty]
     have hcl := compact_le zs
     refine ⟨⟨_, _, rfl, fun hn => ⟨g, 0, rfl, ?_, fun j hj => ?_⟩⟩, by rw [hw2]; exact grownBy_sortedI _⟩
     . rw [hw2]; simp; exact hlt
     . have hk := heap_sortedI (n := q) (os := #[]) (Lib.compact zs ++ List.replicate (zs.length - (Lib.compact zs).length) 0).toArray hg
       rw [<- hw2] at hk
       have ht2 := take_putCellsI cur (Lib.compact zs ++ List.replicate (zs.length - (Lib.compact zs).length) 0) (by simp; omega)
       have hj2 : ((Sort.putCells (Value.int .i64) 0 (Lib.compact zs ++ List.replicate (zs.length - (Lib.compact zs).length) 0).toArray cur).toList.take (Lib.compact zs ++ List.replicate (zs.length - (Lib.compact zs).length) 0).length)[j]? = some (.int .i64 ((Lib.compact zs).getD j 0)) := by
        rw [ht2, List.getElem?_map, List.getElem?_append_left hj, List.getElem?_eq_getElem hj, List.getD_eq_getElem?_getD, List.getElem?_eq_getElem hj]
        rfl
       rw [List.getElem?_take_of_lt (by simp; omega), Array.getElem?_toList] at hj2
       rw [Nat.zero_add]
       simp only [World.cell?, hk]
       simpa using hj2
theorem one_newI (w : World) (x : Value) (t : TypeId) (b : Nat) (hb : b = w.heap.size) : ∀ (j : Nat) (u : Value), ([x] : List Value)[j]? = some u -> (w.alloc (.cells #[x] t)).cell? ((⟨b, 0, none⟩ : Addr).add j) = some u := by
 subst hb
 intro j u hj
 match j, hj with
 | 0, hj =>
  simp at hj
  subst hj
  simp [Addr.add]
def RO (w : World) (B : Nat) (A : Option Addr) (n : Nat) (o : Nat -> OpdV) : Prop :=
 0 < n -> ∃ b off, A = some ⟨b, off, none⟩ /\ b < B /\ ∀ j, j < n -> w.cell? ⟨b, off + j * 3, none⟩ = some (.int .i64 (o j).k) /\ w.cell? ⟨b, off + j * 3 + 1, none⟩ = some (.int .i64 (o j).n) /\ w.cell? ⟨b, off + j * 3 + 2, none⟩ = some (.int .i32 (o j).v)
theorem RO.below {w w' : World} {B n : Nat} {A : Option Addr} {o : Nat -> OpdV} (h : RO w B A n o) (hb : Below B w w') : RO w' B A n o := fun hn => by
 obtain ⟨b, off, e, hlt, hc⟩ := h hn
 have k : ∀ o, w'.cell? ⟨b, o, none⟩ = w.cell? ⟨b, o, none⟩ := fun o => hb.cell (p := ⟨b, o, none⟩) hlt
 refine ⟨b, off, e, hlt, fun j hj => ?_⟩
 simp only [k]
 exact hc j hj
def regsL (o : Nat -> OpdV) (k : Nat) : List Int := ((List.range k).filter fun j => decide ((o j).k = 2)).map fun j => (o j).n
theorem regsL_yes (o : Nat -> OpdV) (k : Nat) (h : (o k).k = 2) : regsL o (k + 1) = regsL o k ++ [(o k).n] := by simp [regsL, List.range_succ, List.filter_append, h]
theorem regsL_no (o : Nat -> OpdV) (k : Nat) (h : (o k).k ≠ 2) : regsL o (k + 1) = regsL o k := by simp [regsL, List.range_succ, List.filter_append, h]
theorem regsL_len (o : Nat -> OpdV) (k : Nat) : (regsL o k).length <= k := by
 unfold regsL
 rw [List.length_map]
 exact Nat.le_trans (List.length_filter_le _ _) (by simp)
def usesV (o : Nat -> OpdV) (k : Nat) : List Int := Lib.compact (srt (regsL o k))
theorem infoI : (Tryz.prog.info? 3).map (fun i => (i.zero, i.size, i.bytes)) = some (some (.int .i64 0), 1, 8) := by kernel_rfl
theorem grown_below {B : Nat} {a w w' : World} {v : Value} {base e size n : Nat} {xs : List Value} (h : Below B a w) (hr : w.ownsRow base e size v n xs) (hg : w.grownBy w' v.ownBlock) (hb : B <= base) (hB : B <= w.heap.size) : Below B a w' := by
 refine ⟨hg.os.trans h.os, hg.tape.trans h.tape, hg.output.trans h.output, Nat.le_trans h.size hg.size, fun i hi => ?_⟩
 refine (hg.block i (by omega) (fun e => ?_)).trans (h.block i hi)
 have := (hr.lt i e.symm).1
 omega
theorem registers_any (n c : Nat) (A : Option Addr) (o : Nat -> OpdV) (w : World) (hn : n <= 1000) (hr : RO w w.heap.size A n o) :
 Calls Tryz.prog 59 #[.slice A n c] w fun e w' => (∃ A' c', e = .returned (.slice A' (usesV o n).length c') /\ RI w' w'.heap.size A' (usesV o n).length (fun j => (usesV o n).getD j 0)) /\ Below w.heap.size w w' := by
 obtain ⟨i0, hi, hz0, hz1, hz2⟩ := info_parts infoI
 have HR := lh hr
 have HS := lh (fun (W : World) (v : Value) (h : W.ownsRow w.heap.size 3 1 v (regsL o n).length ((regsL o n).map (Value.int .i64))) => sort_own h (by have := regsL_len o n; omega))
 have HC := lh (fun (W : World) (v : Value) (h : W.ownsRow w.heap.size 3 1 v (srt (regsL o n)).length ((srt (regsL o n)).map (Value.int .i64))) => compact_own h (by rw [srt_len]; have := regsL_len o n; omega))
 obtain ⟨us, hus⟩ : ∃ us, usesV o n = us := ⟨_, rfl⟩
 rw [show Lib.compact (srt (regsL o n)) = us from hus] at HC
 rw [hus]
 clear hr hus
 go_enter Tryz.func59, Tryz.ntmps59
 go_wp2
 go_loopw [3, 5, 8] (fun z3 z5 z8 wr => ∃ (k : Nat) (v : Value), k <= n /\ v = z3 /\ z8 = .int .i64 k /\ Hid (wr.ownsRow w.heap.size 3 1 v (regsL o k).length ((regsL o k).map (Value.int .i64))) /\ Hid (Below w.heap.size w wr)) (fun _ _ i _ => n - (intOf i).toNat)
 case atStart => exact ⟨0, _, Nat.zero_le _, rfl, rfl, lh (World.ownsRow_nil _ _ _ _), lh (Below.refl _ _)⟩
 case round =>
  obtain ⟨k, v, hk, rfl, rfl, HO, HB⟩ := hrel
  by_cases hlt : k < n
  . obtain ⟨b, off, rfl, hb, hc⟩ := (HR.out.below HB.out) (by omega)
    obtain ⟨m0, m1, m2⟩ := hc k hlt
    clear hc
    have hll := regsL_len o k
    by_cases h2 : (o k).k = 2
    . have HY := lh (regsL_yes o k h2)
      obtain ⟨L, hL⟩ : ∃ L, regsL o k = L := ⟨_, rfl⟩
      rw [hL] at HY HO hll
      rw [h2] at m0
      clear h2 hL
      go_wp2_with (first | (at_builtin; refine wpList_append_own _ rfl _ _ 57 rfl w.heap.size 3 i0 (.int .i64 0) 1 8 Tryz.underlying57 hi hz0 hz1 hz2 rfl (by decide) _ _ _ rfl ((HO.out.alloc _).alloc _) ⟨wr.heap.size + 1, 0, none⟩ 1 1 [(o k).n] rfl rfl (one_newI _ _ _ _ (by simp)) (by simp [Value.oneCell']) (by unfold maxLen; omega) (by omega) (by have := HB.out.size; simp; omega) ?_; intro v' w5 hown' hgrow _; have HO5 := lh hown'; have HG5 := lh hgrow; clear hown' hgrow))
      go_roundw
      case measure => simp [intOf]; omega
      case rel => exact ⟨k + 1, _, by omega, rfl, by go_num, lh (by rw [HY.out]; simpa using HO5.out), lh (grown_below (((HB.out.alloc HB.out.size _).alloc (by have := HB.out.size; simp; omega) _)) ((HO.out.alloc _).alloc _) HG5.out (Nat.le_refl _) (by have := HB.out.size; simp; omega))⟩
    . have HY := lh (regsL_no o k h2)
      have h3 : ((o k).k == 2) = false := by simpa using h2
      clear h2
      go_wp2
      go_roundw
      case measure => simp [intOf]; omega
      case rel => exact ⟨k + 1, _, by omega, rfl, by go_num, lh (by rw [HY.out]; exact HO.out.alloc _), lh (HB.out.alloc HB.out.size _)⟩
  . obtain rfl : k = n := by omega
    have HSv := lh (HS.out wr v HO.out)
    go_wp2_with (first
     | (go_at_call 102; (with_reducible refine HSv.out.mono ?_); rintro e w1 ⟨rfl, ho1, hg1⟩; have HC1 := lh (HC.out w1 v ho1); have HB1 := lh (grown_below HB.out HO.out hg1 (Nat.le_refl _) HB.out.size); have HO1 := lh ho1; clear ho1 hg1)
     | (go_at_call 57; (with_reducible refine HC1.out.mono ?_); rintro e w2 ⟨⟨A2, c2, rfl, hr2⟩, hg2⟩; have HR2 := lh hr2; have HB2 := lh (grown_below HB1.out HO1.out hg2 (Nat.le_refl _) HB1.out.size); clear hr2 hg2))
    go_ret
    exact ⟨⟨_, _, rfl, HR2.out⟩, HB2.out⟩
def lstO (l : List OpdV) (j : Nat) : OpdV := l.getD j noOpd
theorem cellK {w : World} {b i : Nat} {C : Array Value} {T : TypeId} {fr : Nat × Nat} {v : Value} (h : w.heap[b]? = some (.cells C T fr)) (hv : C[i]? = some v) : w.cell? ⟨b, i, none⟩ = some v := by simp [World.cell?, h, hv]
theorem ro3 (w : World) (a b c : OpdV) (t : TypeId) (B g : Nat) (hg : g = w.heap.size) (hB : w.heap.size < B) : RO (w.alloc (.cells #[a.k, a.n, .int .i32 a.v, b.k, b.n, .int .i32 b.v, c.k, c.n, .int .i32 c.v] t)) B (some ⟨g, 0, none⟩) 3 (lstO [a, b, c]) := fun _ => by
 subst hg
 have h : (w.alloc (.cells #[a.k, a.n, .int .i32 a.v, b.k, b.n, .int .i32 b.v, c.k, c.n, .int .i32 c.v] t)).heap[w.heap.size]? = _ := heap_alloc_new _ _
 refine ⟨w.heap.size, 0, rfl, hB, fun j hj => ?_⟩
 match j, hj with
 | 0, _ => exact ⟨cellK h rfl, cellK h rfl, cellK h rfl⟩
 | 1, _ => exact ⟨cellK h rfl, cellK h rfl, cellK h rfl⟩
 | 2, _ => exact ⟨cellK h rfl, cellK h rfl, cellK h rfl⟩
theorem ro2 (w : World) (a b : OpdV) (t : TypeId) (B g : Nat) (hg : g = w.heap.size) (hB : w.heap.size < B) : RO (w.alloc (.cells #[a.k, a.n, .int .i32 a.v, b.k, b.n, .int .i32 b.v] t)) B (some ⟨g, 0, none⟩) 2 (lstO [a, b]) := fun _ => by
 subst hg
 have h : (w.alloc (.cells #[a.k, a.n, .int .i32 a.v, b.k, b.n, .int .i32 b.v] t)).heap[w.heap.size]? = _ := heap_alloc_new _ _
 refine ⟨w.heap.size, 0, rfl, hB, fun j hj => ?_⟩
 match j, hj with
 | 0, _ => exact ⟨cellK h rfl, cellK h rfl, cellK h rfl⟩
 | 1, _ => exact ⟨cellK h rfl, cellK h rfl, cellK h rfl⟩
def usesI (i : InstV) : List Int := usesV (lstO [i.a, i.b, i.c]) 3
def usesT (t : TermV) : List Int := usesV (lstO [t.a, t.b]) 2
theorem Uses_any (i : InstV) (w : World) : Calls Tryz.prog 28 #[i.val] w fun e w' => (∃ A' c', e = .returned (.slice A' (usesI i).length c') /\ RI w' w'.heap.size A' (usesI i).length (fun j => (usesI i).getD j 0)) /\ Below w.heap.size w w' := by
 have HR := lh (fun (W : World) (A : Option Addr) (c : Nat) (h : RO W W.heap.size A 3 (lstO [i.a, i.b, i.c])) => registers_any 3 c A (lstO [i.a, i.b, i.c]) W (by decide) h)
 have HN := lh (fun (W : World) (g : Nat) (hg : g = W.heap.size) => ro3 W i.a i.b i.c 27 (W.heap.size + 1) g hg (by omega))
 obtain ⟨us, hus⟩ : ∃ us, usesI i = us := ⟨_, rfl⟩
 rw [show usesV (lstO [i.a, i.b, i.c]) 3 = us from hus] at HR
 rw [hus]
 clear hus
 obtain ⟨op, sub, n, ⟨dk, dn, dv⟩, ⟨ak, an, av⟩, ⟨bk, bn, bv⟩, ⟨ck, cn, cv⟩⟩ := i
 simp only [InstV.val] at HR HN ⊢
 go_enter Tryz.func28, Tryz.ntmps28
 go_wp2_with (go_at_call 59; refine (HR.out _ _ _ (by rw [World.size_alloc]; exact HN.out _ _ (by simp))).mono ?_; rintro e w1 ⟨⟨A2, c2, rfl, hr⟩, hb⟩; have HB := lh hb; have HX := lh hr; clear hb hr)
 go_ret
 exact ⟨⟨_, _, rfl, HX.out⟩, (((Below.refl _ _).alloc (Nat.le_refl _) _).alloc (by simp) _).trans (HB.out.mono (by simp; omega))⟩
theorem UsesT_any (t : TermV) (w : World) : Calls Tryz.prog 24 #[t.val] w fun e w' => (∃ A' c', e = .returned (.slice A' (usesT t).length c') /\ RI w' w'.heap.size A' (usesT t).length (fun j => (usesT t).getD j 0)) /\ Below w.heap.size w w' := by
 have HR := lh (fun (W : World) (A : Option Addr) (c : Nat) (h : RO W W.heap.size A 2 (lstO [t.a, t.b])) => registers_any 2 c A (lstO [t.a, t.b]) W (by decide) h)
 have HN := lh (fun (W : World) (g : Nat) (hg : g = W.heap.size) => ro2 W t.a t.b 27 (W.heap.size + 1) g hg (by omega))
 obtain ⟨us, hus⟩ : ∃ us, usesT t = us := ⟨_, rfl⟩
 rw [show usesV (lstO [t.a, t.b]) 2 = us from hus] at HR
 rw [hus]
 clear hus
 obtain ⟨kind, sub, ⟨dk, dn, dv⟩, ⟨ak, an, av⟩, ⟨bk, bn, bv⟩, t0, t1⟩ := t
 simp only [TermV.val] at HR HN ⊢
 go_enter Tryz.func24, Tryz.ntmps24
 go_wp2_with (go_at_call 59; refine (HR.out _ _ _ (by rw [World.size_alloc]; exact HN.out _ _ (by simp))).mono ?_; rintro e w1 ⟨⟨A2, c2, rfl, hr⟩, hb⟩; have HB := lh hb; have HX := lh hr; clear hb hr)
 go_ret
 exact ⟨⟨_, _, rfl, HX.out⟩, (((Below.refl _ _).alloc (Nat.le_refl _) _).alloc (by simp) _).trans (HB.out.mono (by simp; omega))⟩
def succL (t : TermV) : List Int := Lib.compact ([t.t0, t.t1].take (endF t.kind).targets.toNat)
theorem endF_tgs (op : Int) : (endF op).targets = 0 \/ (endF op).targets = 1 \/ (endF op).targets = 2 := by
 have hop : op = 1 \/ op = 2 \/ op = 3 \/ op = 4 \/ op = 5 \/ (op < 1 \/ 5 < op) := by omega
 rcases hop with rfl | rfl | rfl | rfl | rfl | h
 all_goals first | decide | skip
 unfold endF
 repeat rw [if_neg (by omega)]
 decide
theorem sl2_0 (b : Nat) (W : World) : (Instr.sliceAt 51 (.pointer (some ⟨b, 11, none⟩)) none (some (.int .i64 ((0 : Nat) : Int))) none).run Tryz.prog W = .ok (.slice (some ⟨b, 11, none⟩) 0 2) W := by kernel_rfl
theorem sl2_1 (b : Nat) (W : World) : (Instr.sliceAt 51 (.pointer (some ⟨b, 11, none⟩)) none (some (.int .i64 ((1 : Nat) : Int))) none).run Tryz.prog W = .ok (.slice (some ⟨b, 11, none⟩) 1 2) W := by kernel_rfl
theorem sl2_2 (b : Nat) (W : World) : (Instr.sliceAt 51 (.pointer (some ⟨b, 11, none⟩)) none (some (.int .i64 ((2 : Nat) : Int))) none).run Tryz.prog W = .ok (.slice (some ⟨b, 11, none⟩) 2 2) W := by kernel_rfl
theorem below_sc {B b : Nat} {a : World} (hb : B <= b) : ∀ (vs : List Value) (o : Nat) (w : World), Below B a w -> Below B a (w.setCells b o vs)
 | [], _, _, h => h
 | v :: vs, o, w, h => below_sc hb vs (o + 1) (w.setCell ⟨b, o, none⟩ v) (h.setCell (by exact hb) v)
theorem size_sc {b : Nat} : ∀ (vs : List Value) (o : Nat) (w : World), (w.setCells b o vs).heap.size = w.heap.size
 | [], _, _ => rfl
 | v :: vs, o, w => (size_sc vs (o + 1) _).trans (by simp [World.setCell])
theorem Succ_any (t : TermV) (w : World) : Calls Tryz.prog 22 #[t.val] w fun e w' => e = .returned (.slice (some ⟨w.heap.size, 11, none⟩) (succL t).length 2) /\ (∀ j, j < (succL t).length -> w'.cell? ⟨w.heap.size, 11 + j, none⟩ = some (.int .i64 ((succL t).getD j 0))) /\ w.heap.size < w'.heap.size /\ Below w.heap.size w w' := by
 have HF := lh (fun (W : World) => endForm_any t.kind W)
 have htg := endF_tgs t.kind
 obtain ⟨us, hus⟩ : ∃ us, succL t = us := ⟨_, rfl⟩
 have HU := lh (show Lib.compact ([t.t0, t.t1].take (endF t.kind).targets.toNat) = us from hus)
 rw [hus]
 clear hus
 obtain ⟨f, hf⟩ : ∃ f, endF t.kind = f := ⟨_, rfl⟩
 rw [hf] at HF HU htg
 clear hf
 obtain ⟨fw, f1, f2, f3, f4, f5, f6, m⟩ := f
 obtain ⟨kind, sub, ⟨dk, dn, dv⟩, ⟨ak, an, av⟩, ⟨bk, bn, bv⟩, t0, t1⟩ := t
 simp only [TermV.val, FormV.val] at HF HU htg ⊢
 have hfld : ∀ W, (Instr.field 117 (.agg #[.string ⟨fw⟩, .int .u32 f1, f2, .bool f3, .bool f4, .bool f5, .bool f6, m]) 7).run Tryz.prog W = .ok (.int .i64 m) W := fun W => by kernel_rfl
 obtain ⟨n, hn, rfl⟩ : ∃ n : Nat, n <= 2 /\ m = n := by
  rcases htg with rfl | rfl | rfl
  . exact ⟨0, by decide, rfl⟩
  . exact ⟨1, by decide, rfl⟩
  . exact ⟨2, by decide, rfl⟩
 have hsl : ∀ b W, (Instr.sliceAt 51 (.pointer (some ⟨b, 11, none⟩)) none (some (.int .i64 (n : Int))) none).run Tryz.prog W = .ok (.slice (some ⟨b, 11, none⟩) n 2) W := by
  intro b W
  have h3 : n = 0 \/ n = 1 \/ n = 2 := by omega
  rcases h3 with rfl | rfl | rfl
  . exact sl2_0 b W
  . exact sl2_1 b W
  . exact sl2_2 b W
 simp only [Int.toNat_natCast] at HU
 have HC := lh (fun (W : World) (h0 : W.cell? ⟨w.heap.size, 11, none⟩ = some (.int .i64 t0)) (h1 : W.cell? ⟨w.heap.size, 12, none⟩ = some (.int .i64 t1)) (hlt : w.heap.size < W.heap.size) (hf : ∀ j, W.frozen? ⟨w.heap.size, j, none⟩ = false) (hb : Below w.heap.size w W) => (show Calls Tryz.prog 57 #[.slice (some ⟨w.heap.size, 11, none⟩) n 2] W fun e w' => e = .returned (.slice (some ⟨w.heap.size, 11, none⟩) us.length 2) /\ (∀ j, j < us.length -> w'.cell? ⟨w.heap.size, 11 + j, none⟩ = some (.int .i64 (us.getD j 0))) /\ w.heap.size < w'.heap.size /\ Below w.heap.size w w' from by
  have hcells : ∀ j, j < ([t0, t1] : List Int).length -> W.cell? ⟨w.heap.size, 11 + j, none⟩ = some (.int .i64 (([t0, t1] : List Int).getD j 0)) := fun j hj => by
   match j, hj with
   | 0, _ => exact h0
   | 1, _ => exact h1
  refine (Tryz.slices_Compact_int_cells w.heap.size 11 n 2 [t0, t1] W (by simpa using hn) (by omega) hn hcells (fun j _ => hf _)).mono ?_
  rintro e w' ⟨rfl, q, hw⟩
  rw [HU.out] at hw ⊢
  have hul : us.length <= n := by
   rw [<- HU.out]
   exact Nat.le_trans (compact_le _) (by simp [List.length_take]; omega)
  have hbw : Below w.heap.size w w' := by
   rw [hw]
   exact below_sc (Nat.le_refl _) _ _ _ (below_drewN hb q)
  refine ⟨rfl, fun j hj => ?_, ?_, hbw⟩
  rotate_left
  . rw [hw, size_sc]; exact hlt
  . have hin := World.cell?_setCells_in w.heap.size ((us ++ List.replicate (n - us.length) 0).map (Value.int .i64)) 11 (W.drewN q) (fun i hi => ?_) j (by simp; omega)
    . rw [hw, hin, List.getElem_map, List.getElem_append_left hj]
      show _ = some (Value.int .i64 (us.getD j 0))
      rw [List.getD_eq_getElem?_getD, List.getElem?_eq_getElem hj]
      rfl
    . have hi2 : i < 2 := by simp at hi; omega
      have := hcells i (by simpa using hi2)
      rw [show (W.drewN q).cell? ⟨w.heap.size, 11 + i, none⟩ = W.cell? ⟨w.heap.size, 11 + i, none⟩ from rfl, this]
      rfl))
 have HX := lh (fun (W : World) (hb : Below (w.alloc (.cells #[kind, sub, dk, dn, .int .i32 dv, ak, an, .int .i32 av, bk, bn, .int .i32 bv, t0, t1] 53)).heap.size (w.alloc (.cells #[kind, sub, dk, dn, .int .i32 dv, ak, an, .int .i32 av, bk, bn, .int .i32 bv, t0, t1] 53)) W) => (show W.cell? ⟨w.heap.size, 11, none⟩ = some (.int .i64 t0) /\ W.cell? ⟨w.heap.size, 12, none⟩ = some (.int .i64 t1) /\ w.heap.size < W.heap.size /\ (∀ j, W.frozen? ⟨w.heap.size, j, none⟩ = false) /\ Below w.heap.size w W from by
  have hk := (hb.block w.heap.size (by simp)).trans (heap_alloc_new w _)
  exact ⟨cellK hk rfl, cellK hk rfl, by have := hb.size; simp at this; omega, fun j => by simp [World.frozen?, hk], ((Below.refl _ _).alloc (Nat.le_refl _) _).trans (hb.mono (by simp))⟩))
 go_enter Tryz.func22, Tryz.ntmps22
 go_wp2_with (first
  | (go_at_call 58; (with_reducible refine (HF.out _).mono ?_); rintro e w1 ⟨rfl, hb⟩; obtain ⟨x1, x2, x3, x4, x5⟩ := HX.out w1 hb; have HCC := lh (HC.out w1 x1 x2 x3 x4 x5); clear hb x1 x2 x3 x4 x5)
  | (go_at_call 57; (with_reducible refine HCC.out.mono ?_); rintro e w2 ⟨rfl, hr⟩; have HR2 := lh hr; clear hr))
 go_ret
 exact ⟨rfl, HR2.out⟩
def setR (R : Nat -> Bool) (b : Nat) : Nat -> Bool := fun j => if j = b then true else R j
def reachF (n : Nat) (T : Nat -> TermV) : Nat -> (Nat -> Bool) -> List Int -> Nat -> Bool
 | 0, R, _ => R
 | f + 1, R, td => match td.getLast? with
  | none => R
  | some b => if (wthB b 0 ((n : Int) - 1) && !R b.toNat) = true then reachF n T f (setR R b.toNat) (td.dropLast ++ succL (T b.toNat)) else reachF n T f R td.dropLast
def reachV (n : Nat) (T : Nat -> TermV) : Nat -> Bool := reachF n T (3 * n + 1) (fun _ => false) [0]
theorem reachF_nil (n : Nat) (T : Nat -> TermV) (f : Nat) (R : Nat -> Bool) : reachF n T f R [] = R := by
 cases f <;> rfl
theorem reachF_no (n : Nat) (T : Nat -> TermV) (f : Nat) (R : Nat -> Bool) (td : List Int) (b : Int) (h : (wthB b 0 ((n : Int) - 1) && !R b.toNat) = false) : reachF n T (f + 1) R (td ++ [b]) = reachF n T f R td := by
 rw [reachF]
 simp only [List.getLast?_append, List.getLast?_singleton, Option.some_or, h, List.dropLast_concat]
 simp
theorem reachF_yes (n : Nat) (T : Nat -> TermV) (f : Nat) (R : Nat -> Bool) (td : List Int) (b : Int) (h : (wthB b 0 ((n : Int) - 1) && !R b.toNat) = true) : reachF n T (f + 1) R (td ++ [b]) = reachF n T f (setR R b.toNat) (td ++ succL (T b.toNat)) := by
 rw [reachF]
 simp only [List.getLast?_append, List.getLast?_singleton, Option.some_or, h, List.dropLast_concat]
 simp
def cu (R : Nat -> Bool) : Nat -> Nat
 | 0 => 0
 | n + 1 => cu R n + if R n = true then 0 else 1
theorem cu_le (R : Nat -> Bool) : ∀ n, cu R n <= n
 | 0 => Nat.le_refl _
 | n + 1 => by have := cu_le R n; unfold cu; split <;> omega
theorem cu_same (R : Nat -> Bool) (b : Nat) : ∀ n, n <= b -> cu (setR R b) n = cu R n
 | 0, _ => rfl
 | n + 1, h => by
  unfold cu
  rw [cu_same R b n (by omega)]
  have : setR R b n = R n := by unfold setR; rw [if_neg (by omega)]
  rw [this]
theorem cu_set (R : Nat -> Bool) (b : Nat) (hb : R b = false) : ∀ n, b < n -> cu (setR R b) n + 1 = cu R n
 | n + 1, h => by
  unfold cu
  by_cases e : n = b
  . subst e
    rw [cu_same R n n (Nat.le_refl _)]
    have : setR R n n = true := by unfold setR; rw [if_pos rfl]
    rw [this, hb]
    simp
  . have := cu_set R b hb n (by omega)
    have e2 : setR R b n = R n := by unfold setR; rw [if_neg e]
    rw [e2]
    omega
theorem succL_len (t : TermV) : (succL t).length <= 2 := by
 unfold succL
 exact Nat.le_trans (compact_le _) (by simp [List.length_take]; omega)
theorem own_pop {w : World} {base g cap : Nat} {td : List Int} {b : Int} (h : w.ownsRow base 3 1 (.slice (some ⟨g, 0, none⟩) (td.length + 1) cap) (td.length + 1) ((td ++ [b]).map (Value.int .i64))) : w.ownsRow base 3 1 (.slice (some ⟨g, 0, none⟩) td.length cap) td.length (td.map (Value.int .i64)) /\ td.length + 1 <= cap /\ w.cell? ⟨g, td.length, none⟩ = some (.int .i64 b) := by
 have hc := h.cellAt td.length (by omega)
 refine ⟨⟨by simp, ?_⟩, ?_, ?_⟩
 . rcases h.2 with ⟨hv, _⟩ | ⟨g', cap', cur, hv, hb, hg, hc', hm, hs, ht⟩
   . cases hv
   . injection hv with h1 h2 h3
     injection h1 with h1
     injection h1 with h1
     subst h1 h3
     refine .inr ⟨g, cap, cur, rfl, hb, hg, by omega, hm, hs, ?_⟩
     have := congrArg (List.take (td.length * 1)) ht
     rw [List.take_take, Nat.min_eq_left (by omega)] at this
     rw [this]
     simp
 . rcases h.2 with ⟨hv, _⟩ | ⟨g', cap', cur, hv, hb, hg, hc', hm, hs, ht⟩
   . cases hv
   . injection hv with h1 h2 h3
     subst h3
     exact hc'
 . rw [hc]
   simp
theorem infoB : (Tryz.prog.info? 4).map (fun i => (i.zero, i.size, i.bytes)) = some (some (.bool false), 1, 1) := by kernel_rfl
theorem news11 {w : World} {B : Nat} {l : List Int} (h : ∀ j, j < l.length -> w.cell? ⟨B, 11 + j, none⟩ = some (.int .i64 (l.getD j 0))) : ∀ j u, (l.map (Value.int .i64))[j]? = some u -> w.cell? ((⟨B, 11, none⟩ : Addr).add j) = some u := by
 intro j u hj
 rw [List.getElem?_map] at hj
 by_cases hl : j < l.length
 . have := h j hl
   rw [List.getD_eq_getElem?_getD, List.getElem?_eq_getElem hl] at this
   rw [List.getElem?_eq_getElem hl] at hj
   have hadd : (⟨B, 11, none⟩ : Addr).add j = ⟨B, 11 + j, none⟩ := by unfold Addr.add; split <;> simp_all
   rw [hadd, this]
   exact hj
 . rw [List.getElem?_eq_none (by omega)] at hj
   cases hj
section
variable (g s r sl p : Int) (n1 c1 n2 c2 n3 c3 : Nat) (A1 A2 A3 : Option Addr) (IA : Nat -> Option Addr) (IL IC : Nat -> Nat) (T : Nat -> TermV)
theorem Reach_any (w : World) (hr : RBl w w.heap.size A3 n3 IA IL IC T) (hn : n3 <= 65536) :
 Calls Tryz.prog 19 #[.agg #[g, s, r, sl, p, .slice A1 n1 c1, .slice A2 n2 c2, .slice A3 n3 c3]] w fun e w' => e = .returned (.slice (some ⟨w.heap.size + 1, 0, none⟩) n3 n3) /\ w'.rowIs (w.heap.size + 1) 4 n3 (fun j => .bool (reachV n3 T j)) /\ Below w.heap.size w w' := by
 have hmk := fun W => run_make_row' (P := Tryz.prog) 48 4 (.bool false) 1 Tryz.underlying48 infoB rfl .i64 .i64 n3 (by omega) (by omega) W
 obtain ⟨i0, hi, hz0, hz1, hz2⟩ := info_parts infoI
 have HR := lh hr
 have HSU := lh (fun (j : Nat) (W : World) => Succ_any (T j) W)
 obtain ⟨V, hV⟩ : ∃ V, reachV n3 T = V := ⟨_, rfl⟩
 have HV := lh (show reachF n3 T (3 * n3 + 1) (fun _ => false) [0] = V from hV)
 rw [hV]
 clear hr hV
 go_enter Tryz.func19, Tryz.ntmps19
 go_wp2
 have hb3 : Below w.heap.size w (((w.alloc (.cells #[g, s, r, sl, p, .slice A1 n1 c1, .slice A2 n2 c2, .slice A3 n3 c3] 36)).alloc (.cells (madeCells #[.bool false] n3) 4)).alloc (.cells #[(0:Int)] 3)) := (((Below.refl _ _).alloc (Nat.le_refl _) _).alloc (by simp) _).alloc (by simp; omega) _
 have hbx : (((w.alloc (.cells #[g, s, r, sl, p, .slice A1 n1 c1, .slice A2 n2 c2, .slice A3 n3 c3] 36)).alloc (.cells (madeCells #[.bool false] n3) 4)).alloc (.cells #[(0:Int)] 3)).cell? ⟨w.heap.size, 7, none⟩ = some (.slice A3 n3 c3) := by
  have hk : (((w.alloc (.cells #[g, s, r, sl, p, .slice A1 n1 c1, .slice A2 n2 c2, .slice A3 n3 c3] 36)).alloc (.cells (madeCells #[.bool false] n3) 4)).alloc (.cells #[(0:Int)] 3)).heap[w.heap.size]? = _ := (Below.heap_alloc _ _ _ (by simp; omega)).trans ((Below.heap_alloc _ _ _ (by simp)).trans (heap_alloc_new w _))
  exact cellK hk rfl
 have hrow : (((w.alloc (.cells #[g, s, r, sl, p, .slice A1 n1 c1, .slice A2 n2 c2, .slice A3 n3 c3] 36)).alloc (.cells (madeCells #[.bool false] n3) 4)).alloc (.cells #[(0:Int)] 3)).rowIs (w.heap.size + 1) 4 n3 (fun j => .bool false) := by
  have := (World.rowIs_made (w.alloc (.cells #[g, s, r, sl, p, .slice A1 n1 c1, .slice A2 n2 c2, .slice A3 n3 c3] 36)) (.bool false) n3 4).alloc (.cells #[(0:Int)] 3)
  rw [World.size_alloc] at this
  exact this
 have hown : (((w.alloc (.cells #[g, s, r, sl, p, .slice A1 n1 c1, .slice A2 n2 c2, .slice A3 n3 c3] 36)).alloc (.cells (madeCells #[.bool false] n3) 4)).alloc (.cells #[(0:Int)] 3)).ownsRow (w.heap.size + 2) 3 1 (.slice (some ⟨w.heap.size + 1 + 1, 0, none⟩) 1 1) 1 [(0:Int)] := by
  have := World.ownsRow_lit (base := w.heap.size + 2) (e := 3) (size := 1) ((w.alloc (.cells #[g, s, r, sl, p, .slice A1 n1 c1, .slice A2 n2 c2, .slice A3 n3 c3] 36)).alloc (.cells (madeCells #[.bool false] n3) 4)) #[(0:Int)] 1 (by simp) (by unfold maxLen; omega) rfl
  rw [World.size_alloc, World.size_alloc] at this
  exact this
 have hs3 : w.heap.size + 3 <= (((w.alloc (.cells #[g, s, r, sl, p, .slice A1 n1 c1, .slice A2 n2 c2, .slice A3 n3 c3] 36)).alloc (.cells (madeCells #[.bool false] n3) 4)).alloc (.cells #[(0:Int)] 3)).heap.size := by simp
 generalize (((w.alloc (.cells #[g, s, r, sl, p, .slice A1 n1 c1, .slice A2 n2 c2, .slice A3 n3 c3] 36)).alloc (.cells (madeCells #[.bool false] n3) 4)).alloc (.cells #[(0:Int)] 3)) = W3 at *
 have H1 := lh hb3; have H2 := lh hbx; have H3 := lh hrow; have H4 := lh hown; have H5 := lh hs3
 clear hb3 hbx hrow hown hs3 hmk
 have w3 : IntKind.i64.wrap ((n3 : Int) - 1) = (n3 : Int) - 1 := IntWalk.i64_in _ (by omega)
 go_loopg [4, 5, 6] (3 * n3 + 1) (fun f z4 z5 z6 wr => ∃ (R : Nat -> Bool) (td : List Int) (v : Value), v = z4 /\ td.length + 3 * cu R n3 <= f /\ f <= 3 * n3 + 1 /\ Hid (reachF n3 T f R td = V) /\ Hid (wr.rowIs (w.heap.size + 1) 4 n3 (fun j => .bool (R j))) /\ Hid (wr.ownsRow (w.heap.size + 2) 3 1 v td.length (td.map (Value.int .i64))) /\ Hid (wr.cell? ⟨w.heap.size, 7, none⟩ = some (.slice A3 n3 c3)) /\ Hid (Below w.heap.size w wr) /\ w.heap.size + 3 <= wr.heap.size)
 case atStart =>
  refine ⟨fun _ => false, [0], _, rfl, ?_, Nat.le_refl _, HV, H3, H4, H2, H1, H5.out⟩
  have := cu_le (fun _ => false) n3
  simp; omega
 case round =>
  obtain ⟨R, td, v, rfl, hf, hf2, HF, HRo, HO, HB7, HB, hsz⟩ := hrel
  rcases List.eq_nil_or_concat td with rfl | ⟨rest, b, rfl⟩
  . have hv0 : ∃ A c, v = .slice A 0 c := by
     rcases HO.out.2 with ⟨hv, _⟩ | ⟨gB, cap, cur, hv, _⟩
     . exact ⟨_, _, hv⟩
     . exact ⟨_, _, hv⟩
    obtain ⟨A, c, rfl⟩ := hv0
    have HE := HF.out
    rw [reachF_nil] at HE
    have HRR : Hid (wr.rowIs (w.heap.size + 1) 4 n3 (fun j => .bool (V j))) := lh (by rw [<- HE]; exact HRo.out)
    clear HE
    go_wp2
    go_ret
    exact ⟨rfl, HRR.out, HB.out⟩
  . rw [List.concat_eq_append] at *
    cases gk with
    | zero => simp at hf
    | succ gk =>
     obtain ⟨gT, cap, rfl, hgT, hgl⟩ := HO.out.form (by simp)
     have hO := HO.out
     rw [List.length_append] at hO hf
     simp only [List.length_cons, List.length_nil, Nat.zero_add] at hO hf
     obtain ⟨hO2, hcap, hcb⟩ := own_pop hO
     have HO2 := lh hO2
     clear hO hO2 HO
     obtain ⟨m, hm⟩ : ∃ m, rest.length = m := ⟨_, rfl⟩
     have hl : (rest ++ [b]).length = m + 1 := by simp [hm]
     rw [hm] at HO2 hcap hcb hf
     rw [hl]
     have wm : IntKind.i64.wrap (m : Int) = m := IntWalk.i64_in _ (by omega)
     have hm0 : 0 <= (m : Int) := by omega
     have hm1 : (m : Int) < (m : Int) + 1 := by omega
     have hm2 : (m : Int) <= (cap : Int) := by omega
     have hb7 := HB7.out
     have HM := lh hm
     clear hm hl
     cases hw : wthB b 0 ((n3 : Int) - 1)
     . have HW := lh (fun (W : World) => within_any b 0 ((n3 : Int) - 1) W)
       rw [hw] at HW
       have HF2 : Hid (reachF n3 T gk R rest = V) := lh (by rw [<- reachF_no n3 T gk R rest b (by rw [hw]; rfl)]; exact HF.out)
       clear hw
       go_wp2_with (go_at_call 56; (with_reducible refine (HW.out _).mono ?_); rintro e w1 ⟨rfl, rfl⟩)
       go_roundg gk
       case measure => omega
       case rel => exact ⟨R, rest, _, rfl, by rw [HM.out]; omega, by omega, HF2, HRo, lh (by rw [HM.out]; exact HO2.out), HB7, HB, hsz⟩
     . obtain ⟨bn, rfl, hbn⟩ : ∃ bn : Nat, b = bn /\ bn < n3 := by
        unfold wthB at hw
        simp only [Bool.and_eq_true, decide_eq_true_eq] at hw
        exact ⟨b.toNat, by omega, by omega⟩
       have HW := lh (fun (W : World) => within_any (bn : Int) 0 ((n3 : Int) - 1) W)
       rw [hw] at HW
       have hi0 : 0 <= (bn : Int) := by omega
       have hi1 : (bn : Int) < (n3 : Int) := by omega
       have hcr := HRo.out.cell hbn
       have hfr := HRo.out.frozen bn
       have HI := lh hbn
       cases hR : R bn
       . have HF2 : Hid (reachF n3 T gk (setR R bn) (rest ++ succL (T bn)) = V) := lh (by
          have := reachF_yes n3 T gk R rest (bn : Int) (by rw [hw]; simp [hR])
          rw [Int.toNat_natCast] at this
          rw [<- this]; exact HF.out)
         have HCU := lh (cu_set R bn hR n3 hbn)
         rw [hR] at hcr
         clear hw hbn hR
         have hW4 : Below w.heap.size w (wr.setCell ⟨w.heap.size + 1, bn, none⟩ (.bool true)) := HB.out.setCell (by simp) _
         obtain ⟨b0, off, rfl, hb0, hcells⟩ := (HR.out.below hW4) (by have := HI.out; omega)
         obtain ⟨m0, m1, m2, _, _, _, _, _, _, _, _, _, _, _⟩ := hcells bn HI.out
         have h74 : (wr.setCell ⟨w.heap.size + 1, bn, none⟩ (.bool true)).cell? ⟨w.heap.size, 7, none⟩ = some (.slice (some ⟨b0, off, none⟩) n3 c3) := by
          rw [<- hb7]
          exact World.cell?_of_block (a := ⟨w.heap.size, 7, none⟩) (Below.heap_setCell wr ⟨w.heap.size + 1, bn, none⟩ _ _ (by simp))
         have HS4 := lh (HSU.out bn (wr.setCell ⟨w.heap.size + 1, bn, none⟩ (.bool true)))
         have hz4 : (wr.setCell ⟨w.heap.size + 1, bn, none⟩ (.bool true)).heap.size = wr.heap.size := by simp [World.setCell]
         rw [hz4] at HS4
         have HSL := lh (succL_len (T bn))
         obtain ⟨sq, hsq⟩ : ∃ sq, succL (T bn) = sq := ⟨_, rfl⟩
         rw [hsq] at HS4 HSL HF2
         have HO4 : Hid ((wr.setCell ⟨w.heap.size + 1, bn, none⟩ (.bool true)).ownsRow (w.heap.size + 2) 3 1 (.slice (some ⟨gT, 0, none⟩) m cap) m (rest.map (Value.int .i64))) := lh (HO2.out.kept (row := some (w.heap.size + 1)) ⟨rfl, rfl, rfl, by simp [World.setCell], fun k hk hne => Below.heap_setCell wr ⟨w.heap.size + 1, bn, none⟩ _ k (fun e => hne (by rw [e]))⟩ (.inr (by simp [Value.ownBlock]; omega)))
         have HR4 : Hid ((wr.setCell ⟨w.heap.size + 1, bn, none⟩ (.bool true)).rowIs (w.heap.size + 1) 4 n3 (fun j => .bool (setR R bn j))) := lh ((HRo.out.set bn (.bool true)).congr (fun j hj => by unfold setR; split <;> rfl))
         have H74 := lh h74
         have HW4 := lh hW4
         clear hsq hcells hb0 hW4
         simp only [TermV.val] at HS4
         go_wp2_with (first
          | (go_at_call 56; (with_reducible refine (HW.out _).mono ?_); rintro e w1 ⟨rfl, rfl⟩)
          | (go_at_call 22; (with_reducible refine HS4.out.mono ?_); rintro e w5 ⟨rfl, hnw, hz5, hb5⟩; have HN5 := lh hnw; have HB5 := lh hb5; have HO5 := lh (HO4.out.kept (row := none) (w' := w5) ⟨hb5.os, hb5.tape, hb5.output, by have := hb5.size; simpa [World.setCell] using this, fun k hk _ => hb5.block k (by simpa [World.setCell] using hk)⟩ (by simp [Value.ownBlock])); clear hnw hb5)
          | (at_builtin; refine wpList_append_own _ rfl _ _ 57 rfl (w.heap.size + 2) 3 i0 (.int .i64 0) 1 8 Tryz.underlying57 hi hz0 hz1 hz2 rfl (by decide) _ _ _ rfl HO5.out ⟨wr.heap.size, 11, none⟩ sq.length 2 (sq.map (Value.int .i64)) rfl (by simp) (news11 HN5.out) (by simp [Value.oneCell']) (by have := HSL.out; unfold maxLen; omega) (by have := HSL.out; omega) (by omega) ?_; intro v' w6 hown' hgrow _; have HO6 := lh hown'; have HG6 : Hid (w5.grownBy w6 (some gT)) := lh hgrow; clear hown' hgrow))
         have hb5 := HB5.out
         have hsz4 : (wr.setCell ⟨w.heap.size + 1, bn, none⟩ (.bool true)).heap.size = wr.heap.size := by simp [World.setCell]
         have hk5 : ∀ k, k < wr.heap.size -> w5.heap[k]? = (wr.setCell ⟨w.heap.size + 1, bn, none⟩ (.bool true)).heap[k]? := fun k hk => hb5.block k hk
         have h5s := hb5.size
         rw [hsz4] at h5s
         have hk6 : ∀ k, k < w.heap.size + 2 -> w6.heap[k]? = (wr.setCell ⟨w.heap.size + 1, bn, none⟩ (.bool true)).heap[k]? := fun k hk => (HG6.out.block k (by omega) (by simp; omega)).trans (hk5 k (by omega))
         have hz6 := HG6.out.size
         have hb6 : Below w.heap.size w w6 := grown_below (HW4.out.trans (hb5.mono (by omega))) HO5.out HG6.out (by omega) (by omega)
         go_roundg gk
         case measure => omega
         case rel =>
          refine ⟨setR R bn, rest ++ sq, _, rfl, ?_, by omega, HF2, lh (HR4.out.of_block (hk6 _ (by omega))), lh ?_, lh ((World.cell?_of_block (a := ⟨w.heap.size, 7, none⟩) (hk6 _ (by show w.heap.size < _; omega))).trans H74.out), lh hb6, by omega⟩
          . have := HCU.out
            have := HSL.out
            rw [List.length_append, HM.out]
            omega
          . rw [List.length_append, HM.out, List.map_append]
            exact HO6.out
       . have HF2 : Hid (reachF n3 T gk R rest = V) := lh (by rw [<- reachF_no n3 T gk R rest (bn : Int) (by rw [hw]; simp [hR])]; exact HF.out)
         rw [hR] at hcr
         clear hw hbn hR
         go_wp2_with (go_at_call 56; (with_reducible refine (HW.out _).mono ?_); rintro e w1 ⟨rfl, rfl⟩)
         go_roundg gk
         case measure => omega
         case rel => exact ⟨R, rest, _, rfl, by rw [HM.out]; omega, by omega, HF2, HRo, lh (by rw [HM.out]; exact HO2.out), HB7, HB, hsz⟩
end
end Go.Proofs.YtkncilgmlkeifaaGreatDoor
