import Derived.Test.YtkncilgmlkeifaaGreatDoorMkr
import Derived.Test.YtkncilgmlkeifaaGreatDoorTxt
import Derived.Test.YtkncilgmlkeifaaGreatDoorChk
import Derived.Deep.CutRange
import Derived.Deep.CutBlock
/-
  The reference: the instructions that the maker makes are right (plain facts).
-/
set_option linter.unusedVariables false
set_option linter.unusedSimpArgs false
set_option maxRecDepth 100000
set_option maxHeartbeats 8000000
namespace Go.Proofs.YtkncilgmlkeifaaGreatDoor
open Go.ChangeShapes Go.WideShapes Go.ChangeAt Go.RowKit Go.Shelf
def spA (j : Nat) : Int := ([1, 1, 2, 3, 2] : List Int).getD j 0
structure IOk (r : Int) (i : InstV) : Prop where
 ok : ∀ (sl : Int) (n3 : Nat), instB 3 sl r 5 n3 spA i = true
 rng : i.parts.Rng
theorem regB_mono {r r' : Int} (h : r <= r') {o : OpdV} (k : regB r o = true) : regB r' o = true := by
 unfold regB wthB at *
 simp only [Bool.and_eq_true, decide_eq_true_eq] at *
 omega
theorem valB_mono {r r' : Int} (h : r <= r') {o : OpdV} (k : valB r o = true) : valB r' o = true := by
 unfold valB at *
 simp only [Bool.or_eq_true] at *
 exact k.imp_right (regB_mono h)
theorem hasV_mono {p sl r r' : Int} {n1 n3 : Nat} {sp : Nat -> Int} {f : FormV} {q : PartV} (h : r <= r') (k : hasV p sl r n1 n3 sp f q = true) : hasV p sl r' n1 n3 sp f q = true := by
 unfold hasV at *
 simp only [Bool.and_eq_true, Bool.or_eq_true] at *
 obtain ⟨a, b, ⟨d, x, y, z⟩, t⟩ := k
 exact ⟨a, b, ⟨d.imp_right (regB_mono h), x.imp_right (valB_mono h), y.imp_right (valB_mono h), z.imp_right (valB_mono h)⟩, t⟩
theorem IOk.mono {r r' : Int} {i : InstV} (h : IOk r i) (hr : r <= r') : IOk r' i := by
 refine ⟨fun sl n3 => ?_, h.rng⟩
 have := h.ok sl n3
 unfold instB at *
 simp only [Bool.and_eq_true] at *
 exact ⟨this.1, hasV_mono hr this.2⟩
theorem regB_of {r x : Int} (hr : 6 <= r) (h : 0 <= x /\ x <= 5) : regB r ⟨2, x, 0⟩ = true := by
 simp [regB, wthB]
 omega
theorem valB_of {r : Int} {o : OpdV} (hr : 6 <= r) (h : VOk o) : valB r o = true := by
 unfold valB
 simp only [Bool.or_eq_true, Bool.and_eq_true, decide_eq_true_eq]
 rcases h with h | ⟨h1, h2, h3, h4⟩
 . exact .inl ⟨h.1, h.2.1⟩
 . right
   unfold regB wthB
   simp only [Bool.and_eq_true, decide_eq_true_eq]
   omega
theorem valB_reg {r x : Int} (hr : 6 <= r) (h : 0 <= x /\ x <= 5) : valB r ⟨2, x, 0⟩ = true := valB_of hr (.inr ⟨rfl, rfl, h.1, h.2⟩)
theorem valB_const (r v : Int) : valB r ⟨1, 0, v⟩ = true := by simp [valB]
theorem i64_of {x : Int} (h : -1000000 <= x /\ x <= 1000000) : I64 x := ⟨by omega, by omega⟩
theorem orng {x v : Int} (k : Int) (h : -1000000 <= x /\ x <= 1000000) (hv : -1000000 <= v /\ v <= 1000000) : (⟨k, x, v⟩ : OpdV).Rng := ⟨i64_of h, ⟨by show -2147483648 <= v; omega, by show v <= 2147483647; omega⟩⟩
theorem z64 : I64 0 := ⟨by decide, by decide⟩
theorem o0 : (⟨0, 0, 0⟩ : OpdV).Rng := ⟨z64, ⟨by decide, by decide⟩⟩
theorem VOk.rng {o : OpdV} (h : VOk o) : o.Rng := by
 obtain ⟨k, x, v⟩ := o
 rcases h with ⟨h1, h2, h3, h4⟩ | ⟨h1, h2, h3, h4⟩
 . exact orng k (by simp only at h2; omega) (by simp only at h3 h4; omega)
 . exact orng k (by simp only at h3 h4; omega) (by simp only at h2; omega)
theorem hasB_id {s : Int} (h : 1 <= s /\ s <= 7) : hasB 254 s = true := by
 have : s = 1 \/ s = 2 \/ s = 3 \/ s = 4 \/ s = 5 \/ s = 6 \/ s = 7 := by omega
 rcases this with rfl | rfl | rfl | rfl | rfl | rfl | rfl <;> decide +kernel
theorem hasB_un {s : Int} (h : 1 <= s /\ s <= 5) : hasB 62 s = true := by
 have : s = 1 \/ s = 2 \/ s = 3 \/ s = 4 \/ s = 5 := by omega
 rcases this with rfl | rfl | rfl | rfl | rfl <;> decide +kernel
theorem hasB_fence {s : Int} (h : 1 <= s /\ s <= 2) : hasB 6 s = true := by
 have : s = 1 \/ s = 2 := by omega
 rcases this with rfl | rfl <;> decide +kernel
theorem hasB_bin {s : Int} (h : 10 <= s /\ s <= 29) : hasB 1073740800 s = true := by
 have : s = 10 \/ s = 11 \/ s = 12 \/ s = 13 \/ s = 14 \/ s = 15 \/ s = 16 \/ s = 17 \/ s = 18 \/ s = 19 \/ s = 20 \/ s = 21 \/ s = 22 \/ s = 23 \/ s = 24 \/ s = 25 \/ s = 26 \/ s = 27 \/ s = 28 \/ s = 29 := by omega
 rcases this with rfl | rfl | rfl | rfl | rfl | rfl | rfl | rfl | rfl | rfl | rfl | rfl | rfl | rfl | rfl | rfl | rfl | rfl | rfl | rfl <;> decide +kernel
theorem hasB_atom {s : Int} (h : s = 10 \/ s = 22 \/ s = 23 \/ s = 17 \/ s = 18 \/ s = 19) : hasB 13501440 s = true := by
 rcases h with rfl | rfl | rfl | rfl | rfl | rfl <;> decide +kernel
section
variable {r x s m : Int} {a b c : OpdV} (hr : 6 <= r)
theorem iok_id (hr : 6 <= r) (hs : 1 <= s /\ s <= 7) (hx : 0 <= x /\ x <= 5) : IOk r ⟨5, s, 0, ⟨2, x, 0⟩, ⟨0, 0, 0⟩, ⟨0, 0, 0⟩, ⟨0, 0, 0⟩⟩ :=
 ⟨fun sl n3 => by simp [instB, instOK, instF, hasV, othV, zeroP, FormV.want, InstV.parts, noOpd, regB_of hr hx, hasB_id hs], ⟨i64_of (by show -1000000 <= s /\ s <= 1000000; omega), z64, orng 2 (x := x) (v := 0) (by omega) (by decide), o0, o0, o0, z64, z64⟩⟩
theorem iok_bin (hr : 6 <= r) (hs : 10 <= s /\ s <= 29) (hx : 0 <= x /\ x <= 5) (ha : VOk a) (hb : VOk b) : IOk r ⟨3, s, 0, ⟨2, x, 0⟩, a, b, ⟨0, 0, 0⟩⟩ :=
 ⟨fun sl n3 => by simp [instB, instOK, instF, hasV, othV, zeroP, FormV.want, InstV.parts, noOpd, regB_of hr hx, hasB_bin hs, valB_of hr ha, valB_of hr hb], ⟨i64_of (by show -1000000 <= s /\ s <= 1000000; omega), z64, orng 2 (x := x) (v := 0) (by omega) (by decide), ha.rng, hb.rng, o0, z64, z64⟩⟩
theorem iok_un (hr : 6 <= r) (hs : 1 <= s /\ s <= 5) (hx : 0 <= x /\ x <= 5) (ha : VOk a) : IOk r ⟨2, s, 0, ⟨2, x, 0⟩, a, ⟨0, 0, 0⟩, ⟨0, 0, 0⟩⟩ :=
 ⟨fun sl n3 => by simp [instB, instOK, instF, hasV, othV, zeroP, FormV.want, InstV.parts, noOpd, regB_of hr hx, hasB_un hs, valB_of hr ha], ⟨i64_of (by show -1000000 <= s /\ s <= 1000000; omega), z64, orng 2 (x := x) (v := 0) (by omega) (by decide), ha.rng, o0, o0, z64, z64⟩⟩
theorem iok_sel (hr : 6 <= r) (hx : 0 <= x /\ x <= 5) (ha : VOk a) (hb : VOk b) (hc : VOk c) : IOk r ⟨4, 0, 0, ⟨2, x, 0⟩, a, b, c⟩ :=
 ⟨fun sl n3 => by simp [instB, instOK, instF, hasV, othV, zeroP, FormV.want, InstV.parts, noOpd, regB_of hr hx, valB_of hr ha, valB_of hr hb, valB_of hr hc], ⟨z64, z64, orng 2 (x := x) (v := 0) (by omega) (by decide), ha.rng, hb.rng, hc.rng, z64, z64⟩⟩
theorem iok_mov (hr : 6 <= r) (hx : 0 <= x /\ x <= 5) (ha : VOk a) : IOk r ⟨1, 0, 0, ⟨2, x, 0⟩, a, ⟨0, 0, 0⟩, ⟨0, 0, 0⟩⟩ :=
 ⟨fun sl n3 => by simp [instB, instOK, instF, hasV, othV, zeroP, FormV.want, InstV.parts, noOpd, regB_of hr hx, valB_of hr ha], ⟨z64, z64, orng 2 (x := x) (v := 0) (by omega) (by decide), ha.rng, o0, o0, z64, z64⟩⟩
theorem idx_param (sl : Int) (h : 0 <= m /\ m <= 2) : idxB 3 sl 5 spA 1 m = true := by
 unfold idxB wthB
 simp
 omega
theorem idx_mem (sl : Int) (h : 0 <= m /\ m <= 4) : idxB 3 sl 5 spA 2 m = true := by
 unfold idxB wthB
 simp
 omega
theorem idx_atom (sl : Int) (h : 0 <= m /\ m <= 4) (h3 : m ≠ 3) : idxB 3 sl 5 spA 3 m = true := by
 have : m = 0 \/ m = 1 \/ m = 2 \/ m = 4 := by omega
 rcases this with rfl | rfl | rfl | rfl <;> rfl
theorem iok_param (hr : 6 <= r) (hm : 0 <= m /\ m <= 2) (hx : 0 <= x /\ x <= 5) : IOk r ⟨6, 0, m, ⟨2, x, 0⟩, ⟨0, 0, 0⟩, ⟨0, 0, 0⟩, ⟨0, 0, 0⟩⟩ :=
 ⟨fun sl n3 => by simp [instB, instOK, instF, hasV, othV, zeroP, FormV.want, InstV.parts, noOpd, regB_of hr hx, idx_param sl hm], ⟨z64, i64_of (by show -1000000 <= m /\ m <= 1000000; omega), orng 2 (x := x) (v := 0) (by omega) (by decide), o0, o0, o0, z64, z64⟩⟩
theorem iok_fence (hs : 1 <= s /\ s <= 2) : IOk r ⟨10, s, 0, ⟨0, 0, 0⟩, ⟨0, 0, 0⟩, ⟨0, 0, 0⟩, ⟨0, 0, 0⟩⟩ :=
 ⟨fun sl n3 => by simp [instB, instOK, instF, hasV, othV, zeroP, FormV.want, InstV.parts, noOpd, hasB_fence hs], ⟨i64_of (by show -1000000 <= s /\ s <= 1000000; omega), z64, o0, o0, o0, o0, z64, z64⟩⟩
theorem iok_atom (hr : 6 <= r) (hs : s = 10 \/ s = 22 \/ s = 23 \/ s = 17 \/ s = 18 \/ s = 19) (hm : 0 <= m /\ m <= 4) (h3 : m ≠ 3) (hx : 0 <= x /\ x <= 5) (hb : VOk b) : IOk r ⟨9, s, m, ⟨0, 0, 0⟩, ⟨2, x, 0⟩, b, ⟨0, 0, 0⟩⟩ :=
 ⟨fun sl n3 => by simp [instB, instOK, instF, hasV, othV, zeroP, FormV.want, InstV.parts, noOpd, valB_reg hr hx, valB_of hr hb, hasB_atom hs, idx_atom sl hm h3], ⟨i64_of (by show -1000000 <= s /\ s <= 1000000; omega), i64_of (by show -1000000 <= m /\ m <= 1000000; omega), o0, orng 2 (x := x) (v := 0) (by omega) (by decide), hb.rng, o0, z64, z64⟩⟩
theorem iok_load (hr : 6 <= r) (hm : 0 <= m /\ m <= 4) {y : Int} (hx : 0 <= x /\ x <= 5) (hy : 0 <= y /\ y <= 5) : IOk r ⟨7, 0, m, ⟨2, x, 0⟩, ⟨2, y, 0⟩, ⟨0, 0, 0⟩, ⟨0, 0, 0⟩⟩ :=
 ⟨fun sl n3 => by simp [instB, instOK, instF, hasV, othV, zeroP, FormV.want, InstV.parts, noOpd, regB_of hr hx, valB_reg hr hy, idx_mem sl hm], ⟨z64, i64_of (by show -1000000 <= m /\ m <= 1000000; omega), orng 2 (x := x) (v := 0) (by omega) (by decide), orng 2 (x := y) (v := 0) (by omega) (by decide), o0, o0, z64, z64⟩⟩
theorem iok_store (hr : 6 <= r) (hm : 0 <= m /\ m <= 4) (hx : 0 <= x /\ x <= 5) (hb : VOk b) : IOk r ⟨8, 0, m, ⟨0, 0, 0⟩, ⟨2, x, 0⟩, b, ⟨0, 0, 0⟩⟩ :=
 ⟨fun sl n3 => by simp [instB, instOK, instF, hasV, othV, zeroP, FormV.want, InstV.parts, noOpd, valB_reg hr hx, valB_of hr hb, idx_mem sl hm], ⟨z64, i64_of (by show -1000000 <= m /\ m <= 1000000; omega), o0, orng 2 (x := x) (v := 0) (by omega) (by decide), hb.rng, o0, z64, z64⟩⟩
end
theorem MX.last {rb n0 n1 : Nat} {g : Nat -> Value} {qs : List ArV} {ls : List LoV} {I : List BlE} {e : BlE} {W : World} (h : MX rb n0 n1 g qs ls I (some e) (I ++ (some e).toList).length (flatB (I ++ (some e).toList)) W) :
 ∃ gB cap, g 9 = .slice (some ⟨gB, 0, none⟩) (I.length + 1) cap /\ W.cell? ⟨gB, I.length * 14, none⟩ = some e.1 /\ (∀ o, W.frozen? ⟨gB, o, none⟩ = false) /\ n0 <= gB /\ ∃ C, W.heap[gB]? = some (.cells C 55 (0, 0)) := by
 have hb := h.blocks
 simp only [Option.toList, List.length_append, List.length_cons, List.length_nil] at hb
 rcases id hb.2 with ⟨_, hn⟩ | ⟨gB, cap, cur, hv, hbg, hgg, _⟩
 . omega
 . refine ⟨gB, cap, hv, ?_, fun o => ?_, hbg, cur, hgg⟩
   . rw [hv] at hb
     rw [hb.cellAt (I.length * 14) (by omega), flatB_snoc, List.getElem?_append_right (by rw [flatB_len]; exact Nat.le_refl _), flatB_len, Nat.sub_self]
     rfl
   . rw [hv] at hb
     exact hb.frozenAt o
section
variable (rb n0 K : Nat) (L : Value × Value) (num : Nat -> Int) (qs : List ArV) (ls : List LoV) (init : List BlV) (w0 W : World)
theorem put_any (is : List InstV) (t : TermV) (op sub nn dk dn dv ak an av bk bn bv ck cn cv : Int) (h : MT rb n0 L K num qs ls init (some (is, t)) w0 W) (hq : init.length <= 1000000) (hi : is.length <= 1000000) :
 Calls Tryz.prog 107 #[.pointer (some ⟨rb, 0, none⟩), .agg #[op, sub, nn, dk, dn, .int .i32 dv, ak, an, .int .i32 av, bk, bn, .int .i32 bv, ck, cn, .int .i32 cv]] W fun e w' => (∃ v, e = .returned v) /\ MT rb n0 L K num qs ls init (some (is ++ [⟨op, sub, nn, ⟨dk, dn, dv⟩, ⟨ak, an, av⟩, ⟨bk, bn, bv⟩, ⟨ck, cn, cv⟩⟩], t)) w0 w' /\ KM W w' := by
 obtain ⟨i0, hi0, hz0, hz1, hz2⟩ := info_parts infoInst
 obtain ⟨n1, g, I, La, h1, rfl, hL, h4, h5, h6, h7, h8, h9⟩ := h
 obtain ⟨e, rfl⟩ : ∃ e, La = some e := by cases La with
  | none => cases hL
  | some e => exact ⟨e, rfl⟩
 obtain ⟨vI, is', t'⟩ := e
 simp only [Option.map_some, Option.some.injEq, Prod.mk.injEq] at hL
 obtain ⟨rfl, rfl⟩ := hL
 rw [List.length_map] at hq
 obtain ⟨i, hii⟩ : ∃ i : InstV, i = ⟨op, sub, nn, ⟨dk, dn, dv⟩, ⟨ak, an, av⟩, ⟨bk, bn, bv⟩, ⟨ck, cn, cv⟩⟩ := ⟨_, rfl⟩
 rw [<- hii]
 have HIC : Hid (i.cells = [.int .i64 op, .int .i64 sub, .int .i64 nn, .int .i64 dk, .int .i64 dn, .int .i32 dv, .int .i64 ak, .int .i64 an, .int .i32 av, .int .i64 bk, .int .i64 bn, .int .i32 bv, .int .i64 ck, .int .i64 cn, .int .i32 cv]) := lh (by rw [hii]; rfl)
 clear hii
 have hB1 : Below W.heap.size W (W.alloc (.cells #[op, sub, nn, dk, dn, .int .i32 dv, ak, an, .int .i32 av, bk, bn, .int .i32 bv, ck, cn, .int .i32 cv] 61)) := (Below.refl _ _).alloc (Nat.le_refl _) _
 have hkf : (W.alloc (.cells #[op, sub, nn, dk, dn, .int .i32 dv, ak, an, .int .i32 av, bk, bn, .int .i32 bv, ck, cn, .int .i32 cv] 61)).heap[W.heap.size]? = some (.cells #[op, sub, nn, dk, dn, .int .i32 dv, ak, an, .int .i32 av, bk, bn, .int .i32 bv, ck, cn, .int .i32 cv] 61 (0, 0)) := heap_alloc_new _ _
 have h1 := h1.on hB1
 have h7 := h7.trans (hB1.mono h7.size)
 have HK1 := lh (KM.of hB1)
 go_enter Tryz.func107, Tryz.ntmps107
 have hlast := h1.last
 go_upto_region 1 with (fail)
 generalize (W.alloc (.cells #[op, sub, nn, dk, dn, .int .i32 dv, ak, an, .int .i32 av, bk, bn, .int .i32 bv, ck, cn, .int .i32 cv] 61)) = W1 at *
 generalize W.heap.size = bx at *
 obtain ⟨gB, cap, h9g, cI, cf, hgB, C55, hC55⟩ := hlast
 have c9 : W1.cell? ⟨rb, 9, none⟩ = some (.slice (some ⟨gB, 0, none⟩) (I.length + 1) cap) := by rw [h1.row.cell (by decide), h9g]
 have b0 := cell_blk hkf (i := 0) rfl
 have b1 := cell_blk hkf (i := 1) rfl
 have b2 := cell_blk hkf (i := 2) rfl
 have b3 := cell_blk hkf (i := 3) rfl
 have b4 := cell_blk hkf (i := 4) rfl
 have b5 := cell_blk hkf (i := 5) rfl
 have b6 := cell_blk hkf (i := 6) rfl
 have b7 := cell_blk hkf (i := 7) rfl
 have b8 := cell_blk hkf (i := 8) rfl
 have b9 := cell_blk hkf (i := 9) rfl
 have b10 := cell_blk hkf (i := 10) rfl
 have b11 := cell_blk hkf (i := 11) rfl
 have b12 := cell_blk hkf (i := 12) rfl
 have b13 := cell_blk hkf (i := 13) rfl
 have b14 := cell_blk hkf (i := 14) rfl
 have hw0 : IntKind.i64.wrap (I.length : Int) = (I.length : Int) := IntWalk.i64_in _ (by omega)
 have HROW := lh (fun (WA : World) (hA : Below W1.heap.size W1 WA) => show WA.ownsRow n1 61 15 vI is'.length (flatI is') from (h1.on hA).new _ rfl)
 have hsz : n1 <= W1.heap.size := h1.hn.2
 have ca9 : ∀ C, (W1.alloc (.cells C 61)).cell? ⟨rb, 9, none⟩ = some (.slice (some ⟨gB, 0, none⟩) (I.length + 1) cap) := fun C => by rw [(h1.on ((Below.refl _ _).alloc (Nat.le_refl _) _)).row.cell (by decide), h9g]
 have caI : ∀ C, (W1.alloc (.cells C 61)).cell? ⟨gB, I.length * 14, none⟩ = some vI := fun C => by
  have hb : Below W1.heap.size W1 (W1.alloc (.cells C 61)) := (Below.refl _ _).alloc (Nat.le_refl _) _
  rw [World.cell?_of_block (hb.block gB (Array.getElem?_eq_some_iff.1 hC55).1)]
  exact cI
 have HFIN := lh (fun (WA : World) (hA : Below W1.heap.size W1 WA) (v : Value) (w8 : World) (hr : w8.ownsRow n1 61 15 v (is'.length + 1) (flatI is' ++ i.cells)) (hg : WA.grownBy w8 vI.ownBlock) =>
  (show (w8.cell? ⟨rb, 9, none⟩ = some (.slice (some ⟨gB, 0, none⟩) (I.length + 1) cap) /\ w8.cell? ⟨gB, I.length * 14, none⟩ = some vI /\ w8.frozen? ⟨gB, I.length * 14, none⟩ = false) /\ MT rb n0 L K num qs ls (I.map (·.2)) (some (is' ++ [i], t')) w0 (w8.setCell ⟨gB, I.length * 14, none⟩ v) /\ KM W (w8.setCell ⟨gB, I.length * 14, none⟩ v) from by
   have hA1 := h1.on hA
   have hx : MX rb n0 n1 g qs ls I (some (v, is' ++ [i], t')) (I ++ (some ((vI, is', t') : BlE)).toList).length (flatB (I ++ (some ((vI, is', t') : BlE)).toList)) w8 := hA1.grown (by rw [flatI_snoc, List.length_append]; exact hr) hg
   have hk := grow_kept (hA1.new _ rfl) hg
   have hcw : w8.heap[gB]? = some (.cells C55 55 (0, 0)) := by
    have e1 := hA.block gB (Array.getElem?_eq_some_iff.1 hC55).1
    exact (hk gB C55 55 (0, 0) (e1.trans hC55) (by decide)).trans (e1.trans hC55)
   have hst := hx.store (gB := gB) (cap := cap) (by rw [h9g]; simp) (I.length * 14) v
   rw [show (some ((vI, is', t') : BlE)).toList = [(vI, is', t')] from rfl, flatB_set0 I (vI, is', t') v (is' ++ [i])] at hst
   refine ⟨⟨by rw [hx.row.cell (by decide), h9g], ?_, frozen_of_row w8 gB _ _ _ hcw⟩, ⟨n1, g, I, some (v, is' ++ [i], t'), by simpa using hst, rfl, rfl, h4, h5, h6, ?_, h8, h9⟩, ?_⟩
   . have e1 := hA.block gB (Array.getElem?_eq_some_iff.1 hC55).1
     rw [World.cell?_of_block (w' := w8) (w := W1) (a := ⟨gB, I.length * 14, none⟩) (hcw.trans hC55.symm)]
     exact cI
   . have hn := h1.hn
     exact (grow_below (h7.trans (hA.mono h7.size)) (hA1.new _ rfl) hg (by omega) (Nat.le_refl _)).setCell (show w0.heap.size <= gB by omega) v
   . refine HK1.out.trans ⟨fun b C' T fr hb' hT => ?_, ?_⟩
     . have e1 := hA.block b (Array.getElem?_eq_some_iff.1 hb').1
       have e2 := hk b C' T fr (e1.trans hb') hT.2.2.1
       have hne : b ≠ gB := by
        rintro rfl
        rw [hC55] at hb'
        injection hb' with hb'
        injection hb' with _ h2 _
        exact hT.2.1 h2.symm
       exact (Below.heap_setCell w8 ⟨gB, I.length * 14, none⟩ v b hne).trans (e2.trans e1)
     . have := hg.size; have := hA.size; simp [World.setCell]; omega))
 have HB2 := lh (fun o => show Below W1.heap.size W1 (W1.alloc o).drew from below_drewN ((Below.refl _ _).alloc (Nat.le_refl _) _) 1)
 clear h1 h4 h5 h6 h7 h8 h9 hB1 hC55 hkf HK1 h9g hgB
 have hlt : (I.length : Int) < (I.length : Int) + 1 := by omega
 go_wp2
 go_region_law (refine step_append_own rfl _ _ 50 (by rfl) n1 61 i0 _ 15 120 Tryz.underlying50 hi0 hz0 hz1 hz2 rfl (by decide) vI is'.length (flatI is') (by rfl) (HROW.out _ (HB2.out _)) ⟨W1.heap.size, 0, none⟩ 1 1 [.int .i64 op, .int .i64 sub, .int .i64 nn, .int .i64 dk, .int .i64 dn, .int .i32 dv, .int .i64 ak, .int .i64 an, .int .i32 av, .int .i64 bk, .int .i64 bn, .int .i32 bv, .int .i64 ck, .int .i64 cn, .int .i32 cv] (by rfl) (by rfl) (row_new W1 #[op, sub, nn, dk, dn, .int .i32 dv, ak, an, .int .i32 av, bk, bn, .int .i32 bv, ck, cn, .int .i32 cv] 61) (by simp [Value.oneCell']) (by unfold maxLen; omega) (by omega) (by simp; omega) ?_; intro v' w8 hown' hgrow _; obtain ⟨⟨c98, cI8, cf8⟩, hf8⟩ := HFIN.out _ (HB2.out _) _ _ (by rw [HIC.out]; exact hown') hgrow; have HF8 := lh hf8; obtain ⟨gg, cap', rfl, _, _⟩ := hown'.form (by omega); clear hown' hgrow hf8)
 all_goals
  go_wp2
  go_end0
  exact ⟨⟨_, rfl⟩, HF8.out⟩
end
def arM : List ArV := [(⟨#[97]⟩, 1, 1, 8), (⟨#[102]⟩, 1, 2, 4), (⟨#[115]⟩, 2, 1, 8), (⟨#[112]⟩, 3, 1, 4), (⟨#[98]⟩, 2, 3, 4)]
def lnM (m : Int) : Int := (arM.getD m.toNat (⟨#[]⟩, 0, 0, 0)).2.2.2
theorem lnM_rng {m : Int} (h : 0 <= m /\ m <= 4) : 4 <= lnM m /\ lnM m <= 8 := by
 have : m = 0 \/ m = 1 \/ m = 2 \/ m = 3 \/ m = 4 := by omega
 rcases this with rfl | rfl | rfl | rfl | rfl <;> decide
def AtA (rb gA cA : Nat) (W : World) : Prop := W.cell? ⟨rb, 7, none⟩ = some (.slice (some ⟨gA, 0, none⟩) 5 cA) /\ ∀ m : Int, 0 <= m /\ m <= 4 -> W.cell? ⟨gA, m.toNat * 4 + 3, none⟩ = some (.int .i64 (lnM m))
section
variable {rb n0 K gA cA : Nat} {L0 : Value} {num : Nat -> Int} {ls : List LoV} {init : List BlV} {last : Option BlV} {w0 W : World}
theorem MT.atA (h : MT rb n0 (L0, .slice (some ⟨gA, 0, none⟩) 5 cA) K num arM ls init last w0 W) : AtA rb gA cA W := by
 obtain ⟨n1, g, I, La, h1, _, _, h4, _⟩ := h
 have ha := h1.arr
 rw [h4.2] at ha
 refine ⟨by rw [h1.row.cell (by decide), h4.2], fun m hm => ?_⟩
 have : m = 0 \/ m = 1 \/ m = 2 \/ m = 3 \/ m = 4 := by omega
 rcases this with rfl | rfl | rfl | rfl | rfl <;> exact (ha.cellAt _ (by decide)).trans rfl
end
def BxE (b : Nat) (x y z : Int) (W : World) : Prop := W.heap[b]? = some (.cells #[x, y, .int .i32 z] 27 (0, 0))
theorem BxE.on {b : Nat} {x y z : Int} {W W' : World} (h : BxE b x y z W) (k : KM W W') : BxE b x y z W' := (k.1 b _ 27 _ h (by decide)).trans h
theorem BxE.cells {b : Nat} {x y z : Int} {W : World} (h : BxE b x y z W) : W.cell? ⟨b, 0, none⟩ = some (.int .i64 x) /\ W.cell? ⟨b, 1, none⟩ = some (.int .i64 y) /\ W.cell? ⟨b, 2, none⟩ = some (.int .i32 z) :=
 ⟨cell_blk h (i := 0) rfl, cell_blk h (i := 1) rfl, cell_blk h (i := 2) rfl⟩
section
variable (rb n0 K : Nat) (num : Nat -> Int) (ls : List LoV) (init : List BlV) (w0 W : World) (A : Option Addr) (n c : Nat) (f : Nat -> Int) (gA cA : Nat)
theorem place_any (p : Bool) (is : List InstV) (t : TermV) (h : MT rb n0 (.slice A n c, .slice (some ⟨gA, 0, none⟩) 5 cA) K num arM ls init (some (is, t)) w0 W) (hn : n <= 9223372036854775807) (hK : K + 3 <= 1000000) (hB : RBy w0 A n f) (hq : init.length <= 1000000) (hi : is.length <= 1000000) :
 Calls Tryz.prog 141 #[.pointer (some ⟨rb, 0, none⟩), .bool p] W fun e w' => (∃ m x : Int, e = .returned (.tuple #[m, .agg #[(2:Int), x, .int .i32 0]]) /\ (0 <= m /\ m <= 4) /\ (p = false -> m ≠ 3) /\ (0 <= x /\ x <= 5) /\ ∃ i, IOk 6 i /\ MT rb n0 (.slice A n c, .slice (some ⟨gA, 0, none⟩) 5 cA) (K + 3) num arM ls init (some (is ++ [i], t)) w0 w') /\ KM W w' := by
 have h0 : w0.heap.size <= W.heap.size := by obtain ⟨_, _, _, _, _, _, _, _, _, _, h7, _⟩ := h; exact h7.size
 have HA := lh (fun o => KM.of ((Below.refl W.heap.size W).alloc (Nat.le_refl _) o))
 have HB0 := lh (BxO.new W 0 0 0)
 have HN := lh (fun o => next_any rb n0 K num arM ls init (some (is, t)) w0 (W.alloc o) A n c f (.slice (some ⟨gA, 0, none⟩) 5 cA) (h.alloc o) hn (by omega) hB)
 have HR := lh (fun W h => reg_any rb n0 (K + 1) num arM ls init (some (is, t)) w0 W A n c f (.slice (some ⟨gA, 0, none⟩) 5 cA) h hn (by omega) hB)
 have HV := lh (fun W h => val_any rb n0 (K + 2) num arM ls init (some (is, t)) w0 W A n c f (.slice (some ⟨gA, 0, none⟩) 5 cA) h hn (by omega) hB)
 have HP := lh (fun W h op sub nn dk dn dv ak an av bk bn bv ck cn cv => put_any rb n0 (K + 3) (.slice A n c, .slice (some ⟨gA, 0, none⟩) 5 cA) num arM ls init w0 W is t op sub nn dk dn dv ak an av bk bn bv ck cn cv h hq hi)
 clear h hB hn hK hq hi
 go_enter Tryz.func141, Tryz.ntmps141
 go_upto_region 2 with (first
  | (go_at_call 65; (with_reducible refine (HN.out _).mono ?_); rintro e W1 ⟨⟨y, rfl, y0, y1⟩, h1, k1⟩; have H1 := lh h1; have HX1 := lh (HB0.out.on k1); have HK1 := lh ((HA.out _).trans k1); clear h1 k1))
 obtain ⟨z, hz⟩ : ∃ z : Int, y % 5 = z := ⟨_, rfl⟩
 have hz0 : 0 <= z /\ z <= 4 := by omega
 rw [hz]
 clear hz y0 y1
 go_cut [16] (fun v wx => v = .bool (decide (z = 3) && !p) /\ W1 = wx)
 case first =>
  by_cases h3 : z = 3
  . have e3 : (z == 3) = true := by simpa using h3
    cases p
    . go_wp2
      go_meet
      exact ⟨by simp [h3], rfl⟩
    . go_wp2
      go_meet
      exact ⟨by simp, rfl⟩
  . have e3 : (z == 3) = false := by simpa using h3
    go_wp2
    go_meet
    exact ⟨by simp [h3], rfl⟩
 case rest =>
 obtain ⟨rfl, rfl⟩ := hcut
 go_upto_if 16 with fail
 go_cut [6] from 16 (fun v wx => ∃ m : Int, v = .int .i64 m /\ Hid (0 <= m /\ m <= 4) /\ Hid (p = false -> m ≠ 3) /\ W1 = wx)
 case first =>
  obtain ⟨q, hq⟩ : ∃ q, (decide (z = 3) && !p) = q := ⟨_, rfl⟩
  rw [hq]
  have HQ := lh hq
  clear hq
  cases q
  . go_wp2
    go_meet
    exact ⟨z, rfl, lh hz0, lh (fun hp h3 => by have := HQ.out; rw [hp, h3] at this; cases this), rfl⟩
  . go_wp2
    go_meet
    exact ⟨0, rfl, lh ⟨by decide, by decide⟩, lh (fun _ => by decide), rfl⟩
 case rest =>
 obtain ⟨m, rfl, HM, HM3, rfl⟩ := hcut
 clear hz0
 go_upto_region 5 with (first
  | (go_at_call 70; (with_reducible refine (HR.out _ H1.out).mono ?_); rintro e W2 ⟨⟨x, rfl, x0, x1⟩, h2, k2⟩; have H2 := lh h2; have HX2 := lh (HX1.out.on k2); have HK2 := lh (HK1.out.trans k2); clear h2 k2))
 have H3 := lh (H2.out.alloc (.cells #[(2:Int), x, .int .i32 0] 27))
 have hkx : BxE W2.heap.size 2 x 0 (W2.alloc (.cells #[(2:Int), x, .int .i32 0] 27)) := heap_alloc_new _ _
 have hk3 : KM W2 (W2.alloc (.cells #[(2:Int), x, .int .i32 0] 27)) := KM.of ((Below.refl _ _).alloc (Nat.le_refl _) _)
 have HX3 := lh (HX2.out.on hk3)
 have HK3 := lh (HK2.out.trans hk3)
 have hbd : W.heap.size <= W2.heap.size := HK2.out.2
 clear hk3 HX2 HK2 H2
 generalize (W2.alloc (.cells #[(2:Int), x, .int .i32 0] 27)) = W3 at *
 generalize W2.heap.size = bd at *
 obtain ⟨a7, aL⟩ := H3.out.atA
 obtain ⟨ln, hln⟩ : ∃ ln, lnM m = ln := ⟨_, rfl⟩
 have aM := aL m HM.out
 rw [hln] at aM
 have hlr := lnM_rng HM.out
 rw [hln] at hlr
 have hw1 : IntKind.i64.wrap (ln - 1) = ln - 1 := IntWalk.i64_in _ (by omega)
 have hw2 : IntKind.i32.wrap (ln - 1) = ln - 1 := IntWalk.i32_in _ (by omega)
 obtain ⟨hm0, hm4⟩ := HM.out
 have hm5 : m < 5 := by omega
 obtain ⟨d0, d1, d2⟩ := hkx.cells
 have HD3 := lh hkx
 have HLN := lh hln
 have HKD := lh (show KM W3 W3.drew from KM.of (below_drewN (Below.refl _ _) 1))
 have HI := lh (fun (o : OpdV) (ho : VOk o) => show IOk 6 ⟨3, 17, 0, ⟨2, x, 0⟩, o, ⟨1, 0, ln - 1⟩, ⟨0, 0, 0⟩⟩ from
  ⟨fun sl n3 => by simp [instB, instOK, instF, hasV, othV, zeroP, FormV.want, InstV.parts, noOpd, regB_of (by decide : (6 : Int) <= 6) ⟨x0, x1⟩, hasB_bin (s := 17) (by decide), valB_of (by decide : (6 : Int) <= 6) ho, valB_const], ⟨i64_of (x := 17) (by decide), z64, orng 2 (x := x) (v := 0) (by omega) (by decide), ho.rng, orng 1 (x := 0) (v := ln - 1) (by decide) (by omega), o0, z64, z64⟩⟩)
 clear aL hkx hln hm4 hlr
 go_cut [] (fun wx => ∃ i, Hid (IOk 6 i) /\ Hid (MT rb n0 (.slice A n c, .slice (some ⟨gA, 0, none⟩) 5 cA) (K + 3) num arM ls init (some (is ++ [i], t)) w0 wx) /\ Hid (BxE bd 2 x 0 wx) /\ Hid (BxO W.heap.size wx) /\ Hid (KM W wx))
 case first =>
  go_region_with (first
   | (go_at_call 71; (with_reducible refine (HV.out _ H3.out.drew).mono ?_); rintro e W4 ⟨⟨o, rfl, ho⟩, h4, k4⟩; obtain ⟨ok, on, ov⟩ := o; have k34 := HKD.out.trans k4; have HK4 := lh (HK3.out.trans k34); have HX4 := lh (HX3.out.on k34); have hd4 := HD3.out.on k34; obtain ⟨e0, e1, e2⟩ := hd4.cells; obtain ⟨b7, bL⟩ := h4.atA; have bM := bL m HM.out; rw [HLN.out] at bM; have HD4 := lh hd4; have H4 := lh h4; have HO := lh (HI.out _ ho); clear hd4 h4 k4 k34 bL ho)
   | (go_at_call 42; (with_reducible refine (Const_any _ _).mono ?_); rintro e W5 ⟨rfl, hb5⟩; have k45 := KM.of hb5; have HK5 := lh (HK4.out.trans k45); have HX5 := lh (HX4.out.on k45); have hd5 := HD4.out.on k45; obtain ⟨f0, f1, f2⟩ := hd5.cells; have HD5 := lh hd5; have H5 := lh (H4.out.on hb5); clear hd5 hb5 k45)
   | (go_at_call 107; (with_reducible refine (HP.out _ H5.out _ _ _ _ _ _ _ _ _ _ _ _ _ _ _).mono ?_); rintro e W6 ⟨⟨v, rfl⟩, h6, k6⟩; have HK6 := lh (HK5.out.trans k6); have HX6 := lh (HX5.out.on k6); have hd6 := HD5.out.on k6; have HD6 := lh hd6; have H6 := lh h6; clear hd6 h6 k6))
  all_goals
   go_wp2
   go_meet
   exact ⟨_, HO, H6, HD6, HX6, HK6⟩
 case rest =>
 obtain ⟨i, HO, H6, HD6, HX6, HK6⟩ := hcut
 clear HN HR HV HP HA HB0 H1 HX1 HK1 H3 HX3 HK3 HD3 HKD HI a7 aM d0 d1 d2 hw1 hw2
 obtain ⟨g0, g1, g2⟩ := HD6.out.cells
 obtain ⟨⟨_, c0⟩, ⟨_, c1⟩, ⟨_, c2⟩, cf⟩ := HX6.out.facts
 go_wp2
 go_region
 all_goals go_wp2
 exact bodyPost_ret (v := .tuple #[m, .agg #[(2:Int), x, .int .i32 0]]) (by simp [results, Tryz.results141, go_sem, c0, c1, c2]) rfl ⟨⟨m, x, rfl, HM.out, HM3.out, ⟨x0, x1⟩, i, HO.out, (H6.out.drew).box3 (HX6.out.on (KM.of (below_drewN (Below.refl _ _) 1))) h0 2 x 0⟩, (HK6.out.drewN 1).set3 _ _ _⟩
end
end Go.Proofs.YtkncilgmlkeifaaGreatDoor
