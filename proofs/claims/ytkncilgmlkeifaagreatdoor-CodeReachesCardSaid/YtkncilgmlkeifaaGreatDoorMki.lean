/-
  The reference: the instructions that the maker makes are right (plain facts).
-/
import Derived.Test.YtkncilgmlkeifaaGreatDoorMkr
import Derived.Test.YtkncilgmlkeifaaGreatDoorTxt
import Derived.Test.YtkncilgmlkeifaaGreatDoorIns
set_option linter.unusedVariables false
set_option linter.unusedSimpArgs false
namespace Go.Proofs.YtkncilgmlkeifaaGreatDoor
open Go.ChangeShapes Go.WideShapes Go.ChangeAt Go.RowKit Go.Shelf

/-- The spaces of the maker's arrays. -/
def spA (j : Nat) : Int := ([1, 1, 2, 3, 2] : List Int).getD j 0
/-- An instruction that is right where there are r registers. -/
structure IOk (r : Int) (i : InstV) : Prop where
  ok : ∀ (sl : Int) (n3 : Nat), instB 3 sl r 5 n3 spA i = true
  rng : i.parts.Rng
theorem regB_mono {r r' : Int} (h : r ≤ r') {o : OpdV} (k : regB r o = true) : regB r' o = true := by
  unfold regB wthB at *
  simp only [Bool.and_eq_true, decide_eq_true_eq] at *
  omega
theorem valB_mono {r r' : Int} (h : r ≤ r') {o : OpdV} (k : valB r o = true) : valB r' o = true := by
  unfold valB at *
  simp only [Bool.or_eq_true] at *
  exact k.imp_right (regB_mono h)
theorem hasV_mono {p sl r r' : Int} {n1 n3 : Nat} {sp : Nat → Int} {f : FormV} {q : PartV} (h : r ≤ r') (k : hasV p sl r n1 n3 sp f q = true) : hasV p sl r' n1 n3 sp f q = true := by
  unfold hasV at *
  simp only [Bool.and_eq_true, Bool.or_eq_true] at *
  obtain ⟨a, b, ⟨d, x, y, z⟩, t⟩ := k
  exact ⟨a, b, ⟨d.imp_right (regB_mono h), x.imp_right (valB_mono h), y.imp_right (valB_mono h), z.imp_right (valB_mono h)⟩, t⟩
theorem IOk.mono {r r' : Int} {i : InstV} (h : IOk r i) (hr : r ≤ r') : IOk r' i := by
  refine ⟨fun sl n3 => ?_, h.rng⟩
  have := h.ok sl n3
  unfold instB at *
  simp only [Bool.and_eq_true] at *
  exact ⟨this.1, hasV_mono hr this.2⟩
theorem regB_of {r x : Int} (hr : 6 ≤ r) (h : 0 ≤ x ∧ x ≤ 5) : regB r ⟨2, x, 0⟩ = true := by
  simp [regB, wthB]
  omega
theorem valB_of {r : Int} {o : OpdV} (hr : 6 ≤ r) (h : VOk o) : valB r o = true := by
  unfold valB
  simp only [Bool.or_eq_true, Bool.and_eq_true, decide_eq_true_eq]
  rcases h with h | ⟨h1, h2, h3, h4⟩
  · exact .inl ⟨h.1, h.2.1⟩
  · right
    unfold regB wthB
    simp only [Bool.and_eq_true, decide_eq_true_eq]
    omega
theorem valB_reg {r x : Int} (hr : 6 ≤ r) (h : 0 ≤ x ∧ x ≤ 5) : valB r ⟨2, x, 0⟩ = true := valB_of hr (.inr ⟨rfl, rfl, h.1, h.2⟩)
theorem valB_const (r v : Int) : valB r ⟨1, 0, v⟩ = true := by simp [valB]
theorem i64_of {x : Int} (h : -1000000 ≤ x ∧ x ≤ 1000000) : I64 x := ⟨by omega, by omega⟩
theorem orng {x v : Int} (k : Int) (h : -1000000 ≤ x ∧ x ≤ 1000000) (hv : -1000000 ≤ v ∧ v ≤ 1000000) : (⟨k, x, v⟩ : OpdV).Rng := ⟨i64_of h, ⟨by show -2147483648 ≤ v; omega, by show v ≤ 2147483647; omega⟩⟩
theorem z64 : I64 0 := ⟨by decide, by decide⟩
theorem o0 : (⟨0, 0, 0⟩ : OpdV).Rng := ⟨z64, ⟨by decide, by decide⟩⟩
theorem VOk.rng {o : OpdV} (h : VOk o) : o.Rng := by
  obtain ⟨k, x, v⟩ := o
  rcases h with ⟨h1, h2, h3, h4⟩ | ⟨h1, h2, h3, h4⟩
  · exact orng k (by simp only at h2; omega) (by simp only at h3 h4; omega)
  · exact orng k (by simp only at h3 h4; omega) (by simp only at h2; omega)
theorem hasB_id {s : Int} (h : 1 ≤ s ∧ s ≤ 7) : hasB 254 s = true := by
  have : s = 1 ∨ s = 2 ∨ s = 3 ∨ s = 4 ∨ s = 5 ∨ s = 6 ∨ s = 7 := by omega
  rcases this with rfl | rfl | rfl | rfl | rfl | rfl | rfl <;> decide +kernel
theorem hasB_un {s : Int} (h : 1 ≤ s ∧ s ≤ 5) : hasB 62 s = true := by
  have : s = 1 ∨ s = 2 ∨ s = 3 ∨ s = 4 ∨ s = 5 := by omega
  rcases this with rfl | rfl | rfl | rfl | rfl <;> decide +kernel
theorem hasB_fence {s : Int} (h : 1 ≤ s ∧ s ≤ 2) : hasB 6 s = true := by
  have : s = 1 ∨ s = 2 := by omega
  rcases this with rfl | rfl <;> decide +kernel
theorem hasB_bin {s : Int} (h : 10 ≤ s ∧ s ≤ 29) : hasB 1073740800 s = true := by
  have : s = 10 ∨ s = 11 ∨ s = 12 ∨ s = 13 ∨ s = 14 ∨ s = 15 ∨ s = 16 ∨ s = 17 ∨ s = 18 ∨ s = 19 ∨ s = 20 ∨ s = 21 ∨ s = 22 ∨ s = 23 ∨ s = 24 ∨ s = 25 ∨ s = 26 ∨ s = 27 ∨ s = 28 ∨ s = 29 := by omega
  rcases this with rfl | rfl | rfl | rfl | rfl | rfl | rfl | rfl | rfl | rfl | rfl | rfl | rfl | rfl | rfl | rfl | rfl | rfl | rfl | rfl <;> decide +kernel
theorem hasB_atom {s : Int} (h : s = 10 ∨ s = 22 ∨ s = 23 ∨ s = 17 ∨ s = 18 ∨ s = 19) : hasB 13501440 s = true := by
  rcases h with rfl | rfl | rfl | rfl | rfl | rfl <;> decide +kernel
section
variable {r x s m : Int} {a b c : OpdV} (hr : 6 ≤ r)
theorem iok_id (hr : 6 ≤ r) (hs : 1 ≤ s ∧ s ≤ 7) (hx : 0 ≤ x ∧ x ≤ 5) : IOk r ⟨5, s, 0, ⟨2, x, 0⟩, ⟨0, 0, 0⟩, ⟨0, 0, 0⟩, ⟨0, 0, 0⟩⟩ :=
  ⟨fun sl n3 => by simp [instB, instOK, instF, hasV, othV, zeroP, FormV.want, InstV.parts, noOpd, regB_of hr hx, hasB_id hs], ⟨i64_of (by show -1000000 ≤ s ∧ s ≤ 1000000; omega), z64, orng 2 (x := x) (v := 0) (by omega) (by decide), o0, o0, o0, z64, z64⟩⟩
theorem iok_bin (hr : 6 ≤ r) (hs : 10 ≤ s ∧ s ≤ 29) (hx : 0 ≤ x ∧ x ≤ 5) (ha : VOk a) (hb : VOk b) : IOk r ⟨3, s, 0, ⟨2, x, 0⟩, a, b, ⟨0, 0, 0⟩⟩ :=
  ⟨fun sl n3 => by simp [instB, instOK, instF, hasV, othV, zeroP, FormV.want, InstV.parts, noOpd, regB_of hr hx, hasB_bin hs, valB_of hr ha, valB_of hr hb], ⟨i64_of (by show -1000000 ≤ s ∧ s ≤ 1000000; omega), z64, orng 2 (x := x) (v := 0) (by omega) (by decide), ha.rng, hb.rng, o0, z64, z64⟩⟩
theorem iok_un (hr : 6 ≤ r) (hs : 1 ≤ s ∧ s ≤ 5) (hx : 0 ≤ x ∧ x ≤ 5) (ha : VOk a) : IOk r ⟨2, s, 0, ⟨2, x, 0⟩, a, ⟨0, 0, 0⟩, ⟨0, 0, 0⟩⟩ :=
  ⟨fun sl n3 => by simp [instB, instOK, instF, hasV, othV, zeroP, FormV.want, InstV.parts, noOpd, regB_of hr hx, hasB_un hs, valB_of hr ha], ⟨i64_of (by show -1000000 ≤ s ∧ s ≤ 1000000; omega), z64, orng 2 (x := x) (v := 0) (by omega) (by decide), ha.rng, o0, o0, z64, z64⟩⟩
theorem iok_sel (hr : 6 ≤ r) (hx : 0 ≤ x ∧ x ≤ 5) (ha : VOk a) (hb : VOk b) (hc : VOk c) : IOk r ⟨4, 0, 0, ⟨2, x, 0⟩, a, b, c⟩ :=
  ⟨fun sl n3 => by simp [instB, instOK, instF, hasV, othV, zeroP, FormV.want, InstV.parts, noOpd, regB_of hr hx, valB_of hr ha, valB_of hr hb, valB_of hr hc], ⟨z64, z64, orng 2 (x := x) (v := 0) (by omega) (by decide), ha.rng, hb.rng, hc.rng, z64, z64⟩⟩
theorem iok_mov (hr : 6 ≤ r) (hx : 0 ≤ x ∧ x ≤ 5) (ha : VOk a) : IOk r ⟨1, 0, 0, ⟨2, x, 0⟩, a, ⟨0, 0, 0⟩, ⟨0, 0, 0⟩⟩ :=
  ⟨fun sl n3 => by simp [instB, instOK, instF, hasV, othV, zeroP, FormV.want, InstV.parts, noOpd, regB_of hr hx, valB_of hr ha], ⟨z64, z64, orng 2 (x := x) (v := 0) (by omega) (by decide), ha.rng, o0, o0, z64, z64⟩⟩
theorem idx_param (sl : Int) (h : 0 ≤ m ∧ m ≤ 2) : idxB 3 sl 5 spA 1 m = true := by
  unfold idxB wthB
  simp
  omega
theorem idx_mem (sl : Int) (h : 0 ≤ m ∧ m ≤ 4) : idxB 3 sl 5 spA 2 m = true := by
  unfold idxB wthB
  simp
  omega
theorem idx_atom (sl : Int) (h : 0 ≤ m ∧ m ≤ 4) (h3 : m ≠ 3) : idxB 3 sl 5 spA 3 m = true := by
  have : m = 0 ∨ m = 1 ∨ m = 2 ∨ m = 4 := by omega
  rcases this with rfl | rfl | rfl | rfl <;> rfl
theorem iok_param (hr : 6 ≤ r) (hm : 0 ≤ m ∧ m ≤ 2) (hx : 0 ≤ x ∧ x ≤ 5) : IOk r ⟨6, 0, m, ⟨2, x, 0⟩, ⟨0, 0, 0⟩, ⟨0, 0, 0⟩, ⟨0, 0, 0⟩⟩ :=
  ⟨fun sl n3 => by simp [instB, instOK, instF, hasV, othV, zeroP, FormV.want, InstV.parts, noOpd, regB_of hr hx, idx_param sl hm], ⟨z64, i64_of (by show -1000000 ≤ m ∧ m ≤ 1000000; omega), orng 2 (x := x) (v := 0) (by omega) (by decide), o0, o0, o0, z64, z64⟩⟩
theorem iok_fence (hs : 1 ≤ s ∧ s ≤ 2) : IOk r ⟨10, s, 0, ⟨0, 0, 0⟩, ⟨0, 0, 0⟩, ⟨0, 0, 0⟩, ⟨0, 0, 0⟩⟩ :=
  ⟨fun sl n3 => by simp [instB, instOK, instF, hasV, othV, zeroP, FormV.want, InstV.parts, noOpd, hasB_fence hs], ⟨i64_of (by show -1000000 ≤ s ∧ s ≤ 1000000; omega), z64, o0, o0, o0, o0, z64, z64⟩⟩
theorem iok_atom (hr : 6 ≤ r) (hs : s = 10 ∨ s = 22 ∨ s = 23 ∨ s = 17 ∨ s = 18 ∨ s = 19) (hm : 0 ≤ m ∧ m ≤ 4) (h3 : m ≠ 3) (hx : 0 ≤ x ∧ x ≤ 5) (hb : VOk b) : IOk r ⟨9, s, m, ⟨0, 0, 0⟩, ⟨2, x, 0⟩, b, ⟨0, 0, 0⟩⟩ :=
  ⟨fun sl n3 => by simp [instB, instOK, instF, hasV, othV, zeroP, FormV.want, InstV.parts, noOpd, valB_reg hr hx, valB_of hr hb, hasB_atom hs, idx_atom sl hm h3], ⟨i64_of (by show -1000000 ≤ s ∧ s ≤ 1000000; omega), i64_of (by show -1000000 ≤ m ∧ m ≤ 1000000; omega), o0, orng 2 (x := x) (v := 0) (by omega) (by decide), hb.rng, o0, z64, z64⟩⟩
theorem iok_load (hr : 6 ≤ r) (hm : 0 ≤ m ∧ m ≤ 4) {y : Int} (hx : 0 ≤ x ∧ x ≤ 5) (hy : 0 ≤ y ∧ y ≤ 5) : IOk r ⟨7, 0, m, ⟨2, x, 0⟩, ⟨2, y, 0⟩, ⟨0, 0, 0⟩, ⟨0, 0, 0⟩⟩ :=
  ⟨fun sl n3 => by simp [instB, instOK, instF, hasV, othV, zeroP, FormV.want, InstV.parts, noOpd, regB_of hr hx, valB_reg hr hy, idx_mem sl hm], ⟨z64, i64_of (by show -1000000 ≤ m ∧ m ≤ 1000000; omega), orng 2 (x := x) (v := 0) (by omega) (by decide), orng 2 (x := y) (v := 0) (by omega) (by decide), o0, o0, z64, z64⟩⟩
theorem iok_store (hr : 6 ≤ r) (hm : 0 ≤ m ∧ m ≤ 4) (hx : 0 ≤ x ∧ x ≤ 5) (hb : VOk b) : IOk r ⟨8, 0, m, ⟨0, 0, 0⟩, ⟨2, x, 0⟩, b, ⟨0, 0, 0⟩⟩ :=
  ⟨fun sl n3 => by simp [instB, instOK, instF, hasV, othV, zeroP, FormV.want, InstV.parts, noOpd, valB_reg hr hx, valB_of hr hb, idx_mem sl hm], ⟨z64, i64_of (by show -1000000 ≤ m ∧ m ≤ 1000000; omega), o0, orng 2 (x := x) (v := 0) (by omega) (by decide), hb.rng, o0, z64, z64⟩⟩
end
end Go.Proofs.YtkncilgmlkeifaaGreatDoor
