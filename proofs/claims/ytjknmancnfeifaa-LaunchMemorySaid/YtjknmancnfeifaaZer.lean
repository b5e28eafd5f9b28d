/-
  The contract of launch.Zero: rows of zeros.
-/
import Derived.Test.YtjknmancnfeifaaFit
import Derived.Test.YtjknmancnfeifaaPackL
set_option linter.unusedVariables false
set_option linter.unusedSimpArgs false
namespace Go.Proofs.Ytjknmancnfeifaa
open Go.ChangeShapes Go.WideShapes Go.ChangeAt Go.RowKit

/-- One list of q zeros: nil if there are none. -/
def ZRow (W : World) (lo q : Nat) (u : Value) : Prop := (q = 0 ∧ u = .slice none 0 0) ∨ (0 < q ∧ ∃ g, u = .slice (some ⟨g, 0, none⟩) q q ∧ lo ≤ g ∧ g < W.heap.size ∧ ∀ i, i < q → W.cell? ⟨g, i, none⟩ = some (.int .i32 0))
theorem ZRow.keep {W W' : World} {lo q : Nat} {u : Value} (h : ZRow W lo q u) (hs : W.heap.size ≤ W'.heap.size) (hk : ∀ b o, lo ≤ b → b < W.heap.size → W'.cell? ⟨b, o, none⟩ = W.cell? ⟨b, o, none⟩) : ZRow W' lo q u := by
  rcases h with h | ⟨h0, g, rfl, hl, hg, hc⟩
  · exact .inl h
  · exact .inr ⟨h0, g, rfl, hl, by omega, fun i hi => (hk g i hl hg).trans (hc i hi)⟩
theorem ZRow.less {W : World} {lo lo' q : Nat} {u : Value} (h : ZRow W lo q u) (hl : lo' ≤ lo) : ZRow W lo' q u := by
  rcases h with h | ⟨h0, g, rfl, hl', hg, hc⟩
  · exact .inl h
  · exact .inr ⟨h0, g, rfl, by omega, hg, hc⟩
/-- A memory of zeros. -/
def ZR (W : World) (A : Option Addr) (n : Nat) (zl : Nat → Nat) : Prop := 0 < n → ∃ b0, A = some ⟨b0, 0, none⟩ ∧ b0 < W.heap.size ∧ ∀ j, j < n → ∃ u, W.cell? ⟨b0, j, none⟩ = some u ∧ ZRow W 0 (zl j) u
theorem ZR.on {W W' : World} {A : Option Addr} {n : Nat} {zl : Nat → Nat} (h : ZR W A n zl) (hb : Below W.heap.size W W') : ZR W' A n zl := fun hn => by
  obtain ⟨b0, rfl, hb0, hc⟩ := h hn
  refine ⟨b0, rfl, by have := hb.size; omega, fun j hj => ?_⟩
  obtain ⟨u, h1, h2⟩ := hc j hj
  exact ⟨u, (hb.cell (p := ⟨b0, j, none⟩) hb0).trans h1, h2.keep hb.size fun b o _ hlt => hb.cell (p := ⟨b, o, none⟩) hlt⟩
theorem ZR.rw_ {W : World} {A : Option Addr} {n : Nat} {zl : Nat → Nat} (h : ZR W A n zl) : RW W W.heap.size .i32 A n zl (fun _ _ => 0) := fun hn => by
  obtain ⟨b0, rfl, hb0, hc⟩ := h hn
  refine ⟨b0, 0, rfl, hb0, fun j hj => ?_⟩
  obtain ⟨u, h1, h2⟩ := hc j hj
  rw [Nat.zero_add]
  rcases h2 with ⟨e0, rfl⟩ | ⟨h0, g, rfl, _, hg, hz⟩
  · exact ⟨none, 0, by rw [h1, e0], fun h => absurd h (by omega)⟩
  · exact ⟨_, _, h1, fun _ => ⟨g, 0, rfl, hg, fun i hi => by rw [Nat.zero_add]; exact hz i hi⟩⟩
/-- Behind k rounds. -/
def ZI (b0 n : Nat) (zl : Nat → Nat) (k : Nat) (W : World) : Prop :=
  ∃ cv : Nat → Value, W.rowIs b0 25 n cv ∧ (∀ j, j < k → ZRow W (b0 + 1) (zl j) (cv j)) ∧ ∀ j, k ≤ j → cv j = .slice none 0 0
section
variable {W W' : World} {b0 n k : Nat} {zl : Nat → Nat}
theorem ZI.on (h : ZI b0 n zl k W) (hb : Below W.heap.size W W') : ZI b0 n zl k W' := by
  obtain ⟨cv, h1, h2, h3⟩ := h
  exact ⟨cv, h1.of_block (hb.block _ h1.lt), fun j hj => (h2 j hj).keep hb.size fun b o _ hlt => hb.cell (p := ⟨b, o, none⟩) hlt, h3⟩
theorem ZI.skip (h : ZI b0 n zl k W) (h0 : zl k = 0) : ZI b0 n zl (k + 1) W := by
  obtain ⟨cv, h1, h2, h3⟩ := h
  refine ⟨cv, h1, fun j hj => ?_, fun j hj => h3 j (by omega)⟩
  by_cases e : j < k
  · exact h2 j e
  · obtain rfl : j = k := by omega
    exact .inl ⟨h0, h3 j (Nat.le_refl _)⟩
theorem ZI.put (h : ZI b0 n zl k W) (h0 : 0 < zl k) : ZI b0 n zl (k + 1) ((W.alloc (.cells (madeCells #[.int .i32 0] (zl k)) 21)).setCell ⟨b0, k, none⟩ (.slice (some ⟨W.heap.size, 0, none⟩) (zl k) (zl k))) := by
  obtain ⟨cv, h1, h2, h3⟩ := h
  have hlt := h1.lt
  have hr := World.rowIs_made W (.int .i32 0) (zl k) 21
  refine ⟨_, (h1.alloc _).set k _, fun j hj => ?_, fun j hj => ?_⟩
  · show ZRow _ _ _ (if j = k then _ else cv j)
    by_cases e : j = k
    · subst e
      rw [if_pos rfl]
      refine .inr ⟨h0, W.heap.size, rfl, by omega, by simp [World.setCell], fun i hi => ?_⟩
      have := (hr.setOther (a := ⟨b0, j, none⟩) (by show W.heap.size ≠ b0; omega) (.slice (some ⟨W.heap.size, 0, none⟩) (zl j) (zl j))).cell hi
      exact this
    · rw [if_neg e]
      refine (h2 j (by omega)).keep (by simp [World.setCell]) fun b o hb hbl => ?_
      rw [World.cell?_setCell_other _ _ _ _ (by intro e'; simp only [Addr.mk.injEq] at e'; omega)]
      exact World.cell?_alloc_lt _ _ _ (by exact hbl)
  · show (if j = k then _ else cv j) = _
    rw [if_neg (by omega)]
    exact h3 j (by omega)
theorem ZI.done (h : ZI b0 n zl n W) : ZR W (some ⟨b0, 0, none⟩) n zl := fun _ => by
  obtain ⟨cv, h1, h2, h3⟩ := h
  exact ⟨b0, rfl, h1.lt, fun j hj => ⟨cv j, h1.cell hj, (h2 j hj).less (Nat.zero_le _)⟩⟩
end
/-- The length of list j. -/
def zlen (sp ln : Nat → Int) (space : Int) (j : Nat) : Nat := (wV (sp j) (ln j) space).toNat
set_option maxRecDepth 100000 in
set_option maxHeartbeats 4000000 in
theorem Zero_any (n c : Nat) (space : Int) (A : Option Addr) (sp ln : Nat → Int) (w : World) (hn : n ≤ 8) (hl : ∀ j, 0 ≤ ln j ∧ ln j ≤ 15) (hr : RA w w.heap.size A n sp ln) :
    Calls Try.prog 24 #[.slice A n c, .int .i64 space] w fun e w' => ∃ b0, e = .returned (.slice (some ⟨b0, 0, none⟩) n n) ∧ ZR w' (some ⟨b0, 0, none⟩) n (zlen sp ln space) ∧ Below w.heap.size w w' := by
  have HR := Lib.hid hr
  have hmk := fun W => run_make_row' (P := Try.prog) 70 25 (.slice none 0 0) 24 Try.underlying70 info25 rfl .i64 .i64 n (by omega) (by omega) W
  have HQ := Lib.hid (fun (q : Nat) (hq : q ≤ 15) W => run_make_row' (P := Try.prog) 25 21 (.int .i32 0) 4 Try.underlying25 info21 rfl .i64 .i64 q (by omega) (by omega) W)
  have HLL := Lib.hid hl
  clear hr hl
  go_enter Try.func24, Try.ntmps24
  go_wp2
  go_loopw [14] (fun i wr => ∃ k : Nat, k ≤ n ∧ i = .int .i64 k ∧ ZI w.heap.size n (zlen sp ln space) k wr ∧ Below w.heap.size w wr) (fun i _ => n - (intOf i).toNat)
  case atStart => exact ⟨0, Nat.zero_le _, rfl, ⟨_, World.rowIs_made w _ n 25, fun j hj => absurd hj (by omega), fun _ _ => rfl⟩, (Below.refl _ _).alloc (Nat.le_refl _) _⟩
  case round =>
    obtain ⟨k, hk, rfl, hz, hbel⟩ := hrel
    by_cases hlt : k < n
    · obtain ⟨b, off, nm, ty, rfl, hb, k1, k2, k3, k4⟩ := (HR.out.below hbel).at_ hlt
      have hsz := hbel.size
      obtain ⟨l0, l1⟩ := HLL.out k
      have hwb : 0 ≤ wV (sp k) (ln k) space ∧ wV (sp k) (ln k) space ≤ 15 := by unfold wV; split <;> omega
      obtain ⟨q, hq⟩ : ∃ q : Nat, wV (sp k) (ln k) space = (q : Int) := ⟨(wV (sp k) (ln k) space).toNat, by omega⟩
      have hzl : zlen sp ln space k = q := by unfold zlen; rw [hq]; simp
      have HW := Lib.hid (fun W => words_any nm (sp k) ty (ln k) space W)
      rw [hq] at HW hwb
      have HZ := Lib.hid hz
      have HB := Lib.hid hbel
      have HL := Lib.hid hzl
      have hnw : ∀ o : Obj, Below wr.heap.size wr (wr.alloc o) := fun o => (Below.refl _ _).alloc (Nat.le_refl _) o
      have HNW := Lib.hid hnw
      clear hz hbel hzl hq l0 l1 hnw
      by_cases h0 : 0 < q
      · have hq4 : (q : Int) ≤ 4096 := by omega
        have hmq := HQ.out q (by omega)
        go_wp2_with (go_at_call 40; (with_reducible refine (HW.out _).mono ?_); rintro e w1 ⟨rfl, hb1⟩; have HB1 := Lib.hid ((HNW.out _).trans (hb1.mono (by simp))); have hz1 : wr.heap.size < w1.heap.size := (by have := hb1.size; simp at this; omega); clear hb1; have HZ1 := Lib.hid (HZ.out.on HB1.out); obtain ⟨cv, hcv, _, hcn⟩ := HZ1.out; have hcell := hcv.cell hlt; have hfro := hcv.frozen k; have hblt := hcv.lt; have hne := World.new_ne w1 ⟨w.heap.size, k, none⟩ hcell; clear hcv hcn)
        go_roundw
        case rel =>
          refine ⟨k + 1, by omega, by go_num, ?_, ?_⟩
          · have := HZ1.out.put (by rw [HL.out]; exact h0)
            rw [HL.out, World.setCell_alloc_past _ _ _ _ hblt] at this
            exact this
          · exact ((HB.out.trans (HB1.out.mono hsz)).setCell (by show w.heap.size ≤ w.heap.size; omega) _).alloc (by simp [World.setCell]; omega) _
        case measure => simp [intOf]; omega
      · obtain rfl : q = 0 := by omega
        go_wp2_with (go_at_call 40; (with_reducible refine (HW.out _).mono ?_); rintro e w1 ⟨rfl, hb1⟩; have HB1 := Lib.hid ((HNW.out _).trans (hb1.mono (by simp))); clear hb1)
        go_roundw
        case rel => exact ⟨k + 1, by omega, by go_num, (HZ.out.on HB1.out).skip HL.out, HB.out.trans (HB1.out.mono hsz)⟩
        case measure => simp [intOf]; omega
    · obtain rfl : k = n := by omega
      have HZ := Lib.hid hz.done
      have HB := Lib.hid hbel
      clear hz hbel
      go_wp2
      go_ret
      exact ⟨_, rfl, HZ.out, HB.out⟩
end Go.Proofs.Ytjknmancnfeifaa
