/-
  Opening a shape that came in by value: three bytes and a slice of bytes.
-/
import Derived.Test.YtjknmancnfeifaaDoor
import Derived.Lib.SmallJoins
set_option linter.unusedVariables false
set_option linter.unusedSimpArgs false
namespace Go.Proofs.Ytjknmancnfeifaa
open Go.Joins Go.ChangeShapes Go.WideShapes Go.ChangeAt Go.RowKit

theorem U8.of_wf {a : Int} (h : (Lit.int .u8 a).wf = true) : 0 ≤ a ∧ a ≤ 255 := by
  simp only [Lit.wf, IntKind.min, IntKind.max, IntKind.signed, IntKind.bits, Bool.and_eq_true, decide_eq_true_eq] at h; simp at h; omega
theorem open_RFf {H : Type} {enc : TypeId × Value → H} {P : Program} {W : World} {t e : TypeId} {k : IntKind} {v : Value} {y : DataW H × List MemPlace} {fuel : Nat} (ht : P.underlying t = some (.slice e)) (he : P.underlying e = some (.int k)) (hc : P.cellsOf e = 1)
    (h00 : (Lit.int k 0).wf = true) (hf : DataW.trod enc P W 0 (fun _ => true) true fuel t [v] = some y) (hlt : ∀ x ∈ y.2, x.block < W.heap.size) :
    ∃ (A : Option Addr) (n c : Nat) (f : Nat → Int), v = .slice A n c ∧ n ≤ c ∧ c ≤ maxLen ∧ RF W W.heap.size k A n f ∧ ∀ j, (Lit.int k (f j)).wf = true := by
  rcases open_ints ht he hc hf with ⟨hcs, hx⟩ | ⟨a, len', cap', zs, hcs, _, hl, hm, hz, hx, hcell, hwz⟩
  · simp at hcs
    subst hcs
    exact ⟨_, _, _, fun _ => 0, rfl, Nat.le_refl _, Nat.zero_le _, RF.zero _ _ _ _ _, fun _ => h00⟩
  · simp at hcs
    subst hcs
    simp only [if_true] at hz
    subst hx
    refine ⟨_, _, _, fun j => zs.getD j 0, rfl, hl, hm, fun hn => ?_, fun j => ?_⟩
    · obtain ⟨b, off, spot⟩ := a
      have hspot : spot = none := by simpa [Addr.add] using World.cell?_spot (hcell 0 (by omega))
      subst hspot
      have hbW : b < W.heap.size := hlt (.cell b off) (MemPlace.mem_row.2 ⟨0, by omega, by simp⟩)
      exact ⟨b, off, rfl, hbW, fun j hj => by rw [← add_plain]; exact hcell j (by omega)⟩
    · show (Lit.int k (zs.getD j 0)).wf = true
      by_cases hj : j < zs.length
      · have : zs.getD j 0 = zs[j] := by simp [List.getD, hj]
        rw [this]; exact hwz _ (List.getElem_mem hj)
      · have : zs.getD j 0 = 0 := by rw [List.getD_eq_getElem?_getD, List.getElem?_eq_none (by omega)]; rfl
        rw [this]; exact h00
theorem int_field {H : Type} {enc : TypeId × Value → H} {P : Program} {W : World} {e : TypeId} {k : IntKind} {v : Value} {y : DataW H × List MemPlace} {fuel : Nat} {base : Nat} {spare : Nat → Bool} {held : Bool} (he : P.underlying e = some (.int k)) (hf : DataW.trod enc P W base spare held fuel e [v] = some y) :
    ∃ a : Int, v = .int k a ∧ (Lit.int k a).wf = true ∧ y.2 = [] := by
  obtain ⟨a, ha, hx, wa⟩ := DataW.trod_int he hf
  simp at ha
  exact ⟨a, ha, wa, by rw [hx]⟩
set_option maxRecDepth 100000 in
theorem open_shape {H : Type} {enc : TypeId × Value → H} {W : World} {b0 : Nat} {v : Value} {d : DataW H} {p : List MemPlace} (hv : Value.okWide Try.prog W .any b0 24 v) (h : DataW.Trod enc Try.prog W 0 (fun _ => true) true 24 v d p) (hlt : ∀ x ∈ p, x.block < W.heap.size) :
    ∃ (a c e : Int) (A : Option Addr) (n cc : Nat) (f : Nat → Int), v = .agg #[.int .u8 a, .int .u8 c, .int .u8 e, .slice A n cc] ∧ (0 ≤ a ∧ a ≤ 255) ∧ (0 ≤ c ∧ c ≤ 255) ∧ (0 ≤ e ∧ e ≤ 255) ∧ RF W W.heap.size .u8 A n f ∧ ∀ j, 0 ≤ f j ∧ f j ≤ 255 := by
  obtain ⟨v0, v1, v2, v3, y0, y1, y2, y3, n, rfl, rfl, rfl, h0, h1, h2, h3⟩ := open_agg4 Try.underlying24 (by kernel_rfl) (by kernel_rfl) hv h
  obtain ⟨a, rfl, wa, _⟩ := int_field Try.underlying5 h0
  obtain ⟨c, rfl, wc, _⟩ := int_field Try.underlying5 h1
  obtain ⟨e, rfl, we, _⟩ := int_field Try.underlying5 h2
  obtain ⟨A, m, cc, f, rfl, _, _, hr, hw⟩ := open_RFf Try.underlying22 Try.underlying5 (by kernel_rfl) (by decide) h3 (fun x hx => hlt x (by simp [hx]))
  exact ⟨a, c, e, A, m, cc, f, rfl, U8.of_wf wa, U8.of_wf wc, U8.of_wf we, hr, fun j => U8.of_wf (hw j)⟩
end Go.Proofs.Ytjknmancnfeifaa
