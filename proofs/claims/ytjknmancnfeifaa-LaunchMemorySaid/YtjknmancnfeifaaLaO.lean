/-
  Opening a launch and two numbers that came in by value.
-/
import Derived.Test.YtjknmancnfeifaaShp
set_option linter.unusedVariables false
set_option linter.unusedSimpArgs false
namespace Go.Proofs.Ytjknmancnfeifaa
open Go.Joins Go.ChangeShapes Go.WideShapes Go.ChangeAt Go.RowKit
section
variable {H : Type} {enc : TypeId × Value → H} {P : Program} {w : World} {base : Nat} {spare : Nat → Bool} {held : Bool}
theorem okWide_arr {r : Reach} {b0 : Nat} {t e : TypeId} {n : Nat} {v : Value} (ht : P.underlying t = some (.array n e)) (h : Value.okWide P w r b0 t v) : ∃ cs, v = .agg cs ∧ cs.size = P.cellsOf t := by
  unfold Value.okWide at h
  rw [ht] at h
  obtain ⟨cs, rfl, hs, _⟩ := h
  exact ⟨cs, rfl, hs⟩
theorem arr_two {α : Type} {cs : Array α} (h : cs.size = 2) : ∃ c0 c1, cs = #[c0, c1] := by
  obtain ⟨l⟩ := cs
  match l, h with
  | [c0, c1], _ => exact ⟨c0, c1, rfl⟩
/-- An array of two integers, by value, opened. -/
theorem open_arr2 {r : Reach} {b0 : Nat} {t e : TypeId} {k : IntKind} {v : Value} {d : DataW H} {p : List MemPlace} (ht : P.underlying t = some (.array 2 e)) (he : P.underlying e = some (.int k)) (hce : P.cellsOf e = 1) (hC : P.cellsOf t = 2)
    (hv : Value.okWide P w r b0 t v) (h : DataW.Trod enc P w base spare held t v d p) :
    ∃ a b : Int, v = .agg #[.int k a, .int k b] ∧ d = .agg [.lit (.int k a), .lit (.int k b)] ∧ p = [] ∧ (Lit.int k a).wf = true ∧ (Lit.int k b).wf = true := by
  obtain ⟨cs, rfl, hsz⟩ := okWide_arr ht hv
  obtain ⟨c0, c1, rfl⟩ := arr_two (hsz.trans hC)
  obtain ⟨fuel, hf⟩ := h
  obtain ⟨xs, m, _, hx, _, hl, hel⟩ := DataW.trod_array ht hf
  match xs, hl with
  | [y0, y1], _ =>
    have h0 := hel 0 (by omega)
    have h1 := hel 1 (by omega)
    simp [Value.cells, hce] at h0 h1
    obtain ⟨a, ha, hxa, wa⟩ := DataW.trod_int he h0
    obtain ⟨b, hb, hxb, wb⟩ := DataW.trod_int he h1
    simp at ha hb
    subst ha hb hxa hxb
    simp at hx
    exact ⟨a, b, rfl, hx.1, hx.2, wa, wb⟩
end

set_option maxRecDepth 100000 in
theorem open_launch {H : Type} {enc : TypeId × Value → H} {W : World} {b0 : Nat} {v : Value} {d : DataW H} {p : List MemPlace} (hv : Value.okWide Try.prog W .any b0 27 v) (h : DataW.Trod enc Try.prog W 0 (fun _ => true) true 27 v d p) (hlt : ∀ x ∈ p, x.block < W.heap.size) :
    ∃ (a : Int) (A : Option Addr) (n c : Nat) (f : Nat → Int), v = .agg #[.int .i64 a, .slice A n c] ∧ (Lit.int .i64 a).wf = true ∧ n ≤ c ∧ c ≤ maxLen ∧ RF W W.heap.size .i32 A n f ∧ ∀ j, (Lit.int .i32 (f j)).wf = true := by
  obtain ⟨v0, v1, y0, y1, n, rfl, rfl, rfl, h0, h1⟩ := open_agg2 Try.underlying27 (by kernel_rfl) (by kernel_rfl) hv h
  obtain ⟨a, rfl, wa, _⟩ := int_field Try.underlying3 h0
  obtain ⟨A, m, cc, f, rfl, hl, hm, hr, hw⟩ := open_RFf Try.underlying25 Try.underlying21 (by kernel_rfl) (by decide) h1 (fun x hx => hlt x (by simp [hx]))
  exact ⟨a, A, m, cc, f, rfl, wa, hl, hm, hr, hw⟩
set_option maxRecDepth 100000 in
theorem open_at {H : Type} {enc : TypeId × Value → H} {W : World} {b0 : Nat} {v : Value} {d : DataW H} {p : List MemPlace} (hv : Value.okWide Try.prog W .any b0 28 v) (h : DataW.Trod enc Try.prog W 0 (fun _ => true) true 28 v d p) (hlt : ∀ x ∈ p, x.block < W.heap.size) :
    ∃ a b : Int, v = .agg #[.int .i64 a, .int .i64 b] ∧ (Lit.int .i64 a).wf = true ∧ (Lit.int .i64 b).wf = true := by
  obtain ⟨a, b, rfl, _, _, wa, wb⟩ := open_arr2 Try.underlying28 Try.underlying3 (by kernel_rfl) (by kernel_rfl) hv h
  exact ⟨a, b, rfl, wa, wb⟩
set_option maxRecDepth 100000 in
theorem open_two8 {H : Type} {enc : TypeId × Value → H} {W : World} {b0 : Nat} {v : Value} {d : DataW H} {p : List MemPlace} (hv : Value.okWide Try.prog W .any b0 71 v) (h : DataW.Trod enc Try.prog W 0 (fun _ => true) true 71 v d p) (hlt : ∀ x ∈ p, x.block < W.heap.size) :
    ∃ a b : Int, v = .agg #[.int .u8 a, .int .u8 b] ∧ (Lit.int .u8 a).wf = true ∧ (Lit.int .u8 b).wf = true := by
  obtain ⟨a, b, rfl, _, _, wa, wb⟩ := open_arr2 Try.underlying71 Try.underlying5 (by kernel_rfl) (by kernel_rfl) hv h
  exact ⟨a, b, rfl, wa, wb⟩
end Go.Proofs.Ytjknmancnfeifaa
