/-
  The reference's Code: words for its boxes and its arrays.
-/
import Derived.Test.YtjknmancnfeifaaFit
import Derived.Deep.RegionLaw
import Derived.Deep.DeepCutAuto
set_option linter.unusedVariables false
set_option linter.unusedSimpArgs false
namespace Go.Proofs.Ytjknmancnfeifaa
open Go.ChangeShapes Go.WideShapes Go.ChangeAt Go.RowKit

/-- Block b is a code: group, sub, params, arrays. -/
def Cd (w : World) (b : Nat) (g s p : Int) (v : Value) : Prop := w.heap[b]? = some (.cells #[.int .i64 g, .int .i64 s, .int .i64 0, .int .i64 0, .int .i64 p, v, .slice none 0 0, .slice none 0 0] 34 (0, 0))
/-- Block b is a shape. -/
def Shp (w : World) (b : Nat) (a c d : Int) (v : Value) : Prop := w.heap[b]? = some (.cells #[.int .u8 a, .int .u8 c, .int .u8 d, v] 24 (0, 0))
section
variable {w w' : World} {b : Nat} {g s p a c d : Int} {v : Value}
theorem Cd.c0 (h : Cd w b g s p v) : w.cell? ⟨b, 0, none⟩ = some (.int .i64 g) := by unfold Cd at h; simp [World.cell?, h]
theorem Cd.c1 (h : Cd w b g s p v) : w.cell? ⟨b, 1, none⟩ = some (.int .i64 s) := by unfold Cd at h; simp [World.cell?, h]
theorem Cd.c2 (h : Cd w b g s p v) : w.cell? ⟨b, 2, none⟩ = some (.int .i64 0) := by unfold Cd at h; simp [World.cell?, h]
theorem Cd.c3 (h : Cd w b g s p v) : w.cell? ⟨b, 3, none⟩ = some (.int .i64 0) := by unfold Cd at h; simp [World.cell?, h]
theorem Cd.c4 (h : Cd w b g s p v) : w.cell? ⟨b, 4, none⟩ = some (.int .i64 p) := by unfold Cd at h; simp [World.cell?, h]
theorem Cd.c5 (h : Cd w b g s p v) : w.cell? ⟨b, 5, none⟩ = some v := by unfold Cd at h; simp [World.cell?, h]
theorem Cd.c6 (h : Cd w b g s p v) : w.cell? ⟨b, 6, none⟩ = some (.slice none 0 0) := by unfold Cd at h; simp [World.cell?, h]
theorem Cd.c7 (h : Cd w b g s p v) : w.cell? ⟨b, 7, none⟩ = some (.slice none 0 0) := by unfold Cd at h; simp [World.cell?, h]
theorem Cd.free {i : Nat} (h : Cd w b g s p v) : w.frozen? ⟨b, i, none⟩ = false := by unfold Cd at h; simp [World.frozen?, h]
theorem Cd.lt (h : Cd w b g s p v) : b < w.heap.size := lt_of_block h
theorem Cd.of_block (h : Cd w b g s p v) (e : w'.heap[b]? = w.heap[b]?) : Cd w' b g s p v := e.trans h
theorem Cd.set5 (h : Cd w b g s p v) (u : Value) : Cd (w.setCell ⟨b, 5, none⟩ u) b g s p u := by
  unfold Cd at h ⊢
  simp [World.setCell, Array.getElem?_modify, h]
theorem Cd.set0 (h : Cd w b g s p v) (u : Int) : Cd (w.setCell ⟨b, 0, none⟩ (.int .i64 u)) b u s p v := by
  unfold Cd at h ⊢
  simp [World.setCell, Array.getElem?_modify, h]
theorem Cd.far (h : Cd w b g s p v) {q : Addr} (hq : b ≠ q.block) (u : Value) : Cd (w.setCell q u) b g s p v := (Below.heap_setCell w q u b hq).trans h
theorem Cd.kept {row : Option Nat} (h : Cd w b g s p v) (hg : w.grownBy w' row) (hr : some b ≠ row) : Cd w' b g s p v := (hg.block b h.lt hr).trans h
theorem Cd.on (h : Cd w b g s p v) (hb : Below w.heap.size w w') : Cd w' b g s p v := (hb.block b h.lt).trans h
theorem Cd.not_row {base k : Nat} {u : Value} {xs : List Value} (h : Cd w b g s p v) (hr : w.ownsRow base 79 4 u k xs) : some b ≠ u.ownBlock := by
  rcases hr.2 with ⟨rfl, _⟩ | ⟨g', cap, cur, rfl, _, hgb, _⟩
  · simp [Value.ownBlock]
  · intro e'
    obtain rfl : b = g' := by simpa [Value.ownBlock] using e'
    unfold Cd at h
    rw [h] at hgb
    simp at hgb
theorem Shp.c0 (h : Shp w b a c d v) : w.cell? ⟨b, 0, none⟩ = some (.int .u8 a) := by unfold Shp at h; simp [World.cell?, h]
theorem Shp.c1 (h : Shp w b a c d v) : w.cell? ⟨b, 1, none⟩ = some (.int .u8 c) := by unfold Shp at h; simp [World.cell?, h]
theorem Shp.c2 (h : Shp w b a c d v) : w.cell? ⟨b, 2, none⟩ = some (.int .u8 d) := by unfold Shp at h; simp [World.cell?, h]
theorem Shp.c3 (h : Shp w b a c d v) : w.cell? ⟨b, 3, none⟩ = some v := by unfold Shp at h; simp [World.cell?, h]
theorem Shp.lt (h : Shp w b a c d v) : b < w.heap.size := lt_of_block h
theorem Shp.of_block (h : Shp w b a c d v) (e : w'.heap[b]? = w.heap[b]?) : Shp w' b a c d v := e.trans h
theorem Shp.new (w : World) (a c d : Int) (v : Value) : Shp (w.alloc (.cells #[.int .u8 a, .int .u8 c, .int .u8 d, v] 24)) w.heap.size a c d v := heap_alloc_new _ _
end
/-- The cells of k arrays. -/
def CA (sp ln : Nat → Int) (k : Nat) (cells : List Value) : Prop :=
  cells.length = k * 4 ∧ ∀ j, j < k → ∃ nm ty, cells[j * 4]? = some (.string nm) ∧ cells[j * 4 + 1]? = some (.int .i64 (sp j)) ∧ cells[j * 4 + 2]? = some (.int .i64 ty) ∧ cells[j * 4 + 3]? = some (.int .i64 (ln j))
section
variable {sp ln : Nat → Int} {k : Nat} {cells : List Value}
theorem CA.nil : CA sp ln 0 [] := ⟨rfl, fun j hj => absurd hj (by omega)⟩
theorem CA.snoc (h : CA sp ln k cells) (nm : ByteArray) (ty : Int) : CA sp ln (k + 1) (cells ++ [.string nm, .int .i64 (sp k), .int .i64 ty, .int .i64 (ln k)]) := by
  obtain ⟨hl, hc⟩ := h
  refine ⟨by simp [hl]; omega, fun j hj => ?_⟩
  by_cases hjk : j < k
  · obtain ⟨nm', ty', h0, h1, h2, h3⟩ := hc j hjk
    exact ⟨nm', ty', by rw [List.getElem?_append_left (by omega)]; exact h0, by rw [List.getElem?_append_left (by omega)]; exact h1, by rw [List.getElem?_append_left (by omega)]; exact h2, by rw [List.getElem?_append_left (by omega)]; exact h3⟩
  · obtain rfl : j = k := by omega
    refine ⟨nm, ty, ?_, ?_, ?_, ?_⟩ <;> rw [List.getElem?_append_right (by omega), hl]
    · rw [Nat.sub_self]; rfl
    · rw [show j * 4 + 1 - j * 4 = 1 by omega]; rfl
    · rw [show j * 4 + 2 - j * 4 = 2 by omega]; rfl
    · rw [show j * 4 + 3 - j * 4 = 3 by omega]; rfl
theorem CA.reads {w : World} {base : Nat} {v : Value} (h : CA sp ln k cells) (hr : w.ownsRow base 79 4 v k cells) : ∃ A c, v = .slice A k c ∧ RA w w.heap.size A k sp ln ∧ (A = none ∨ ∃ g, A = some ⟨g, 0, none⟩ ∧ base ≤ g) := by
  rcases hr.2 with ⟨rfl, h0⟩ | ⟨g, cap, cur, rfl, hg, hgb, _⟩
  · subst h0
    exact ⟨none, 0, rfl, fun h => absurd h (by omega), .inl rfl⟩
  · refine ⟨_, _, rfl, fun hk => ⟨g, 0, rfl, lt_of_block hgb, fun j hj => ?_⟩, .inr ⟨g, rfl, hg⟩⟩
    obtain ⟨nm, ty, h0, h1, h2, h3⟩ := h.2 j hj
    refine ⟨nm, ty, ?_, ?_, ?_, ?_⟩ <;> rw [Nat.zero_add, hr.cellAt _ (by omega)]
    · exact h0
    · exact h1
    · exact h2
    · exact h3
end
/-- Subgroups of the shape. -/
def subV (a : Int) : Int := 2 ^ (a % 6).toNat
def grpV (a c : Int) : Int := subV a * (1 + c % max 1 (64 / subV a))
theorem subV_cases (a : Int) (h : 0 ≤ a) : (a % 6 = 0 ∧ subV a = 1) ∨ (a % 6 = 1 ∧ subV a = 2) ∨ (a % 6 = 2 ∧ subV a = 4) ∨ (a % 6 = 3 ∧ subV a = 8) ∨ (a % 6 = 4 ∧ subV a = 16) ∨ (a % 6 = 5 ∧ subV a = 32) := by
  have : a % 6 = 0 ∨ a % 6 = 1 ∨ a % 6 = 2 ∨ a % 6 = 3 ∨ a % 6 = 4 ∨ a % 6 = 5 := by omega
  unfold subV
  rcases this with h | h | h | h | h | h <;> simp [h]
theorem info79 : (Try.prog.info? 79).map (fun i => (i.zero, i.size, i.bytes)) = some (some (.agg #[.string ⟨#[]⟩, .int .i64 0, .int .i64 0, .int .i64 0]), 4, 40) := by kernel_rfl
end Go.Proofs.Ytjknmancnfeifaa
