/-
  Packing by the reference: the box of the result, the warps in blocks of the call's own.
-/
import Derived.Test.YtjknmancnfeifaaPack
import Derived.Deep.RegionLaw
set_option linter.unusedVariables false
set_option linter.unusedSimpArgs false
namespace Go.Proofs.Ytjknmancnfeifaa
open Go.ChangeShapes Go.WideShapes Go.ChangeAt Go.RowKit

/-- The box of packed warps, without an error. -/
def Pkd (w : World) (b : Nat) (v : Value) : Prop := w.heap[b]? = some (.cells #[v, .int .i64 0] 66 (0, 0))
section
variable {w w' : World} {b : Nat} {v : Value}
theorem Pkd.c0 (h : Pkd w b v) : w.cell? ⟨b, 0, none⟩ = some v := by unfold Pkd at h; simp [World.cell?, h]
theorem Pkd.c1 (h : Pkd w b v) : w.cell? ⟨b, 1, none⟩ = some (.int .i64 0) := by unfold Pkd at h; simp [World.cell?, h]
theorem Pkd.free {i : Nat} (h : Pkd w b v) : w.frozen? ⟨b, i, none⟩ = false := by unfold Pkd at h; simp [World.frozen?, h]
theorem Pkd.lt (h : Pkd w b v) : b < w.heap.size := lt_of_block h
theorem Pkd.set (h : Pkd w b v) (u : Value) : Pkd (w.setCell ⟨b, 0, none⟩ u) b u := by
  unfold Pkd at h ⊢
  simp [World.setCell, Array.getElem?_modify, h]
theorem Pkd.kept {row : Option Nat} (h : Pkd w b v) (hg : w.grownBy w' row) (hr : some b ≠ row) : Pkd w' b v := (hg.block b h.lt hr).trans h
theorem Pkd.new (w : World) (v : Value) : Pkd (w.alloc (.cells #[v, .int .i64 0] 66)) w.heap.size v := heap_alloc_new _ _
theorem Pkd.far (h : Pkd w b v) {p : Addr} (hp : b ≠ p.block) (u : Value) : Pkd (w.setCell p u) b v := (Below.heap_setCell w p u b hp).trans h
theorem Pkd.on (h : Pkd w b v) (hb : Below w.heap.size w w') : Pkd w' b v := (hb.block b h.lt).trans h
theorem Pkd.not_row {base k : Nat} {u : Value} {xs : List Value} (h : Pkd w b u) (hr : w.ownsRow base 49 1 v k xs) : some b ≠ v.ownBlock := by
  rcases hr.2 with ⟨rfl, _⟩ | ⟨g', cap, cur, rfl, _, hgb, _⟩
  · simp [Value.ownBlock]
  · intro e'
    obtain rfl : b = g' := by simpa [Value.ownBlock] using e'
    unfold Pkd at h
    rw [h] at hgb
    simp at hgb
end

/-- Block g holds m numbers ahead. -/
def WA (w : World) (g m : Nat) (F : Nat → Int) : Prop := ∃ cur, w.heap[g]? = some (.cells cur 3 (0, 0)) ∧ ∀ j, j < m → cur[j]? = some (.int .i64 (F j))
section
variable {w w' : World} {g m : Nat} {F F' : Nat → Int}
theorem WA.cell {j : Nat} (h : WA w g m F) (hj : j < m) : w.cell? ⟨g, j, none⟩ = some (.int .i64 (F j)) := by
  obtain ⟨cur, hb, hc⟩ := h
  simp [World.cell?, hb, hc j hj]
theorem WA.frozen (h : WA w g m F) (i : Nat) : w.frozen? ⟨g, i, none⟩ = false := by
  obtain ⟨cur, hb, hc⟩ := h
  simp [World.frozen?, hb]
theorem WA.lt (h : WA w g m F) : g < w.heap.size := by
  obtain ⟨cur, hb, hc⟩ := h
  exact lt_of_block hb
theorem WA.of_block (h : WA w g m F) (e : w'.heap[g]? = w.heap[g]?) : WA w' g m F := by
  obtain ⟨cur, hb, hc⟩ := h
  exact ⟨cur, e.trans hb, hc⟩
theorem WA.congr (h : WA w g m F) (e : ∀ j, j < m → F j = F' j) : WA w g m F' := by
  obtain ⟨cur, hb, hc⟩ := h
  exact ⟨cur, hb, fun j hj => by rw [hc j hj, e j hj]⟩
theorem WA.set (h : WA w g m F) (i : Nat) (x : Int) : WA (w.setCell ⟨g, i, none⟩ (.int .i64 x)) g m (fun j => if j = i then x else F j) := by
  obtain ⟨cur, hb, hc⟩ := h
  refine ⟨cur.setIfInBounds i (.int .i64 x), ?_, fun j hj => ?_⟩
  · simp [World.setCell, Array.getElem?_modify, hb]
  · rw [Array.getElem?_setIfInBounds]
    by_cases e : j = i
    · subst e
      have hlt : j < cur.size := (Array.getElem?_eq_some_iff.1 (hc j hj)).1
      simp [hlt]
    · rw [if_neg (fun h => e h.symm)]
      show cur[j]? = some (.int .i64 (if j = i then x else F j))
      rw [if_neg e]
      exact hc j hj
theorem WA.of_own {base n c : Nat} {xs : List Value} (h : w.ownsRow base 3 1 (.slice (some ⟨g, 0, none⟩) n c) n xs) (hx : ∀ j, j < n → xs[j]? = some (.int .i64 (F j))) : WA w g n F := by
  rcases h.2 with ⟨h', _⟩ | ⟨g', cap', cur, h', _, hg, _, _, _, htake⟩
  · simp at h'
  · simp only [Value.slice.injEq, Option.some.injEq, Addr.mk.injEq, and_true, true_and] at h'
    obtain ⟨rfl, rfl⟩ := h'
    refine ⟨cur, hg, fun j hj => ?_⟩
    have := hx j hj
    rw [← htake, List.getElem?_take, if_pos (by omega)] at this
    simpa using this
theorem WA.fill_set {lv : List Nat} {it : Nat → Int} {p : Nat} (h : WA w g m (fill lv it p)) : WA (w.setCell ⟨g, lv.getD p 0, none⟩ (.int .i64 (it p))) g m (fill lv it (p + 1)) :=
  h.set _ _
theorem WA.ne_own {base size k : Nat} {v : Value} {xs : List Value} (h : WA w g m F) (hr : w.ownsRow base 49 size v k xs) : some g ≠ v.ownBlock := by
  obtain ⟨c, hb, _⟩ := h
  rcases hr.2 with ⟨rfl, _⟩ | ⟨g', cap, cur, rfl, _, hgb, _⟩
  · simp [Value.ownBlock]
  · intro e'
    obtain rfl : g = g' := by simpa [Value.ownBlock] using e'
    rw [hb] at hgb
    simp at hgb
end

/-- Between two rounds: the box B9 holds a slice of k warps of m lanes; warp j reads (wf j). -/
def PJ (nb B9 m : Nat) (wf : Nat → Nat → Int) (k : Nat) (W : World) : Prop :=
  ∃ v cells, Pkd W B9 v ∧ W.ownsRow nb 49 1 v k cells ∧ ∀ j, j < k → ∃ g c, cells[j]? = some (.slice (some ⟨g, 0, none⟩) m c) ∧ nb ≤ g ∧ WA W g m (wf j)
section
variable {nb B9 m k : Nat} {wf : Nat → Nat → Int}
theorem PJ.start {W : World} (h : Pkd W B9 (.slice none 0 0)) : PJ nb B9 m wf 0 W := ⟨_, [], h, World.ownsRow_nil _ _ _ _, fun j hj => absurd hj (by omega)⟩
theorem PJ.on {W W2 : World} (h : PJ nb B9 m wf k W) (hb : Below W.heap.size W W2) : PJ nb B9 m wf k W2 := by
  obtain ⟨v, cells, hv, hr, hc⟩ := h
  have hg : W.grownBy W2 none := ⟨hb.os, hb.tape, hb.output, hb.size, fun i hi _ => hb.block i hi⟩
  refine ⟨v, cells, hv.on hb, hr.kept hg ?_, fun j hj => ?_⟩
  · rcases hr.2 with ⟨rfl, _⟩ | ⟨g, cap, cur, rfl, _, hgb, _⟩
    · exact .inl rfl
    · exact .inr (by simp [Value.ownBlock])
  · obtain ⟨g, c, h1, h2, h3⟩ := hc j hj
    exact ⟨g, c, h1, h2, h3.of_block (hb.block g h3.lt)⟩
/-- Behind the append of a finished warp. -/
theorem PJ.appended {W W2 W3 w1 : World} {G c : Nat} {v v' : Value} {cells : List Value} (hb2 : Below W.heap.size W W2) (hW : nb ≤ W.heap.size)
    (hv : Pkd W2 B9 v) (hr : W2.ownsRow nb 49 1 v k cells) (hc : ∀ j, j < k → ∃ g c, cells[j]? = some (.slice (some ⟨g, 0, none⟩) m c) ∧ nb ≤ g ∧ WA W2 g m (wf j))
    (hG : nb ≤ G) (hrow : WA W2 G m (wf k)) (hlen : cells.length = k) (h3 : Below W2.heap.size W2 W3)
    (hown' : w1.ownsRow nb 49 1 v' (k + 1) (cells ++ [.slice (some ⟨G, 0, none⟩) m c])) (hgrow : W3.grownBy w1 v.ownBlock) :
    Pkd w1 B9 v ∧ (Keep9 nb B9 W (w1.setCell ⟨B9, 0, none⟩ v') ∧ PJ nb B9 m wf (k + 1) (w1.setCell ⟨B9, 0, none⟩ v')) := by
  have hsz := hb2.size
  have hne := hv.not_row hr
  have h1 : Pkd w1 B9 v := (hv.on h3).kept hgrow hne
  refine ⟨h1, ?_, v', _, h1.set v', hown'.kept (grownBy_setCell' w1 B9 v') (.inr (h1.not_row hown').symm), fun j hj => ?_⟩
  · refine (Keep9.of_below hb2 hW).trans ((Keep9.of_below h3 (by omega)).trans ((Keep9.grown hgrow (by have := h3.size; omega) (fun i e => .inl (hr.lt i e).1)).trans (Keep9.grown (grownBy_setCell' w1 B9 v') ?_ (fun i e => .inr (by cases e; rfl)))))
    have := hgrow.size
    have := h3.size
    omega
  · have hkeep : ∀ {g : Nat} {F : Nat → Int}, WA W2 g m F → WA (w1.setCell ⟨B9, 0, none⟩ v') g m F := fun {g F} hrg => by
      have a1 : WA W3 g m F := hrg.of_block (h3.block g hrg.lt)
      have a2 : WA w1 g m F := a1.of_block (hgrow.block g a1.lt (hrg.ne_own hr))
      refine a2.of_block (Below.heap_setCell w1 _ v' g ?_)
      rintro rfl
      obtain ⟨c, hb, _⟩ := hrg
      have := (show W2.heap[_]? = _ from hv).symm.trans hb
      simp at this
    by_cases hjk : j < k
    · obtain ⟨g, c, e1, e2, e3⟩ := hc j hjk
      exact ⟨g, c, by rw [List.getElem?_append_left (by omega)]; exact e1, e2, hkeep e3⟩
    · obtain rfl : j = k := by omega
      exact ⟨G, c, by rw [List.getElem?_append_right (by omega), hlen]; simp, hG, hkeep hrow⟩
/-- At the end: what the box holds reads as the warps. -/
theorem PJ.reads {W : World} (h : PJ nb B9 m wf k W) : ∃ A c, Pkd W B9 (.slice A k c) ∧ RWo W nb W.heap.size .i64 A k (fun _ => m) wf := by
  obtain ⟨v, cells, hv, hr, hc⟩ := h
  rcases hr.2 with ⟨rfl, h0⟩ | ⟨g, cap, cur, rfl, hg, hgb, _⟩
  · subst h0
    exact ⟨none, 0, hv, fun h => absurd h (by omega)⟩
  · refine ⟨_, _, hv, fun hk => ⟨g, 0, rfl, hg, lt_of_block hgb, fun j hj => ?_⟩⟩
    obtain ⟨g', c', e1, e2, e3⟩ := hc j hj
    refine ⟨some ⟨g', 0, none⟩, c', ?_, fun hm => ⟨g', 0, rfl, e2, e3.lt, fun i hi => by rw [Nat.zero_add]; exact e3.cell hi⟩⟩
    rw [Nat.zero_add, hr.cellAt j (by omega)]; exact e1
end
end Go.Proofs.Ytjknmancnfeifaa
