/-
  Packing: what the body of the loop keeps; a slice of slices in blocks of the call's own.
-/
import Derived.Test.YtjknmancnfeifaaLiv
import Derived.RangeFuncNested
import Derived.RangeFuncBox
set_option linter.unusedVariables false
set_option linter.unusedSimpArgs false
namespace Go.Proofs.Ytjknmancnfeifaa
open Go.ChangeShapes Go.WideShapes Go.ChangeAt Go.RowKit

/-- The lane j of a warp into whose living lanes (lv) p items have been put. -/
def fill (lv : List Nat) (it : Nat → Int) : Nat → Nat → Int
  | 0 => fun _ => -1
  | p + 1 => fun j => if j = lv.getD p 0 then it p else fill lv it p j
theorem fill_set {w : World} {g m : Nat} {lv : List Nat} {it : Nat → Int} {p : Nat} (h : w.rowIs g 3 m (fun j => .int .i64 (fill lv it p j))) :
    (w.setCell ⟨g, lv.getD p 0, none⟩ (.int .i64 (it p))).rowIs g 3 m (fun j => .int .i64 (fill lv it (p + 1) j)) :=
  (h.set (lv.getD p 0) (.int .i64 (it p))).congr fun j _ => by
    show (if j = lv.getD p 0 then _ else _) = Value.int .i64 (if j = lv.getD p 0 then _ else _)
    split <;> rfl

/-- A slice in blocks from lo on. -/
def RFo (w : World) (lo B : Nat) (k : IntKind) (A : Option Addr) (n : Nat) (f : Nat → Int) : Prop :=
  0 < n → ∃ b off, A = some ⟨b, off, none⟩ ∧ lo ≤ b ∧ b < B ∧ ∀ j, j < n → w.cell? ⟨b, off + j, none⟩ = some (.int k (f j))
def RWo (w : World) (lo B : Nat) (k : IntKind) (A : Option Addr) (n : Nat) (L : Nat → Nat) (F : Nat → Nat → Int) : Prop :=
  0 < n → ∃ b off, A = some ⟨b, off, none⟩ ∧ lo ≤ b ∧ b < B ∧ ∀ j, j < n → ∃ A' c', w.cell? ⟨b, off + j, none⟩ = some (.slice A' (L j) c') ∧ RFo w lo B k A' (L j) (F j)
section
variable {w w' : World} {lo B B' n : Nat} {k : IntKind} {A : Option Addr} {f : Nat → Int} {L : Nat → Nat} {F : Nat → Nat → Int}
theorem RFo.rf (h : RFo w lo B k A n f) : RF w B k A n f := fun hn => by
  obtain ⟨b, off, e, _, hb, hc⟩ := h hn
  exact ⟨b, off, e, hb, hc⟩
theorem RWo.rw_ (h : RWo w lo B k A n L F) : RW w B k A n L F := fun hn => by
  obtain ⟨b, off, e, _, hb, hc⟩ := h hn
  refine ⟨b, off, e, hb, fun j hj => ?_⟩
  obtain ⟨A', c', h1, h2⟩ := hc j hj
  exact ⟨A', c', h1, h2.rf⟩
theorem RFo.keep (h : RFo w lo B k A n f) (hB : B ≤ B') (hk : ∀ b o, lo ≤ b → b < B → w'.cell? ⟨b, o, none⟩ = w.cell? ⟨b, o, none⟩) : RFo w' lo B' k A n f := fun hn => by
  obtain ⟨b, off, e, hl, hb, hc⟩ := h hn
  exact ⟨b, off, e, hl, by omega, fun j hj => (hk _ _ hl hb).trans (hc j hj)⟩
theorem RWo.keep (h : RWo w lo B k A n L F) (hB : B ≤ B') (hk : ∀ b o, lo ≤ b → b < B → w'.cell? ⟨b, o, none⟩ = w.cell? ⟨b, o, none⟩) : RWo w' lo B' k A n L F := fun hn => by
  obtain ⟨b, off, e, hl, hb, hc⟩ := h hn
  refine ⟨b, off, e, hl, by omega, fun j hj => ?_⟩
  obtain ⟨A', c', h1, h2⟩ := hc j hj
  exact ⟨A', c', (hk _ _ hl hb).trans h1, h2.keep hB hk⟩
/-- Behind a store ahead of lo. -/
theorem RWo.far (h : RWo w lo B k A n L F) {p : Addr} (hp : p.block < lo) (u : Value) : RWo (w.setCell p u) lo B k A n L F :=
  h.keep (Nat.le_refl _) fun b o hl _ => World.cell?_setCell_other w p ⟨b, o, none⟩ u (fun e => by rw [e] at hp; simp at hp; omega)
theorem RWo.less (h : RWo w lo B k A n L F) {lo' : Nat} (hl : lo' ≤ lo) : RWo w lo' B k A n L F := fun hn => by
  obtain ⟨b, off, e, hlb, hb, hc⟩ := h hn
  refine ⟨b, off, e, by omega, hb, fun j hj => ?_⟩
  obtain ⟨A', c', h1, h2⟩ := hc j hj
  refine ⟨A', c', h1, fun hn' => ?_⟩
  obtain ⟨b', off', e', hl', hb', hc'⟩ := h2 hn'
  exact ⟨b', off', e', by omega, hb', hc'⟩
end

/-- Between two rounds: the box B9 holds a slice of k warps of m lanes; warp j reads (wf j). -/
def PI (n₀ B9 m : Nat) (wf : Nat → Nat → Int) (k : Nat) (W : World) : Prop :=
  ∃ v cells, Boxed W B9 64 v ∧ W.ownsRow n₀ 49 1 v k cells ∧ ∀ j, j < k → ∃ g, cells[j]? = some (.slice (some ⟨g, 0, none⟩) m m) ∧ n₀ ≤ g ∧ W.rowIs g 3 m (fun i => .int .i64 (wf j i))
theorem PI.start {n₀ B9 m : Nat} {wf : Nat → Nat → Int} {W : World} (h : Boxed W B9 64 (.slice none 0 0)) : PI n₀ B9 m wf 0 W :=
  ⟨_, [], h, World.ownsRow_nil _ _ _ _, fun j hj => absurd hj (by omega)⟩
theorem PI.own {n₀ B9 m : Nat} {wf : List Nat → Nat → Nat → Int} : Own (fun (pre : List Nat) W => PI n₀ B9 m (wf pre) pre.length W) := by
  rintro s X Y row ⟨v, cells, hv, hr, hc⟩ hg hrow
  have hne : ∀ {b : Nat} {cs : Array Value} {t : TypeId} {fr : Nat × Nat}, X.heap[b]? = some (.cells cs t fr) → some b ≠ row := fun hb e' => by
    obtain ⟨o, ho, hcc⟩ := hrow _ e'.symm
    rw [hb] at ho; cases ho; cases hcc
  refine ⟨v, cells, hv.kept hg (hne hv), hr.kept hg ?_, fun j hj => ?_⟩
  · rcases hr.2 with ⟨rfl, _⟩ | ⟨g, cap, cur, rfl, _, hgb, _⟩
    · exact .inl rfl
    · exact .inr (fun e' => hne hgb (by simpa [Value.ownBlock] using e'))
  · obtain ⟨g, h1, h2, h3⟩ := hc j hj
    have h4 := h3
    obtain ⟨c, hb, _, _⟩ := h4
    exact ⟨g, h1, h2, h3.of_block (hg.block g h3.lt (hne hb))⟩
theorem PI.congr {n₀ B9 m : Nat} {wf wf' : Nat → Nat → Int} {k : Nat} {W : World} (h : PI n₀ B9 m wf k W) (e : ∀ j, j < k → wf j = wf' j) : PI n₀ B9 m wf' k W := by
  obtain ⟨v, cells, hv, hr, hc⟩ := h
  refine ⟨v, cells, hv, hr, fun j hj => ?_⟩
  obtain ⟨g, h1, h2, h3⟩ := hc j hj
  rw [e j hj] at h3
  exact ⟨g, h1, h2, h3⟩
/-- Behind steps that make new blocks alone. -/
theorem PI.on {n₀ B9 m : Nat} {wf : Nat → Nat → Int} {k : Nat} {W W2 : World} (h : PI n₀ B9 m wf k W) (hb : Below W.heap.size W W2) : PI n₀ B9 m wf k W2 := by
  obtain ⟨v, cells, hv, hr, hc⟩ := h
  have hg : W.grownBy W2 none := ⟨hb.os, hb.tape, hb.output, hb.size, fun i hi _ => hb.block i hi⟩
  refine ⟨v, cells, hv.kept hg (by simp), hr.kept hg ?_, fun j hj => ?_⟩
  · rcases hr.2 with ⟨rfl, _⟩ | ⟨g, cap, cur, rfl, _, hgb, _⟩
    · exact .inl rfl
    · exact .inr (by simp [Value.ownBlock])
  · obtain ⟨g, h1, h2, h3⟩ := hc j hj
    exact ⟨g, h1, h2, h3.of_block (hb.block g h3.lt)⟩
theorem rowIs_ne_own {W : World} {g m : Nat} {F : Nat → Value} {base size k : Nat} {v : Value} {xs : List Value} (h : W.rowIs g 3 m F) (hr : W.ownsRow base 49 size v k xs) : some g ≠ v.ownBlock := by
  obtain ⟨c, hb, _, _⟩ := h
  rcases hr.2 with ⟨rfl, _⟩ | ⟨g', cap, cur, rfl, _, hgb, _⟩
  · simp [Value.ownBlock]
  · intro e'
    obtain rfl : g = g' := by simpa [Value.ownBlock] using e'
    rw [hb] at hgb
    simp at hgb
theorem keepsFrom_of_below {B : Nat} {W W' : World} (h : Below W.heap.size W W') : KeepsFrom B W W' :=
  KeepsFrom.of_grownBy (row := none) ⟨h.os, h.tape, h.output, h.size, fun i hi _ => h.block i hi⟩ (fun j e => by cases e)
/-- Below nb all but the box B9 lies as it lay. -/
structure Keep9 (nb B9 : Nat) (W W' : World) : Prop where
  os : W'.os = W.os
  tape : W'.tape = W.tape
  output : W'.output = W.output
  size : W.heap.size ≤ W'.heap.size
  block : ∀ i, i < nb → i ≠ B9 → W'.heap[i]? = W.heap[i]?
theorem Keep9.refl (nb B9 : Nat) (W : World) : Keep9 nb B9 W W := ⟨rfl, rfl, rfl, Nat.le_refl _, fun _ _ _ => rfl⟩
theorem Keep9.trans {nb B9 : Nat} {A B C : World} (h : Keep9 nb B9 A B) (k : Keep9 nb B9 B C) : Keep9 nb B9 A C :=
  ⟨k.os.trans h.os, k.tape.trans h.tape, k.output.trans h.output, Nat.le_trans h.size k.size, fun i hi hn => (k.block i hi hn).trans (h.block i hi hn)⟩
theorem Keep9.of_below {nb B9 B : Nat} {W W' : World} (h : Below B W W') (hB : nb ≤ B) : Keep9 nb B9 W W' := ⟨h.os, h.tape, h.output, h.size, fun i hi _ => h.block i (by omega)⟩
theorem Keep9.grown {nb B9 : Nat} {W W' : World} {row : Option Nat} (h : W.grownBy W' row) (hW : nb ≤ W.heap.size) (hr : ∀ i, row = some i → nb ≤ i ∨ i = B9) : Keep9 nb B9 W W' :=
  ⟨h.os, h.tape, h.output, h.size, fun i hi hn => h.block i (by omega) (fun e => by rcases hr i e.symm with h1 | h1 <;> omega)⟩
theorem Keep9.below {nb B9 B : Nat} {W W' : World} (h : Keep9 nb B9 W W') (h9 : B ≤ B9) (hn : B ≤ nb) : Below B W W' := ⟨h.os, h.tape, h.output, h.size, fun i hi => h.block i (by omega) (by omega)⟩
theorem Keep9.cell {nb B9 : Nat} {W W' : World} (h : Keep9 nb B9 W W') {b o : Nat} (hb : b < nb) (hn : b ≠ B9) : W'.cell? ⟨b, o, none⟩ = W.cell? ⟨b, o, none⟩ := World.cell?_of_block (a := ⟨b, o, none⟩) (h.block b hb hn)
theorem Keep9.own {nb B9 : Nat} {w : World} (hn : nb ≤ w.heap.size) : OwnFrom nb (fun (_ : List Nat) W => Keep9 nb B9 w W) := fun s X Y row hs hg hrow =>
  ⟨hg.os.trans hs.os, hg.tape.trans hs.tape, hg.output.trans hs.output, Nat.le_trans hs.size hg.size, fun i hi h9 => (hg.block i (by have := hs.size; omega) (fun e => by have := (hrow i e.symm).1; omega)).trans (hs.block i hi h9)⟩
/-- Behind the append of a finished warp. -/
theorem PI.appended {W W2 w1 : World} {nb B9 m k G : Nat} {wf : Nat → Nat → Int} {v v' : Value} {cells : List Value} (hb2 : Below W.heap.size W W2) (hW : nb ≤ W.heap.size)
    (hv : Boxed W2 B9 64 v) (hr : W2.ownsRow nb 49 1 v k cells) (hc : ∀ j, j < k → ∃ g, cells[j]? = some (.slice (some ⟨g, 0, none⟩) m m) ∧ nb ≤ g ∧ W2.rowIs g 3 m (fun i => .int .i64 (wf j i)))
    (hG : nb ≤ G) (hrow : W2.rowIs G 3 m (fun i => .int .i64 (wf k i))) (hlen : cells.length = k)
    (hown' : w1.ownsRow nb 49 1 v' (k + 1) (cells ++ [.slice (some ⟨G, 0, none⟩) m m])) {tmp : Obj} (hgrow : (W2.alloc tmp).grownBy w1 v.ownBlock) :
    Boxed w1 B9 64 v ∧ (KeepsFrom nb W (w1.setCell ⟨B9, 0, none⟩ v') ∧ Keep9 nb B9 W (w1.setCell ⟨B9, 0, none⟩ v') ∧ PI nb B9 m wf (k + 1) (w1.setCell ⟨B9, 0, none⟩ v')) := by
  have hsz := hb2.size
  have hne := hv.not_row (by decide) hr
  have h1 : Boxed w1 B9 64 v := (hv.alloc tmp).kept hgrow hne
  have hcells : ∀ g o, v.ownBlock = some g → W2.heap[g]? = some o → o.isCells = true := fun g o eg ho => by
    rcases hr.2 with ⟨rfl, _⟩ | ⟨g', cap, cur, rfl, _, hgb, _⟩
    · simp [Value.ownBlock] at eg
    · obtain rfl : g' = g := by simpa [Value.ownBlock] using eg
      rw [hgb] at ho; cases ho; rfl
  have hko : KeepsOthers W2 (w1.setCell ⟨B9, 0, none⟩ v') := by
    refine ((KeepsOthers.alloc W2 tmp).trans (KeepsOthers.of_grownBy hgrow fun j o ej hj => ?_)).trans (KeepsOthers.setCell _ _ _)
    have hjlt := (hr.lt j ej).2
    rw [Below.heap_alloc W2 tmp j hjlt] at hj
    exact hcells j o ej hj
  refine ⟨h1, (keepsFrom_of_below hb2).trans (hko.from _), ?_, v', _, h1.set v', hown'.kept (grownBy_setCell' w1 B9 v') (.inr (h1.not_row (by decide) hown').symm), fun j hj => ?_⟩
  · refine (Keep9.of_below hb2 hW).trans ((Keep9.grown (World.grownBy_alloc W2 tmp none) (by omega) (fun i e => by cases e)).trans ((Keep9.grown hgrow (by simp; omega) (fun i e => .inl (hr.lt i e).1)).trans (Keep9.grown (grownBy_setCell' w1 B9 v') ?_ (fun i e => .inr (by cases e; rfl)))))
    have := hgrow.size
    simp at this; omega
  · have hkeep : ∀ {g : Nat} {F : Nat → Value}, W2.rowIs g 3 m F → (w1.setCell ⟨B9, 0, none⟩ v').rowIs g 3 m F := fun {g F} hrg => by
      have a1 : (W2.alloc tmp).rowIs g 3 m F := hrg.alloc tmp
      have a2 : w1.rowIs g 3 m F := rowIs_kept a1 hgrow (rowIs_ne_own hrg hr)
      refine a2.setOther ?_ _
      rintro rfl
      obtain ⟨c, hb, _, _⟩ := hrg
      have := (show W2.heap[_]? = _ from hv).symm.trans hb
      simp at this
    by_cases hjk : j < k
    · obtain ⟨g, e1, e2, e3⟩ := hc j hjk
      exact ⟨g, by rw [List.getElem?_append_left (by omega)]; exact e1, e2, hkeep e3⟩
    · obtain rfl : j = k := by omega
      exact ⟨G, by rw [List.getElem?_append_right (by omega), hlen]; simp, hG, hkeep hrow⟩
/-- At the end: what the box holds reads as the warps. -/
theorem PI.reads {n₀ B9 m : Nat} {wf : Nat → Nat → Int} {k : Nat} {W : World} (h : PI n₀ B9 m wf k W) : ∃ A c, Boxed W B9 64 (.slice A k c) ∧ RWo W n₀ W.heap.size .i64 A k (fun _ => m) wf := by
  obtain ⟨v, cells, hv, hr, hc⟩ := h
  rcases hr.2 with ⟨rfl, h0⟩ | ⟨g, cap, cur, rfl, hg, hgb, _⟩
  · subst h0
    exact ⟨none, 0, hv, fun h => absurd h (by omega)⟩
  · refine ⟨_, _, hv, fun hk => ⟨g, 0, rfl, hg, lt_of_block hgb, fun j hj => ?_⟩⟩
    obtain ⟨g', e1, e2, e3⟩ := hc j hj
    refine ⟨some ⟨g', 0, none⟩, m, ?_, fun hm => ⟨g', 0, rfl, e2, e3.lt, fun i hi => by rw [Nat.zero_add]; exact e3.cell hi⟩⟩
    rw [Nat.zero_add, hr.cellAt j (by omega)]; exact e1
end Go.Proofs.Ytjknmancnfeifaa
