/-
  Words for memory: a slice that reads as a function of its index (RF), a slice of such slices (RW); what keeps them.
-/
import Derived.Test.YtjknmancnfeifaaRows
import Derived.WalkKit
import Derived.ProofKit
import Derived.OpenShut
import Derived.Below
import Derived.OneCell
import Derived.Lib.Hide
import Derived.Laws.OwnMore
import Derived.Laws.Rows
import Derived.Deep.AppendLies
import Derived.Deep.Draws
import Derived.Deep.OwnRows
import Derived.OwnWalk
import Derived.Maps.AppendAt
set_option linter.unusedVariables false
set_option linter.unusedSimpArgs false
namespace Go.Proofs.Ytjknmancnfeifaa
open Go.ChangeShapes Go.WideShapes Go.ChangeAt Go.RowKit

/-- A number of 32 bits. -/
def I32 (a : Int) : Prop := -2147483648 ≤ a ∧ a ≤ 2147483647
theorem I32.out {a : Int} (h : I32 a) : -2147483648 ≤ a ∧ a ≤ 2147483647 := h
theorem I32.wrap (a : Int) : I32 (wrap32 a) := by unfold I32 wrap32; omega
theorem I32.of_wf {a : Int} (h : (Lit.int .i32 a).wf = true) : I32 a := by
  simp only [Lit.wf, IntKind.min, IntKind.max, IntKind.signed, IntKind.bits, Bool.and_eq_true, decide_eq_true_eq, if_true] at h; unfold I32; omega
def I64 (a : Int) : Prop := -9223372036854775808 ≤ a ∧ a ≤ 9223372036854775807
theorem I64.of_wf {a : Int} (h : (Lit.int .i64 a).wf = true) : I64 a := by
  simp only [Lit.wf, IntKind.min, IntKind.max, IntKind.signed, IntKind.bits, Bool.and_eq_true, decide_eq_true_eq, if_true] at h; unfold I64; omega

/-- The slice '.slice A n _' of integers of kind k reads f 0, .., f (n - 1), in a block below B. -/
def RF (w : World) (B : Nat) (k : IntKind) (A : Option Addr) (n : Nat) (f : Nat → Int) : Prop :=
  0 < n → ∃ b off, A = some ⟨b, off, none⟩ ∧ b < B ∧ ∀ j, j < n → w.cell? ⟨b, off + j, none⟩ = some (.int k (f j))
section
variable {w w' : World} {B B' n : Nat} {k : IntKind} {A : Option Addr} {f g : Nat → Int}
theorem RF.zero (w : World) (B : Nat) (k : IntKind) (A : Option Addr) (f : Nat → Int) : RF w B k A 0 f := fun h => absurd h (by omega)
theorem RF.at_ {j : Nat} (h : RF w B k A n f) (hj : j < n) : ∃ b off, A = some ⟨b, off, none⟩ ∧ b < B ∧ w.cell? ⟨b, off + j, none⟩ = some (.int k (f j)) := by
  obtain ⟨b, off, rfl, hb, hc⟩ := h (by omega)
  exact ⟨b, off, rfl, hb, hc j hj⟩
theorem RF.keep (h : RF w B k A n f) (hk : ∀ b o, b < B → w'.cell? ⟨b, o, none⟩ = w.cell? ⟨b, o, none⟩) : RF w' B k A n f := fun hn => by
  obtain ⟨b, off, rfl, hb, hc⟩ := h hn
  exact ⟨b, off, rfl, hb, fun j hj => (hk _ _ hb).trans (hc j hj)⟩
theorem RF.below (h : RF w B k A n f) (hb : Below B w w') : RF w' B k A n f := h.keep fun b o hp => hb.cell (p := ⟨b, o, none⟩) hp
theorem RF.more (h : RF w B k A n f) (hB : B ≤ B') : RF w B' k A n f := fun hn => by
  obtain ⟨b, off, rfl, hb, hc⟩ := h hn
  exact ⟨b, off, rfl, by omega, hc⟩
/-- Behind a call: what lay there reads as it did; the bound moves on. -/
theorem RF.on (h : RF w w.heap.size k A n f) (hb : Below w.heap.size w w') : RF w' w'.heap.size k A n f := (h.below hb).more hb.size
theorem RF.congr (h : RF w B k A n f) (e : ∀ j, j < n → f j = g j) : RF w B k A n g := fun hn => by
  obtain ⟨b, off, rfl, hb, hc⟩ := h hn
  exact ⟨b, off, rfl, hb, fun j hj => by rw [hc j hj, e j hj]⟩
theorem RF.less {m : Nat} (h : RF w B k A n f) (hm : m ≤ n) : RF w B k A m f := fun hn => by
  obtain ⟨b, off, rfl, hb, hc⟩ := h (by omega)
  exact ⟨b, off, rfl, hb, fun j hj => hc j (by omega)⟩
theorem RF.far {g : Nat} (h : RF w B k (some ⟨g, 0, none⟩) n f) {p : Addr} (hp : p.block ≠ g) (u : Value) : RF (w.setCell p u) B k (some ⟨g, 0, none⟩) n f := fun hn => by
  obtain ⟨b, off, e, hb, hc⟩ := h hn
  simp only [Option.some.injEq, Addr.mk.injEq] at e
  obtain ⟨rfl, rfl, _⟩ := e
  exact ⟨_, _, rfl, hb, fun j hj => (World.cell?_setCell_other w p ⟨g, 0 + j, none⟩ u (fun e => hp (by rw [e]))).trans (hc j hj)⟩
theorem RF.of_row {b m : Nat} {t : TypeId} {F : Nat → Value} (h : w.rowIs b t m F) (hn : n ≤ m) (hF : ∀ j, j < n → F j = .int k (f j)) (hB : b < B) : RF w B k (some ⟨b, 0, none⟩) n f := fun _ =>
  ⟨b, 0, rfl, hB, fun j hj => by rw [Nat.zero_add, h.cell (by omega), hF j hj]⟩
end

/-- A slice of slices: element j is a slice of length (L j) that reads (F j). -/
def RW (w : World) (B : Nat) (k : IntKind) (A : Option Addr) (n : Nat) (L : Nat → Nat) (F : Nat → Nat → Int) : Prop :=
  0 < n → ∃ b off, A = some ⟨b, off, none⟩ ∧ b < B ∧ ∀ j, j < n → ∃ A' c', w.cell? ⟨b, off + j, none⟩ = some (.slice A' (L j) c') ∧ RF w B k A' (L j) (F j)
section
variable {w w' : World} {B B' n : Nat} {k : IntKind} {A : Option Addr} {L : Nat → Nat} {F : Nat → Nat → Int}
theorem RW.zero (w : World) (B : Nat) (k : IntKind) (A : Option Addr) (L : Nat → Nat) (F : Nat → Nat → Int) : RW w B k A 0 L F := fun h => absurd h (by omega)
theorem RW.at_ {j : Nat} (h : RW w B k A n L F) (hj : j < n) : ∃ b off A' c', A = some ⟨b, off, none⟩ ∧ b < B ∧ w.cell? ⟨b, off + j, none⟩ = some (.slice A' (L j) c') ∧ RF w B k A' (L j) (F j) := by
  obtain ⟨b, off, rfl, hb, hc⟩ := h (by omega)
  obtain ⟨A', c', h1, h2⟩ := hc j hj
  exact ⟨b, off, A', c', rfl, hb, h1, h2⟩
theorem RW.keep (h : RW w B k A n L F) (hk : ∀ b o, b < B → w'.cell? ⟨b, o, none⟩ = w.cell? ⟨b, o, none⟩) : RW w' B k A n L F := fun hn => by
  obtain ⟨b, off, rfl, hb, hc⟩ := h hn
  refine ⟨b, off, rfl, hb, fun j hj => ?_⟩
  obtain ⟨A', c', h1, h2⟩ := hc j hj
  exact ⟨A', c', (hk _ _ hb).trans h1, h2.keep hk⟩
theorem RW.below (h : RW w B k A n L F) (hb : Below B w w') : RW w' B k A n L F := h.keep fun b o hp => hb.cell (p := ⟨b, o, none⟩) hp
theorem RW.more (h : RW w B k A n L F) (hB : B ≤ B') : RW w B' k A n L F := fun hn => by
  obtain ⟨b, off, rfl, hb, hc⟩ := h hn
  refine ⟨b, off, rfl, by omega, fun j hj => ?_⟩
  obtain ⟨A', c', h1, h2⟩ := hc j hj
  exact ⟨A', c', h1, h2.more hB⟩
theorem RW.on (h : RW w w.heap.size k A n L F) (hb : Below w.heap.size w w') : RW w' w'.heap.size k A n L F := (h.below hb).more hb.size
end

/-- Old blocks read as they did. -/
theorem bcell {W w1 : World} (hb : Below W.heap.size W w1) : (∀ b o, b < W.heap.size → w1.cell? ⟨b, o, none⟩ = W.cell? ⟨b, o, none⟩) ∧ (∀ b o, b < W.heap.size → w1.frozen? ⟨b, o, none⟩ = W.frozen? ⟨b, o, none⟩) :=
  ⟨fun b o h => hb.cell (p := ⟨b, o, none⟩) h, fun b o h => hb.frozen (p := ⟨b, o, none⟩) h⟩
theorem below_drewN {B : Nat} {a w : World} (h : Below B a w) (n : Nat) : Below B a (w.drewN n) := ⟨h.os, h.tape, h.output, h.size, h.block⟩
theorem only_drewN {a w : World} {row : Option Nat} (h : a.grownBy w row) (n : Nat) : a.grownBy (w.drewN n) row := ⟨h.os, h.tape, h.output, h.size, h.block⟩
theorem only_setCell {a w : World} {g : Nat} (h : a.grownBy w (some g)) {p : Addr} (hp : p.block = g ∨ a.heap.size ≤ p.block) (u : Value) : a.grownBy (w.setCell p u) (some g) :=
  ⟨h.os, h.tape, h.output, by simpa [World.setCell] using h.size, fun i hi hne => (Below.heap_setCell _ _ _ i (by
    rintro rfl
    rcases hp with hp | hp
    · exact hne (by rw [hp])
    · omega)).trans (h.block i hi hne)⟩
/-- Block b is one cell of an int32. -/
def One (w : World) (b : Nat) (v : Int) : Prop := w.heap[b]? = some (.cells #[.int .i32 v] 21 (0, 0))
theorem One.cell {w : World} {b : Nat} {v : Int} (h : One w b v) : w.cell? ⟨b, 0, none⟩ = some (.int .i32 v) := cell_of_one h
theorem One.free {w : World} {b : Nat} {v : Int} (h : One w b v) : w.frozen? ⟨b, 0, none⟩ = false := free_of_one h
theorem One.lt {w : World} {b : Nat} {v : Int} (h : One w b v) : b < w.heap.size := lt_of_block h
theorem One.far {w : World} {b : Nat} {v : Int} (h : One w b v) {p : Addr} (hp : b ≠ p.block) (u : Value) : One (w.setCell p u) b v := (Below.heap_setCell _ _ _ _ hp).trans h
theorem One.kept {w w' : World} {row : Option Nat} {b : Nat} {v : Int} (h : One w b v) (hg : w.grownBy w' row) (hr : some b ≠ row) : One w' b v := (hg.block b h.lt hr).trans h
theorem rowIs_kept {w w' : World} {row : Option Nat} {b : Nat} {t : TypeId} {n : Nat} {F : Nat → Value} (h : w.rowIs b t n F) (hg : w.grownBy w' row) (hr : some b ≠ row) : w'.rowIs b t n F := h.of_block (hg.block b h.lt hr)
theorem ret_i32 {a b : Int} (h : a = b) : Ending.returned (.int .i32 a) = .returned (.int .i32 b) := by rw [h]
theorem ret_i64 {a b : Int} (h : a = b) : Ending.returned (.int .i64 a) = .returned (.int .i64 b) := by rw [h]
theorem ret_b {a b : Bool} (h : a = b) : Ending.returned (.bool a) = .returned (.bool b) := by rw [h]
theorem ret2_64 {a b c d : Int} (h : a = b) (h2 : c = d) : Ending.returned (.tuple #[.int .i64 a, .int .i64 c]) = .returned (.tuple #[.int .i64 b, .int .i64 d]) := by rw [h, h2]
theorem info3 : (Try.prog.info? 3).map (fun i => (i.zero, i.size, i.bytes)) = some (some (.int .i64 0), 1, 8) := by kernel_rfl
theorem info21 : (Try.prog.info? 21).map (fun i => (i.zero, i.size, i.bytes)) = some (some (.int .i32 0), 1, 4) := by kernel_rfl
theorem info49 : (Try.prog.info? 49).map (fun i => (i.zero, i.size, i.bytes)) = some (some (.slice none 0 0), 1, 24) := by kernel_rfl
theorem info25 : (Try.prog.info? 25).map (fun i => (i.zero, i.size, i.bytes)) = some (some (.slice none 0 0), 1, 24) := by kernel_rfl
end Go.Proofs.Ytjknmancnfeifaa
