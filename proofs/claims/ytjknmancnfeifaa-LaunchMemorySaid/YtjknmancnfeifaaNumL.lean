/-
  Words and lemmas for LaunchNumbers and LaunchMatchesReference: a code and its launch in boxes; what the reference's Code and Launch give fits together.
-/
import Derived.Test.YtjknmancnfeifaaLau
import Derived.Test.YtjknmancnfeifaaExC
set_option linter.unusedVariables false
set_option linter.unusedSimpArgs false
namespace Go.Proofs.Ytjknmancnfeifaa
open Go.ChangeShapes Go.WideShapes Go.ChangeAt Go.RowKit

theorem shape_ok (a c : Int) (h0 : 0 ≤ a) (h1 : 0 ≤ c) : sizedB (grpV a c) (subV a) = true ∧ 1 ≤ grpV a c ∧ grpV a c ≤ 64 := by
  unfold grpV sizedB
  rcases subV_cases a h0 with ⟨_, h⟩ | ⟨_, h⟩ | ⟨_, h⟩ | ⟨_, h⟩ | ⟨_, h⟩ | ⟨_, h⟩ <;> rw [h]
  · have e : max 1 (64 / (1 : Int)) = 64 := by decide
    have eb : (bits BinOp.and IntKind.i64 1 (1 - 1) == 0) = true := by decide +kernel
    rw [e, eb]; simp; omega
  · have e : max 1 (64 / (2 : Int)) = 32 := by decide
    have eb : (bits BinOp.and IntKind.i64 2 (2 - 1) == 0) = true := by decide +kernel
    rw [e, eb]; simp; omega
  · have e : max 1 (64 / (4 : Int)) = 16 := by decide
    have eb : (bits BinOp.and IntKind.i64 4 (4 - 1) == 0) = true := by decide +kernel
    rw [e, eb]; simp; omega
  · have e : max 1 (64 / (8 : Int)) = 8 := by decide
    have eb : (bits BinOp.and IntKind.i64 8 (8 - 1) == 0) = true := by decide +kernel
    rw [e, eb]; simp; omega
  · have e : max 1 (64 / (16 : Int)) = 4 := by decide
    have eb : (bits BinOp.and IntKind.i64 16 (16 - 1) == 0) = true := by decide +kernel
    rw [e, eb]; simp; omega
  · have e : max 1 (64 / (32 : Int)) = 2 := by decide
    have eb : (bits BinOp.and IntKind.i64 32 (32 - 1) == 0) = true := by decide +kernel
    rw [e, eb]; simp; omega
theorem chk_shape (a c : Int) (n : Int) (p : Nat) (h0 : 0 ≤ a) (h1 : 0 ≤ c) (hp : p ≤ 3) : chkB (grpV a c) (subV a) p (1 + n % 3) p = true := by
  obtain ⟨h, g1, g2⟩ := shape_ok a c h0 h1
  unfold chkB countedB
  rw [h]
  have hq : 64 ≤ 4096 / grpV a c := (Int.le_ediv_iff_mul_le (by omega)).2 (by omega)
  simp; omega
/-- The box B8 holds a code, the box B9 its launch. -/
structure NB (w : World) (B8 B9 : Nat) (g s gr : Int) (p na ca nl cl : Nat) (AA AL : Option Addr) (W : World) : Prop where
  cd : Cd W B8 g s p (.slice AA na ca)
  lb : Lb W B9 gr (.slice AL nl cl)
  bel : Below w.heap.size w W
section
variable {w W W' : World} {B8 B9 : Nat} {g s gr : Int} {p na ca nl cl : Nat} {AA AL : Option Addr}
theorem NB.on (h : NB w B8 B9 g s gr p na ca nl cl AA AL W) (hb : Below W.heap.size W W') : NB w B8 B9 g s gr p na ca nl cl AA AL W' :=
  ⟨h.cd.on hb, h.lb.of_block (hb.block _ h.lb.lt), h.bel.trans (hb.mono h.bel.size)⟩
theorem NB.drew (h : NB w B8 B9 g s gr p na ca nl cl AA AL W) : NB w B8 B9 g s gr p na ca nl cl AA AL W.drew := h.on (Below.refl _ _).drew
theorem NB.alloc (h : NB w B8 B9 g s gr p na ca nl cl AA AL W) (o : Obj) : NB w B8 B9 g s gr p na ca nl cl AA AL (W.alloc o) := h.on ((Below.refl _ _).alloc (Nat.le_refl _) o)
end
theorem build41 (n : Int) (w : World) : (Instr.build 41 #[(0, Value.int .u8 n)]).run Try.prog w = .ok (.agg #[.int .u8 n, .int .i8 0, .int .i8 0, .int .i8 0, .int .i8 0, .int .i8 0, .int .i8 0, .int .i8 0, .int .i8 0, .int .i8 0, .int .i8 0, .int .i8 0, .int .i8 0]) w := by kernel_rfl
/-- The first k numbers as cells. -/
def cellsI (F : Nat → Int) (k : Nat) : List Value := (List.range k).map fun j => Value.int .i64 (F j)
theorem cellsI_succ (F : Nat → Int) (k : Nat) : cellsI F (k + 1) = cellsI F k ++ [.int .i64 (F k)] := by simp [cellsI, List.range_succ]
theorem emod_le (a b : Int) (ha : 0 ≤ a) (hb : 0 < b) : a % b ≤ a := by
  have h1 : b * (a / b) + a % b = a := by first | exact Int.mul_ediv_add_emod a b | exact Int.ediv_add_emod a b
  have h2 := Int.mul_nonneg (show 0 ≤ b by omega) (Int.ediv_nonneg ha (show 0 ≤ b by omega))
  omega
/-- The numbers of an item, with their bounds. -/
theorem idN_bd {g s gr item op : Int} (g1 : 1 ≤ g) (s1 : 1 ≤ s) (h0 : 0 ≤ item) (h1 : item < gr * g) (h2 : gr * g ≤ 4096) : 0 ≤ idN g s gr item op ∧ idN g s gr item op ≤ 4096 ∨ idN g s gr item op = g := by
  have q1 : 0 ≤ item / g := Int.ediv_nonneg h0 (by omega)
  have q2 : item / g ≤ item := Int.ediv_le_self _ h0
  have m1 : 0 ≤ item % g := Int.emod_nonneg _ (by omega)
  have m2 : item % g ≤ item := emod_le _ _ h0 (by omega)
  have r1 : 0 ≤ item % g % s := Int.emod_nonneg _ (by omega)
  have r2 : item % g % s ≤ item % g := emod_le _ _ m1 (by omega)
  have u1 : 0 ≤ item % g / s := Int.ediv_nonneg m1 (by omega)
  have u2 : item % g / s ≤ item % g := Int.ediv_le_self _ m1
  unfold idN
  repeat' split
  all_goals first | (right; rfl) | (left; omega)
theorem own_on {w w' : World} {base k size : Nat} {e : TypeId} {v : Value} {xs : List Value} (h : w.ownsRow base e size v k xs) (hb : Below w.heap.size w w') : w'.ownsRow base e size v k xs := by
  have hg : w.grownBy w' none := ⟨hb.os, hb.tape, hb.output, hb.size, fun i hi _ => hb.block i hi⟩
  refine h.kept hg ?_
  rcases h.2 with ⟨rfl, _⟩ | ⟨g, cap, cur, rfl, _, hgb, _⟩
  · exact .inl rfl
  · exact .inr (by simp [Value.ownBlock])
/-- .. and a list of numbers, three of which are read. -/
structure NV (w : World) (B8 B9 bv : Nat) (g s gr : Int) (p na ca nl cl : Nat) (AA AL : Option Addr) (v1 v2 v5 : Int) (W : World) : Prop where
  nb : NB w B8 B9 g s gr p na ca nl cl AA AL W
  r1 : W.cell? ⟨bv, 1, none⟩ = some (.int .i64 v1)
  r2 : W.cell? ⟨bv, 2, none⟩ = some (.int .i64 v2)
  r5 : W.cell? ⟨bv, 5, none⟩ = some (.int .i64 v5)
section
variable {w W W' : World} {B8 B9 bv : Nat} {g s gr v1 v2 v5 : Int} {p na ca nl cl : Nat} {AA AL : Option Addr}
theorem NV.on (h : NV w B8 B9 bv g s gr p na ca nl cl AA AL v1 v2 v5 W) (hb : Below W.heap.size W W') : NV w B8 B9 bv g s gr p na ca nl cl AA AL v1 v2 v5 W' :=
  ⟨h.nb.on hb, (hb.cell (World.block_lt_of_cell? _ _ h.r1)).trans h.r1, (hb.cell (World.block_lt_of_cell? _ _ h.r2)).trans h.r2, (hb.cell (World.block_lt_of_cell? _ _ h.r5)).trans h.r5⟩
theorem NV.drew (h : NV w B8 B9 bv g s gr p na ca nl cl AA AL v1 v2 v5 W) : NV w B8 B9 bv g s gr p na ca nl cl AA AL v1 v2 v5 W.drew := h.on (Below.refl _ _).drew
theorem NV.alloc {o : Obj} (h : NV w B8 B9 bv g s gr p na ca nl cl AA AL v1 v2 v5 W) : NV w B8 B9 bv g s gr p na ca nl cl AA AL v1 v2 v5 (W.alloc o) := h.on ((Below.refl _ _).alloc (Nat.le_refl _) o)
/-- What the region reads. -/
def NVS (w : World) (B8 B9 bv : Nat) (g s gr : Int) (p na ca nl cl : Nat) (AA AL : Option Addr) (v1 v2 v5 : Int) (W : World) : Prop := NV w B8 B9 bv g s gr p na ca nl cl AA AL v1 v2 v5 W
theorem NV.all (h : NV w B8 B9 bv g s gr p na ca nl cl AA AL v1 v2 v5 W) : W.cell? ⟨bv, 1, none⟩ = some (.int .i64 v1) ∧ W.cell? ⟨bv, 2, none⟩ = some (.int .i64 v2) ∧ W.cell? ⟨bv, 5, none⟩ = some (.int .i64 v5) ∧
    W.cell? ⟨B8, 0, none⟩ = some (.int .i64 g) ∧ W.cell? ⟨B8, 1, none⟩ = some (.int .i64 s) ∧ W.cell? ⟨B8, 2, none⟩ = some (.int .i64 0) ∧ W.cell? ⟨B8, 3, none⟩ = some (.int .i64 0) ∧ W.cell? ⟨B8, 4, none⟩ = some (.int .i64 p) ∧ W.cell? ⟨B8, 5, none⟩ = some (.slice AA na ca) ∧ W.cell? ⟨B8, 6, none⟩ = some (.slice none 0 0) ∧ W.cell? ⟨B8, 7, none⟩ = some (.slice none 0 0) ∧
    W.cell? ⟨B9, 0, none⟩ = some (.int .i64 gr) ∧ W.cell? ⟨B9, 1, none⟩ = some (.slice AL nl cl) ∧ NV w B8 B9 bv g s gr p na ca nl cl AA AL v1 v2 v5 W :=
  ⟨h.r1, h.r2, h.r5, h.nb.cd.c0, h.nb.cd.c1, h.nb.cd.c2, h.nb.cd.c3, h.nb.cd.c4, h.nb.cd.c5, h.nb.cd.c6, h.nb.cd.c7, h.nb.lb.c0, h.nb.lb.c1, h⟩
theorem NV.of (h : W.cell? ⟨bv, 1, none⟩ = some (.int .i64 v1) ∧ W.cell? ⟨bv, 2, none⟩ = some (.int .i64 v2) ∧ W.cell? ⟨bv, 5, none⟩ = some (.int .i64 v5) ∧
    W.cell? ⟨B8, 0, none⟩ = some (.int .i64 g) ∧ W.cell? ⟨B8, 1, none⟩ = some (.int .i64 s) ∧ W.cell? ⟨B8, 2, none⟩ = some (.int .i64 0) ∧ W.cell? ⟨B8, 3, none⟩ = some (.int .i64 0) ∧ W.cell? ⟨B8, 4, none⟩ = some (.int .i64 p) ∧ W.cell? ⟨B8, 5, none⟩ = some (.slice AA na ca) ∧ W.cell? ⟨B8, 6, none⟩ = some (.slice none 0 0) ∧ W.cell? ⟨B8, 7, none⟩ = some (.slice none 0 0) ∧
    W.cell? ⟨B9, 0, none⟩ = some (.int .i64 gr) ∧ W.cell? ⟨B9, 1, none⟩ = some (.slice AL nl cl) ∧ NV w B8 B9 bv g s gr p na ca nl cl AA AL v1 v2 v5 W) : NV w B8 B9 bv g s gr p na ca nl cl AA AL v1 v2 v5 W := h.2.2.2.2.2.2.2.2.2.2.2.2.2
theorem id_noV (item : Int) (h : NV w B8 B9 bv g s gr p na ca nl cl AA AL v1 v2 v5 W) (hk : chkB g s p gr nl = true) (hno : ¬ (0 ≤ item ∧ item < gr * g)) :
    Calls Try.prog 14 #[.agg #[.int .i64 g, .int .i64 s, .int .i64 0, .int .i64 0, .int .i64 p, .slice AA na ca, .slice none 0 0, .slice none 0 0], .agg #[.int .i64 gr, .slice AL nl cl], .agg #[.int .i64 item, .int .i64 1]] W fun e w' => e = .returned (.agg #[.int .i32 0, .int .i64 1]) ∧ NV w B8 B9 bv g s gr p na ca nl cl AA AL v1 v2 v5 w' :=
  (id_no g s 0 0 p gr na ca 0 0 0 0 nl cl AA none none AL item 1 W hk (by omega)).mono fun e w' ⟨he, hb⟩ => ⟨he, h.on hb⟩
end
end Go.Proofs.Ytjknmancnfeifaa
