/-
  Lemmas of LaunchMemory.
-/
import Derived.Test.YtjknmancnfeifaaCoq
import Derived.Test.YtjknmancnfeifaaFitA
import Derived.Test.YtjknmancnfeifaaCodA
set_option linter.unusedVariables false
set_option linter.unusedSimpArgs false
namespace Go.Proofs.Ytjknmancnfeifaa
open Go.ChangeShapes Go.WideShapes Go.ChangeAt Go.RowKit

theorem wV_bd {sp ln : Nat → Int} {space : Int} (hl : ∀ j, 0 ≤ ln j ∧ ln j ≤ 15) (j : Nat) : 0 ≤ wV (sp j) (ln j) space ∧ wV (sp j) (ln j) space ≤ 15 := by
  have := hl j
  unfold wV; split <;> omega
theorem zlen_eq {sp ln : Nat → Int} {space : Int} (hl : ∀ j, 0 ≤ ln j ∧ ln j ≤ 15) (j : Nat) : ((zlen sp ln space j : Nat) : Int) = wV (sp j) (ln j) space := by
  have := wV_bd (sp := sp) (space := space) hl j
  unfold zlen; omega
theorem zlen_le {sp ln : Nat → Int} {space : Int} (hl : ∀ j, 0 ≤ ln j ∧ ln j ≤ 15) (j : Nat) : zlen sp ln space j ≤ 15 := by
  have := wV_bd (sp := sp) (space := space) hl j
  unfold zlen; omega
theorem fit_zero {n : Nat} {sp ln : Nat → Int} {space : Int} (hl : ∀ j, 0 ≤ ln j ∧ ln j ≤ 15) : fitB n (zlen sp ln space) sp ln space = true := fitB_true fun j _ => zlen_eq hl j
/-- One word more in list k. -/
def moreL (zl : Nat → Nat) (k j : Nat) : Nat := if j = k then zl j + 1 else zl j
theorem fit_more {n k : Nat} {sp ln : Nat → Int} {space : Int} (hl : ∀ j, 0 ≤ ln j ∧ ln j ≤ 15) (hk : k < n) : fitB n (moreL (zlen sp ln space) k) sp ln space = false := by
  refine fitB_false hk ?_
  have := zlen_eq (sp := sp) (space := space) hl k
  unfold moreL
  rw [if_pos rfl]
  omega
theorem more_own {nb n c g q cR : Nat} {R : Option Addr} {cells : List Value} {W w1 : World} {o : Obj} (h1 : W.ownsRow nb 25 1 (.slice (some ⟨g, 0, none⟩) n c) n cells) (hrow : W.ownsRow nb 21 1 (.slice R q cR) q (zeros q))
    (hgrow : (W.alloc o).drew.grownBy w1 (Value.slice R q cR).ownBlock) : w1.ownsRow nb 25 1 (.slice (some ⟨g, 0, none⟩) n c) n cells := by
  have h1' : (W.alloc o).drew.ownsRow nb 25 1 (.slice (some ⟨g, 0, none⟩) n c) n cells := own_on h1 ((Below.refl _ _).alloc (Nat.le_refl _) o).drew
  have hr' : (W.alloc o).drew.ownsRow nb 21 1 (.slice R q cR) q (zeros q) := own_on hrow ((Below.refl _ _).alloc (Nat.le_refl _) o).drew
  exact h1'.kept hgrow (.inr (by
    rcases own_ne hr' h1' with h | h
    · rw [h]; simp [Value.ownBlock]
    · exact fun e => h e.symm))
/-- Behind the append to list k. -/
theorem more_lens {nb n k c g q cR gg cap : Nat} {R : Option Addr} {zl : Nat → Nat} {cells : List Value} {W w1 : World} {o : Obj} (h1 : W.ownsRow nb 25 1 (.slice (some ⟨g, 0, none⟩) n c) n cells) (h2 : ∀ j, j < n → ∃ rv, cells[j]? = some rv ∧ W.ownsRow nb 21 1 rv (zl j) (zeros (zl j)))
    (hk : k < n) (hrow : W.ownsRow nb 21 1 (.slice R q cR) q (zeros q)) (hq : zl k = q) (hgrow : (W.alloc o).drew.grownBy w1 (Value.slice R q cR).ownBlock) :
    RWl (w1.setCell ⟨g, k, none⟩ (.slice (some ⟨gg, 0, none⟩) (q + 1) cap)) (w1.setCell ⟨g, k, none⟩ (.slice (some ⟨gg, 0, none⟩) (q + 1) cap)).heap.size (some ⟨g, 0, none⟩) n (moreL zl k) := fun _ => by
  have h1' : (W.alloc o).drew.ownsRow nb 25 1 (.slice (some ⟨g, 0, none⟩) n c) n cells := own_on h1 ((Below.refl _ _).alloc (Nat.le_refl _) o).drew
  have hr' : (W.alloc o).drew.ownsRow nb 21 1 (.slice R q cR) q (zeros q) := own_on hrow ((Below.refl _ _).alloc (Nat.le_refl _) o).drew
  have h11 : w1.ownsRow nb 25 1 (.slice (some ⟨g, 0, none⟩) n c) n cells := h1'.kept hgrow (.inr (by
    rcases own_ne hr' h1' with h | h
    · rw [h]; simp [Value.ownBlock]
    · exact fun e => h e.symm))
  have hlt := (h11.lt g rfl).2
  obtain ⟨hst, _⟩ := h11.stored k (.slice (some ⟨gg, 0, none⟩) (q + 1) cap)
  refine ⟨g, 0, rfl, by simpa [World.setCell] using hlt, fun j hj => ?_⟩
  rw [Nat.zero_add, hst.cellAt j (by omega)]
  have hlen : cells.length = n := by have := h1.1; omega
  by_cases e : j = k
  · subst e
    refine ⟨some ⟨gg, 0, none⟩, cap, ?_⟩
    rw [List.getElem?_set_self (by omega)]
    unfold moreL
    rw [if_pos rfl, hq]
  · obtain ⟨rv, er, hor⟩ := h2 j hj
    rw [List.getElem?_set_ne (by omega), er]
    unfold moreL
    rw [if_neg e]
    rcases hor.2 with ⟨rfl, h0⟩ | ⟨g', cap', cur', rfl, _⟩
    · exact ⟨none, 0, by rw [h0]⟩
    · exact ⟨_, _, rfl⟩
theorem slice1 (b n : Nat) (hn : 0 < n) (hn8 : n ≤ 8) : ∃ S, ∀ W : World, (Instr.slice 70 (.slice (some ⟨b, 0, none⟩) n n) (some (.int .i64 1)) none none).run Try.prog W = .ok (.slice S (n - 1) (n - 1)) W := by
  have : n = 1 ∨ n = 2 ∨ n = 3 ∨ n = 4 ∨ n = 5 ∨ n = 6 ∨ n = 7 ∨ n = 8 := by omega
  rcases this with rfl | rfl | rfl | rfl | rfl | rfl | rfl | rfl
  · exact ⟨some ⟨b, 0, none⟩, fun W => by kernel_rfl⟩
  · exact ⟨some ⟨b, 1, none⟩, fun W => by kernel_rfl⟩
  · exact ⟨some ⟨b, 1, none⟩, fun W => by kernel_rfl⟩
  · exact ⟨some ⟨b, 1, none⟩, fun W => by kernel_rfl⟩
  · exact ⟨some ⟨b, 1, none⟩, fun W => by kernel_rfl⟩
  · exact ⟨some ⟨b, 1, none⟩, fun W => by kernel_rfl⟩
  · exact ⟨some ⟨b, 1, none⟩, fun W => by kernel_rfl⟩
  · exact ⟨some ⟨b, 1, none⟩, fun W => by kernel_rfl⟩
theorem append_nil_row {w0 w : World} {base n g c : Nat} {cells : List Value} (hown : w.ownsRow base 25 1 (.slice (some ⟨g, 0, none⟩) n c) n cells) (hn : n ≤ 8) (hb : base ≤ w.heap.size) (hw : Below w0.heap.size w0 w) (h0 : w0.heap.size ≤ base) :
    ∃ g' c' w', (Builtin.append_ #[70, 70] 70 #[.slice (some ⟨g, 0, none⟩) n c, .slice (some ⟨w.heap.size, 0, none⟩) 1 1]).run Try.prog (w.alloc (.cells #[.slice none 0 0] 25)) = .ok (.slice (some ⟨g', 0, none⟩) (n + 1) c') w' ∧ Below w0.heap.size w0 w' := by
  obtain ⟨i0, hi, hz0, hz1, hz2⟩ := info_parts info25
  obtain ⟨v', w', hr, h2, h3, _, h5⟩ := run_append_own_at (P := Try.prog) (w.alloc (.cells #[.slice none 0 0] 25)) base 70 70 25 i0 (.slice none 0 0) 1 24 Try.underlying70 hi hz0 hz1 hz2 rfl (by decide) _ n cells (hown.alloc _) ⟨w.heap.size, 0, none⟩ 1 1 [.slice none 0 0] rfl (cell_one_new _ _ _) (by simp [Value.oneCell']) (by unfold maxLen; omega) (by omega) (by simp; omega)
  obtain ⟨g', c', rfl, _, _⟩ := h2.form (by omega)
  exact ⟨g', c', w', hr, (hw.alloc hw.size _).grown h3 (by have := hw.size; simp; omega) (fun j hj => by have := (hown.lt j hj).1; omega)⟩
/-- An append whose guard holds, by its run. -/
theorem wpList_append_g {P : Program} {ops : Array Oper} {rest : List Oper} {o : Oper} {a : Act} {Q : Exit → Act → World → Prop} {w w' : World} {v : Value} (hw : Region.wanted o (yielded ops a.tmps) = true) (s x : Operand) (t : TypeId)
    (ho : o.op = .call { callee := .builtin .append, args := #[s, x], argTypes := #[t, t] }) (hrun : (Builtin.append_ #[t, t] o.type #[a.eval s, a.eval x]).run P w = .ok v w') (hK : wpList P ops Q rest (a.put o.dst v) w') : wpList P ops Q (o :: rest) a w :=
  wpList_step fun K hK' => by
    rw [if_pos hw]
    unfold Oper.wp execOp
    simp only [ho, resolve, invoke, builtin, Sem.run_bind, Sem.run_pure, Result.andThen_ok, List.map_toArray, List.map_cons, List.map_nil, hrun]
    exact hK' _ _ hK
theorem fld34_5 (a b c d e f g h : Value) (w : World) : (Instr.field 34 (.agg #[a, b, c, d, e, f, g, h]) 5).run Try.prog w = .ok f w := by kernel_rfl
/-- Block b is two bytes. -/
def At8 (w : World) (b : Nat) (x y : Int) : Prop := w.heap[b]? = some (.cells #[.int .u8 x, .int .u8 y] 71 (0, 0))
section
variable {w w' : World} {b : Nat} {x y : Int}
theorem At8.c0 (h : At8 w b x y) : w.cell? ⟨b, 0, none⟩ = some (.int .u8 x) := by unfold At8 at h; simp [World.cell?, h]
theorem At8.c1 (h : At8 w b x y) : w.cell? ⟨b, 1, none⟩ = some (.int .u8 y) := by unfold At8 at h; simp [World.cell?, h]
theorem At8.lt (h : At8 w b x y) : b < w.heap.size := lt_of_block h
theorem At8.on (h : At8 w b x y) (hb : Below w.heap.size w w') : At8 w' b x y := (hb.block b h.lt).trans h
end
theorem Copy_some (n c : Nat) (A : Option Addr) (zl : Nat → Nat) (w : World) (hn1 : 0 < n) (hn : n ≤ 8) (hzl : ∀ j, zl j ≤ 15) (hz : ZR w A n zl) :
    Calls Try.prog 29 #[.slice A n c] w fun e w' => ∃ g cc, e = .returned (.slice (some ⟨g, 0, none⟩) n cc) ∧ CJ w.heap.size zl n (.slice (some ⟨g, 0, none⟩) n cc) w' ∧ Below w.heap.size w w' :=
  (Copy_any n c A zl w hn hzl hz).mono fun e w' ⟨v, he, hc, hb⟩ => by
    have hc' := hc
    obtain ⟨cells, h1, _⟩ := hc'
    obtain ⟨g, cap, rfl, _, _⟩ := h1.form hn1
    exact ⟨g, cap, he, hc, hb⟩
end Go.Proofs.Ytjknmancnfeifaa
