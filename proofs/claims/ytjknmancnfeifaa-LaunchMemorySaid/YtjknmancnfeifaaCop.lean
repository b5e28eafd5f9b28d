/-
  Contracts of the reference's Zero, Copy and Same.
-/
import Derived.Test.YtjknmancnfeifaaZer
import Derived.Test.YtjknmancnfeifaaNumL
import Derived.Laws.OwnMore
set_option linter.unusedVariables false
set_option linter.unusedSimpArgs false
namespace Go.Proofs.Ytjknmancnfeifaa
open Go.ChangeShapes Go.WideShapes Go.ChangeAt Go.RowKit

theorem newsZ (w : World) (o : Obj) (x : Value) (t : TypeId) : ((w.alloc o).alloc (.cells #[x] t)).heap[w.heap.size + 1]? = some (.cells #[x] t (0, 0)) := by
  have := heap_alloc_new (w.alloc o) (.cells #[x] t)
  rw [World.size_alloc] at this
  exact this
def zeros (q : Nat) : List Value := List.replicate q (.int .i32 0)
/-- k rows of zeros in blocks of the call's own. -/
def CJ (nb : Nat) (zl : Nat → Nat) (k : Nat) (v : Value) (W : World) : Prop :=
  ∃ cells, W.ownsRow nb 25 1 v k cells ∧ ∀ j, j < k → ∃ rv, cells[j]? = some rv ∧ W.ownsRow nb 21 1 rv (zl j) (zeros (zl j))
theorem own_ne {W : World} {b1 b2 s1 s2 k1 k2 : Nat} {r v : Value} {xs ys : List Value} (h : W.ownsRow b1 21 s1 r k1 xs) (h2 : W.ownsRow b2 25 s2 v k2 ys) : r.ownBlock = none ∨ r.ownBlock ≠ v.ownBlock := by
  rcases h.2 with ⟨rfl, _⟩ | ⟨g, cap, cur, rfl, _, hg, _⟩
  · exact .inl rfl
  · rcases h2.2 with ⟨rfl, _⟩ | ⟨g', cap', cur', rfl, _, hg', _⟩
    · exact .inr (by simp [Value.ownBlock])
    · refine .inr fun e => ?_
      obtain rfl : g = g' := by simpa [Value.ownBlock] using e
      rw [hg] at hg'
      simp at hg'
section
variable {nb k : Nat} {zl : Nat → Nat} {v v' rv : Value} {W W3 w1 : World} {cells : List Value}
theorem CJ.on {W' : World} (h : CJ nb zl k v W) (hb : Below W.heap.size W W') : CJ nb zl k v W' := by
  obtain ⟨cells, h1, h2⟩ := h
  refine ⟨cells, own_on h1 hb, fun j hj => ?_⟩
  obtain ⟨rv, e, ho⟩ := h2 j hj
  exact ⟨rv, e, own_on ho hb⟩
theorem CJ.snoc (h1 : W.ownsRow nb 25 1 v k cells) (h2 : ∀ j, j < k → ∃ rv, cells[j]? = some rv ∧ W.ownsRow nb 21 1 rv (zl j) (zeros (zl j))) (hb : Below W.heap.size W W3) (hr : W3.ownsRow nb 21 1 rv (zl k) (zeros (zl k)))
    (ho : w1.ownsRow nb 25 1 v' (k + 1) (cells ++ [rv])) (hg : W3.grownBy w1 v.ownBlock) : CJ nb zl (k + 1) v' w1 := by
  have hlen : cells.length = k := by have := h1.1; omega
  have h13 := own_on h1 hb
  refine ⟨_, ho, fun j hj => ?_⟩
  by_cases hjk : j < k
  · obtain ⟨r, e, hor⟩ := h2 j hjk
    have h3 := own_on hor hb
    exact ⟨r, by rw [List.getElem?_append_left (by omega)]; exact e, h3.kept hg (own_ne h3 h13)⟩
  · obtain rfl : j = k := by omega
    exact ⟨rv, by rw [List.getElem?_append_right (by omega), hlen]; simp, hr.kept hg (own_ne hr h13)⟩
theorem CJ.reads (h : CJ nb zl k v W) : ∃ A c, v = .slice A k c ∧ RW W W.heap.size .i32 A k zl (fun _ _ => 0) := by
  obtain ⟨cells, h1, h2⟩ := h
  rcases h1.2 with ⟨rfl, h0⟩ | ⟨g, cap, cur, rfl, _, hg, _⟩
  · subst h0
    exact ⟨none, 0, rfl, fun h => absurd h (by omega)⟩
  · refine ⟨_, _, rfl, fun _ => ⟨g, 0, rfl, lt_of_block hg, fun j hj => ?_⟩⟩
    obtain ⟨rv, e, hor⟩ := h2 j hj
    rw [Nat.zero_add, h1.cellAt j (by omega), e]
    rcases hor.2 with ⟨rfl, h0⟩ | ⟨g', cap', cur', rfl, _, hg', _⟩
    · exact ⟨none, 0, by rw [h0], fun h => absurd h (by omega)⟩
    · refine ⟨_, _, rfl, fun _ => ⟨g', 0, rfl, lt_of_block hg', fun i hi => ?_⟩⟩
      rw [Nat.zero_add, hor.cellAt i (by omega)]
      simp [zeros, hi]
end
theorem info25' : (Try.prog.info? 25).map (fun i => (i.zero, i.size, i.bytes)) = some (some (.slice none 0 0), 1, 24) := info25

set_option maxRecDepth 100000 in
set_option maxHeartbeats 4000000 in
theorem rZero_any (n c : Nat) (space : Int) (A : Option Addr) (sp ln : Nat → Int) (w : World) (hn : n ≤ 8) (hl : ∀ j, 0 ≤ ln j ∧ ln j ≤ 15) (hr : RA w w.heap.size A n sp ln) :
    Calls Try.prog 26 #[.slice A n c, .int .i64 space] w fun e w' => ∃ v, e = .returned v ∧ CJ w.heap.size (zlen sp ln space) n v w' ∧ Below w.heap.size w w' := by
  obtain ⟨i0, hi, hz0, hz1, hz2⟩ := info_parts info25
  have HR := Lib.hid hr
  have HQ := Lib.hid (fun (q : Nat) (hq : q ≤ 15) W => run_make_row' (P := Try.prog) 25 21 (.int .i32 0) 4 Try.underlying25 info21 rfl .i64 .i64 q (by omega) (by omega) W)
  have HLL := Lib.hid hl
  clear hr hl
  go_enter Try.func26, Try.ntmps26
  go_wp2
  go_loopw [5, 6] (fun v i wr => ∃ k : Nat, k ≤ n ∧ i = .int .i64 k ∧ CJ w.heap.size (zlen sp ln space) k v wr ∧ Below w.heap.size w wr) (fun _ i _ => n - (intOf i).toNat)
  case atStart => exact ⟨0, Nat.zero_le _, rfl, ⟨[], World.ownsRow_lit _ #[] 0 (Nat.le_refl _) (by unfold maxLen; omega) rfl, fun j hj => absurd hj (by omega)⟩, (Below.refl _ _).alloc (Nat.le_refl _) _⟩
  case round =>
    obtain ⟨k, hk, rfl, hcj, hbel⟩ := hrel
    by_cases hlt : k < n
    · obtain ⟨b, off, nm, ty, rfl, hb, k1, k2, k3, k4⟩ := (HR.out.below hbel).at_ hlt
      have hsz := hbel.size
      obtain ⟨l0, l1⟩ := HLL.out k
      have hwb : 0 ≤ wV (sp k) (ln k) space ∧ wV (sp k) (ln k) space ≤ 15 := by unfold wV; split <;> omega
      obtain ⟨q, hq⟩ : ∃ q : Nat, wV (sp k) (ln k) space = (q : Int) := ⟨(wV (sp k) (ln k) space).toNat, by omega⟩
      have hzl : zlen sp ln space k = q := by unfold zlen; rw [hq]; simp
      have HW := Lib.hid (fun W => rwords_any nm (sp k) ty (ln k) space W)
      rw [hq] at HW hwb
      obtain ⟨cells, h1, h2⟩ := hcj
      have HB := Lib.hid hbel
      have HL := Lib.hid hzl
      have H1 := Lib.hid h1
      have H2 := Lib.hid h2
      have hmq := HQ.out q (by omega)
      clear hbel hzl hq l0 l1 h1 h2
      go_wp2_with (first
        | (go_at_call 41; (with_reducible refine (HW.out _).mono ?_); rintro e w1 ⟨rfl, hb1⟩; have HB1 := Lib.hid hb1; have hs1 := hb1.size; have HO1 := Lib.hid (own_on H1.out hb1); clear hb1)
        | (at_builtin; refine wpList_append_own_at _ rfl _ _ 70 rfl w.heap.size 25 i0 (.slice none 0 0) 1 24 Try.underlying70 hi hz0 hz1 hz2 rfl (by decide) _ _ _ rfl ((HO1.out.alloc _).alloc _) ⟨w1.heap.size + 1, 0, none⟩ 1 1 [.slice (some ⟨w1.heap.size, 0, none⟩) q q] rfl rfl (World.news_of_block (cs := #[.slice (some ⟨w1.heap.size, 0, none⟩) q q]) (t := 25) (fr := (0, 0)) (newsZ w1 _ _ _)) (by simp [Value.oneCell']) (by unfold maxLen; omega) (by omega) (by simp; omega) ?_; intro v' w5 hown5 hgrow _ hat))
      have hbw : Below wr.heap.size wr ((w1.alloc (.cells (madeCells #[.int .i32 0] q) 21)).alloc (.cells #[.slice (some ⟨w1.heap.size, 0, none⟩) q q] 25)) := (HB1.out.alloc hs1 _).alloc (by simp; omega) _
      have hrow : ((w1.alloc (.cells (madeCells #[.int .i32 0] q) 21)).alloc (.cells #[.slice (some ⟨w1.heap.size, 0, none⟩) q q] 25)).ownsRow w.heap.size 21 1 (.slice (some ⟨w1.heap.size, 0, none⟩) q q) q (zeros q) := by
        have := World.ownsRow_lit (e := 21) (size := 1) w1 (madeCells #[.int .i32 0] q) q (base := w.heap.size) (by omega) (by unfold maxLen; omega) (by simp [madeCells])
        rw [toList_madeCells_one] at this
        exact this.alloc _
      go_roundw
      case rel => exact ⟨k + 1, by omega, by go_num, CJ.snoc H1.out H2.out hbw (by rw [HL.out]; exact hrow) hown5 hgrow, (HB.out.trans (hbw.mono hsz)).grown hgrow (by simp; omega) (fun j hj => (HO1.out.lt j hj).1)⟩
      case measure => simp [intOf]; omega
    · obtain rfl : k = n := by omega
      have HZ := Lib.hid hcj
      have HB := Lib.hid hbel
      clear hcj hbel
      go_wp2
      go_ret
      exact ⟨_, rfl, HZ.out, HB.out⟩
end Go.Proofs.Ytjknmancnfeifaa
