/-
  The contract of the reference's CollectIn.
-/
import Derived.Test.YtjknmancnfeifaaColM
import Derived.Deep.RegionHeld3
import Derived.Deep.RegionLaw
import Derived.Test.YtjknmancnfeifaaStep
namespace Go.Proofs.Ytjknmancnfeifaa
open Go.ChangeShapes Go.WideShapes Go.ChangeAt Go.RowKit Go.Shelf
attribute [local go_sem ↓] Go.wp_at_zero Go.wp_at_succ

theorem RF.drew {w : World} {k : IntKind} {A : Option Addr} {n : Nat} {f : Nat → Int} (h : RF w w.heap.size k A n f) : RF w.drew w.drew.heap.size k A n f := h
/-- The first k results as cells. -/
def cellsF (F : Nat → Int) (k : Nat) : List Value := (List.range k).map fun j => Value.int .i32 (F j)
theorem cellsF_succ (F : Nat → Int) (k : Nat) : cellsF F (k + 1) = cellsF F k ++ [.int .i32 (F k)] := by simp [cellsF, List.range_succ]
/-- The box of the result: a slice and an error. -/
def Two (w : World) (b : Nat) (v : Value) : Prop := w.heap[b]? = some (.cells #[v, .int .i64 0] 55 (0, 0))
theorem Two.c0 {w : World} {b : Nat} {v : Value} (h : Two w b v) : w.cell? ⟨b, 0, none⟩ = some v := by unfold Two at h; simp [World.cell?, h]
theorem Two.c1 {w : World} {b : Nat} {v : Value} (h : Two w b v) : w.cell? ⟨b, 1, none⟩ = some (.int .i64 0) := by unfold Two at h; simp [World.cell?, h]
theorem Two.free {w : World} {b i : Nat} {v : Value} (h : Two w b v) : w.frozen? ⟨b, i, none⟩ = false := by unfold Two at h; simp [World.frozen?, h]
theorem Two.lt {w : World} {b : Nat} {v : Value} (h : Two w b v) : b < w.heap.size := lt_of_block h
theorem Two.set {w : World} {b : Nat} {v : Value} (h : Two w b v) (u : Value) : Two (w.setCell ⟨b, 0, none⟩ u) b u := by
  unfold Two at h ⊢
  simp [World.setCell, Array.getElem?_modify, h]
theorem Two.kept {w w' : World} {row : Option Nat} {b : Nat} {v : Value} (h : Two w b v) (hg : w.grownBy w' row) (hr : some b ≠ row) : Two w' b v := (hg.block b h.lt hr).trans h
theorem Two.new (w : World) (v : Value) : Two (w.alloc (.cells #[v, .int .i64 0] 55)) w.heap.size v := heap_alloc_new _ _
theorem Two.step {w w1 : World} {b : Nat} {v : Value} {o : Obj} {row : Option Nat} (h : Two w b v) (hg : (w.alloc o).drew.grownBy w1 row) (hr : some b ≠ row) : Two w1 b v :=
  Two.kept (w := (w.alloc o).drew) ((Below.heap_alloc w o b h.lt).trans h) hg hr
theorem Two.far {w : World} {b : Nat} {v : Value} (h : Two w b v) {p : Addr} (hp : b ≠ p.block) (u : Value) : Two (w.setCell p u) b v := (Below.heap_setCell w p u b hp).trans h
theorem Two.on {w w' : World} {b : Nat} {v : Value} (h : Two w b v) (hb : Below w.heap.size w w') : Two w' b v := (hb.block b h.lt).trans h
theorem Two.not_row {w : World} {b base k : Nat} {v u : Value} {xs : List Value} (h : Two w b u) (hr : w.ownsRow base 21 1 v k xs) : some b ≠ v.ownBlock := by
  rcases hr.2 with ⟨rfl, _⟩ | ⟨g', cap, cur, rfl, _, hgb, _⟩
  · simp [Value.ownBlock]
  · intro e'
    obtain rfl : b = g' := by simpa [Value.ownBlock] using e'
    unfold Two at h
    rw [h] at hgb
    simp at hgb

set_option maxRecDepth 100000 in
set_option maxHeartbeats 4000000 in
theorem CollectIn_yes (op : Int) (n c c' : Nat) (A A' : Option Addr) (f x : Nat → Int) (w : World) (ho1 : 1 ≤ op) (ho6 : op ≤ 6) (h1 : 1 ≤ n) (hn : n ≤ 32) (hr : RF w w.heap.size .i32 A n f) (hx : RF w w.heap.size .i32 A' n x) (hxi : ∀ j, I32 (x j)) :
    Calls Try.prog 19 #[.int .i64 op, .slice A n c, .slice A' n c'] w fun e w' => ∃ R cR, e = .returned (.agg #[.slice R n cR, .int .i64 0]) ∧ RF w' w'.heap.size .i32 R n (colV op n f x) ∧ Below w.heap.size w w' := by
  obtain ⟨i0, hi, hz0, hz1, hz2⟩ := info_parts info21
  have HO : Hid (∀ (k : Nat) (W : World), k < n → RF W W.heap.size .i32 A n f → RF W W.heap.size .i32 A' n x → Calls Try.prog 36 #[.int .i64 op, .int .i64 k, .slice A n c, .slice A' n c'] W fun e w' => e = .returned (.int .i32 (colV op n f x k)) ∧ W = w') := Lib.hid fun k W hk h2 h3 => by
    have := one_any op k n c c' A A' f x W ho1 ho6 hk hn h2 h3 (hxi k)
    rw [← col_one op n f x ho1 ho6 k hk] at this; exact this
  have HR := Lib.hid hr
  have HX := Lib.hid hx
  clear hr hx hxi
  go_enter Try.func19, Try.ntmps19
  go_wp2
  go_loopw [8] (fun i wr => ∃ (k : Nat) (v : Value), k ≤ n ∧ i = .int .i64 k ∧ Two wr w.heap.size (.slice none 0 0) ∧ Two wr (w.heap.size + 1) v ∧ wr.ownsRow (w.heap.size + 2) 21 1 v k (cellsF (colV op n f x) k) ∧ Below w.heap.size w wr) (fun i _ => n - (intOf i).toNat)
  case atStart => exact ⟨0, _, Nat.zero_le _, rfl, (Two.new w _).on ((Below.refl _ _).alloc (Nat.le_refl _) _), by have := Two.new (w.alloc (.cells #[.slice none 0 0, .int .i64 0] 55)) (.slice none 0 0); rw [World.size_alloc] at this; exact this, World.ownsRow_nil _ _ _ _, ((Below.refl _ _).alloc (Nat.le_refl _) _).alloc (by simp) _⟩
  case round =>
    obtain ⟨k, v, hk, rfl, hbox, htwo, hown, hbel⟩ := hrel
    by_cases hlt : k < n
    · have hc0 := htwo.c0
      have hsz := htwo.lt
      have hnr := htwo.not_row hown
      have hnr0 := hbox.not_row hown
      have HB0 := Lib.hid hbox
      clear hbox
      have HOO := Lib.hid (HO.out k wr.drew hlt (RF.drew (HR.out.on hbel)) (RF.drew (HX.out.on hbel)))
      have HL := Lib.hid hbel
      have HT := Lib.hid htwo
      have HW := Lib.hid hown
      clear hbel htwo hown
      go_wp2
      go_region_law ((first
        | (refine step_call rfl 36 _ _ (by rfl) (enters_of Try.func36 (by kernel_rfl) rfl) [.int .i64 op, .int .i64 k, .slice A n c, .slice A' n c'] (by rfl) (fun u w' => u = .int .i32 (colV op n f x k) ∧ wr.drew = w') (HOO.out.mono fun e w' he => ⟨_, he.1, rfl, he.2⟩) ?_; rintro u w' ⟨rfl, rfl⟩)
        | (refine step_append_lies _ (by rfl) _ _ _ (by rfl) (w.heap.size + 2) 21 i0 _ 1 4 Try.underlying25 hi hz0 hz1 hz2 rfl (by omega) v k (cellsF (colV op n f x) k) (by rfl) ((HW.out.alloc _).drew) ⟨wr.heap.size, 0, none⟩ 1 1 [.int .i32 (colV op n f x k)] (by rfl) (by rfl) (World.news_of_block (cs := #[.int .i32 (colV op n f x k)]) (t := 21) (fr := (0, 0)) (heap_alloc_new wr _)) (by simp [Value.oneCell']) (by omega) (by unfold maxLen; omega) (by omega) (by simp; omega) (wr.heap.size + 1) (by simp) ?_; intro gg cap w1 hown1 hgrow hat hltg; have ht1 := HT.out.step hgrow hnr; have hcc := ht1.c0; have hff := ht1.free (i := 0); have HT1 := Lib.hid ht1; have HB1 := Lib.hid (HB0.out.step hgrow hnr0); have HG1 := Lib.hid hgrow; have HO1 := Lib.hid hown1; clear ht1 hgrow hown1 hat)))
      all_goals
        go_wp2
        go_roundw
        case rel =>
          refine ⟨k + 1, _, by omega, by go_num, HB1.out.far (by simp) _, HT1.out.set _, ?_, ?_⟩
          · rw [cellsF_succ]
            exact ownsRow_setCell_other HO1.out (fun e => (HT1.out.not_row HO1.out) e.symm) _
          · exact ((HL.out.alloc (by omega) _).drew.grown HG1.out (by simp; omega) (fun j hj => by have := (HW.out.lt j hj).1; omega)).setCell (by simp) _
        case measure => simp [intOf]; omega
    · obtain rfl : k = n := by omega
      obtain ⟨g, cap, rfl, hg, hlt2⟩ := hown.form (by omega)
      have hRF : RF wr wr.heap.size .i32 (some ⟨g, 0, none⟩) k (colV op k f x) := fun _ => ⟨g, 0, rfl, hlt2, fun j hj => by
        rw [Nat.zero_add, hown.cellAt j (by omega)]
        simp [cellsF, hj]⟩
      have hc0 := htwo.c0
      have hc1 := htwo.c1
      have d0 := hbox.c0
      have d1 := hbox.c1
      have f0 := hbox.free (i := 0)
      have f1 := hbox.free (i := 1)
      have hne : ¬ w.heap.size = w.heap.size + 1 := by omega
      have HF := Lib.hid hRF
      have HB := Lib.hid hbel
      have HT := Lib.hid hbox
      have hz := hbox.lt
      clear hRF hbel hbox htwo hown HO HR HX
      go_wp2
      refine bodyPost_ret (v := .agg #[.slice (some ⟨g, 0, none⟩) k cap, .int .i64 0]) (by simp [results, Try.results19, go_sem, d0, d1, f0, f1]) rfl ⟨_, _, rfl, ?_, ?_⟩
      · exact ((HF.out.far (p := ⟨w.heap.size, 0, none⟩) (by simp; omega) _).far (p := ⟨w.heap.size, 1, none⟩) (by simp; omega) _).more (by simp [World.setCell])
      · exact (HB.out.setCell (by simp) _).setCell (by simp) _
end Go.Proofs.Ytjknmancnfeifaa
