/-
  Contracts of slices.Repeat (one element), slices.Chunk, living, Living.
-/
import Derived.Test.YtjknmancnfeifaaMem
import Derived.Test.YtjknmancnfeifaaShelf
import Derived.Laws.CopyOwn
import Derived.Deep.RegionLaw
import Derived.Deep.DrawnRows
import Derived.Deep.QuietTactic
import Derived.BigQuiet
import Derived.Outline
set_option linter.unusedVariables false
set_option linter.unusedSimpArgs false
namespace Go.Proofs.Ytjknmancnfeifaa
open Go.ChangeShapes Go.WideShapes Go.ChangeAt Go.RowKit

/-- The row of Repeat when k elements are laid. -/
def repL (v : Int) (m k : Nat) : List Value := List.replicate k (.int .i64 v) ++ List.replicate (m - k) (.int .i64 0)
theorem repL_len {v : Int} {m k : Nat} (h : k ≤ m) : (repL v m k).length = m := by simp [repL]; omega

theorem Mul_1m (m : Nat) (hm : m ≤ 65536) (w : World) : Calls Try.prog 56 #[.int .u64 1, .int .u64 m] w fun e w' => e = .returned (.tuple #[.int .u64 0, .int .u64 m]) ∧ w = w' :=
  (Try.bits_Mul 1 m (by omega) (by omega) w).mono fun e w' ⟨he, hw⟩ => by
    rw [show 1 * m / 18446744073709551616 = 0 by omega, show 1 * m % 18446744073709551616 = m by omega] at he
    exact ⟨he, hw.symm⟩
theorem rep_next {v : Int} {m k : Nat} (hk : k ≤ m) : splice (repL v m k) k (List.replicate (min k (m - k)) (.int .i64 v)) = repL v m (k + min k (m - k)) := by
  unfold splice repL
  rw [List.take_left' (by simp), List.drop_append, List.drop_of_length_le (by simp)]
  simp only [List.length_replicate, List.nil_append, List.drop_replicate]
  rw [← List.append_assoc, List.replicate_append_replicate]
  congr 2
  omega
/-- A copy of q elements behind the first k. -/
theorem copy_q {w W : World} {v : Int} {m k q L0 : Nat} (hW : W.heap[w.heap.size]? = some (.cells (repL v m k).toArray 3 (0, 0))) (hb : Below w.heap.size w W) (a : Addr) (sLen sCap dLen dCap : Nat)
    (hq : q = min sLen dLen) (hkq : k + q ≤ m) (hL : (repL v m k).length = L0) (hm : L0 = m) (hsrc : ∀ j, j < q → W.cell? (a.add j) = some (.int .i64 v)) (hsp : splice (repL v m k) k (List.replicate q (.int .i64 v)) = repL v m (k + q)) :
    ∃ w1, (Builtin.copy_ #[49, 49] 3 #[.slice (some ⟨w.heap.size, k, none⟩) dLen dCap, .slice (some a) sLen sCap]).run Try.prog W = .ok (.int .i64 q) w1 ∧ w1.heap[w.heap.size]? = some (.cells (repL v m (k + q)).toArray 3 (0, 0)) ∧ Below w.heap.size w w1 := by
  obtain ⟨cs, hcs⟩ : ∃ cs, cs = List.replicate q (Value.int .i64 v) := ⟨_, rfl⟩
  have hlen : cs.length = q := by rw [hcs]; simp
  have hrun := run_copy_row (P := Try.prog) W 49 49 3 3 w.heap.size k dLen dCap a sLen sCap (repL v m k).toArray 3 cs Try.underlying49 (by kernel_rfl) hW (by rw [hlen]; exact hq)
    (fun j u hj => by
      have hlt : j < q := by
        rcases Nat.lt_or_ge j q with h | h
        · exact h
        · rw [List.getElem?_eq_none (by omega)] at hj; cases hj
      rw [hcs, List.getElem?_replicate, if_pos hlt] at hj
      cases hj
      exact hsrc j hlt)
    (by rw [hlen]; simp only [List.size_toArray]; omega) (by rw [hcs]; intro u hu; rw [List.eq_of_mem_replicate hu]; rfl)
  rw [hlen] at hrun
  refine ⟨_, hrun, ?_, below_setRow hb (Nat.le_refl _) _⟩
  rw [setRow_heap W w.heap.size _ _ 3 (0, 0) hW, ← hsp]
  unfold splice
  rw [← hcs, hlen, List.append_assoc]
theorem rep_first {v : Int} {m : Nat} : splice (repL v m 0) 0 (List.replicate 1 (.int .i64 v)) = repL v m (0 + 1) := by
  simp [splice, repL]
set_option maxRecDepth 100000 in
set_option maxHeartbeats 1000000 in
theorem Repeat_any (v : Int) (m c g0 : Nat) (w : World) (h1 : 1 ≤ m) (hm : m ≤ 65536) (hg0 : g0 < w.heap.size) (hc : w.cell? ⟨g0, 0, none⟩ = some (.int .i64 v)) :
    Calls Try.prog 49 #[.slice (some ⟨g0, 0, none⟩) 1 c, .int .i64 m] w fun e w' => ∃ g, e = .returned (.slice (some ⟨g, 0, none⟩) m m) ∧ w'.heap[g]? = some (.cells (repL v m m).toArray 3 (0, 0)) ∧ w.heap.size ≤ g ∧ Below w.heap.size w w' := by
  have hmk := fun W => run_make_row' (P := Try.prog) 49 3 (.int .i64 0) 8 Try.underlying49 info3 rfl .i64 .i64 m (by omega) (by omega) W
  have hmade : madeCells #[Value.int .i64 0] m = (repL v m 0).toArray := by
    rw [← Array.toList_inj]
    rw [toList_madeCells_one]; simp [repL]
  rw [hmade] at hmk
  obtain ⟨w1, hcp, hrow1, hbel1⟩ := copy_q (w := w) (W := w.alloc (.cells (repL v m 0).toArray 3)) (v := v) (m := m) (k := 0) (q := 1) (heap_alloc_new _ _) ((Below.refl _ _).alloc (Nat.le_refl _) _) ⟨g0, 0, none⟩ 1 c m m (by omega) (by omega) (repL_len (by omega)) rfl
    (fun j hj => by
      obtain rfl : j = 0 := by omega
      show (w.alloc _).cell? ⟨g0, 0, none⟩ = _
      rw [World.cell?_alloc_lt _ _ _ (by exact hg0)]; exact hc) rep_first
  have HR := Lib.hid hrow1
  have HL := Lib.hid hbel1
  have h2 : (m : Int) ≤ 65536 := by omega
  clear hc hmade hrow1 hbel1
  go_enter Try.func49, Try.ntmps49
  go_wp2_with (go_at_call 56; refine (Mul_1m m hm _).mono ?_; rintro e w1 ⟨rfl, rfl⟩)
  go_loopw [8] (fun i wr => ∃ k : Nat, 1 ≤ k ∧ k ≤ m ∧ i = .int .i64 k ∧ wr.heap[w.heap.size]? = some (.cells (repL v m k).toArray 3 (0, 0)) ∧ Below w.heap.size w wr) (fun i _ => m - (intOf i).toNat)
  case atStart => exact ⟨1, Nat.le_refl _, h1, rfl, HR.out, HL.out⟩
  case round =>
    obtain ⟨k, hk1, hk, rfl, hrow, hbel⟩ := hrel
    clear hcp
    by_cases hlt : k < m
    · obtain ⟨q, hq⟩ : ∃ q, q = min k (m - k) := ⟨_, rfl⟩
      have hq1 : 1 ≤ q := by omega
      have hq2 : k + q ≤ m := by omega
      obtain ⟨w4, hcp, hrow4, hbel4⟩ := copy_q (w := w) (W := wr.drew) (v := v) (m := m) (k := k) (q := q) hrow hbel.drew ⟨w.heap.size, 0, none⟩ k m (m - k) (m - k) hq hq2 (repL_len hk) rfl
        (fun j hj => by
          have : (⟨w.heap.size, 0, none⟩ : Addr).add j = ⟨w.heap.size, j, none⟩ := by unfold Addr.add; split <;> simp_all
          rw [this]
          show wr.cell? _ = _
          rw [cell_of_row wr w.heap.size j _ 3 (0, 0) hrow]
          simp [repL, List.getElem?_append, show j < k by omega]) (by rw [hq]; exact rep_next hk)
      have HR1 := Lib.hid hrow4
      have HL1 := Lib.hid hbel4
      have hne : ¬ m = k := by omega
      clear hrow hbel hrow4 hbel4 hq
      go_wp2
      go_region
      all_goals
        go_wp2
        go_roundw
        case rel => exact ⟨k + q, by omega, by omega, by go_num, HR1.out, HL1.out⟩
        case measure => simp [intOf]; omega
    · obtain rfl : k = m := by omega
      have HR1 := Lib.hid hrow
      have HL1 := Lib.hid hbel
      clear hrow hbel
      go_wp2
      go_ret
      exact ⟨_, rfl, HR1.out, Nat.le_refl _, HL1.out⟩
end Go.Proofs.Ytjknmancnfeifaa
