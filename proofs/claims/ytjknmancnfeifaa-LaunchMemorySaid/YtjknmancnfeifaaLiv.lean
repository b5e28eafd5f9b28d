/-
  Contracts of living and Living: the lanes that are alive, in order.
-/
import Derived.Test.YtjknmancnfeifaaMem
import Derived.Deep.RegionLaw
import Derived.Deep.DrawnRows
import Derived.Deep.QuietTactic
import Derived.BigQuiet
import Derived.Outline
set_option linter.unusedVariables false
set_option linter.unusedSimpArgs false
namespace Go.Proofs.Ytjknmancnfeifaa
open Go.ChangeShapes Go.WideShapes Go.ChangeAt Go.RowKit

/-- Lane i is alive, in the program's own words. -/
def alive (d : Int) (i : Nat) : Bool := bits BinOp.and IntKind.u64 (d / 2 ^ i) 1 == 0
def livL (d : Int) (k : Nat) : List Nat := (List.range k).filter (alive d)
theorem livL_succ_yes {d : Int} {k : Nat} (h : alive d k = true) : livL d (k + 1) = livL d k ++ [k] := by simp [livL, List.range_succ, List.filter_append, h]
theorem livL_succ_no {d : Int} {k : Nat} (h : alive d k = false) : livL d (k + 1) = livL d k := by simp [livL, List.range_succ, List.filter_append, h]
theorem livL_len (d : Int) (k : Nat) : (livL d k).length ≤ k := by simpa [livL] using List.length_filter_le (alive d) (List.range k)
/-- A list of numbers as cells. -/
def cellsN (l : List Nat) : List Value := l.map fun x : Nat => Value.int .i64 (x : Int)
theorem cellsN_snoc (l : List Nat) (k : Nat) : cellsN (l ++ [k]) = cellsN l ++ [.int .i64 (k : Int)] := by simp [cellsN]

set_option maxRecDepth 100000 in
set_option maxHeartbeats 800000 in
theorem living_any (n : Nat) (d : Int) (w : World) (hn : n ≤ 64) (hd0 : 0 ≤ d) (hd : d < 18446744073709551616) :
    Calls Try.prog 47 #[.int .i64 n, .int .u64 d] w fun e w' => ∃ v, e = .returned v ∧ w'.ownsRow w.heap.size 3 1 v (livL d n).length (cellsN (livL d n)) ∧ Below w.heap.size w w' := by
  obtain ⟨i0, hi, hz0, hz1, hz2⟩ := info_parts info3
  go_enter Try.func47, Try.ntmps47
  go_wp2
  go_loopw [5, 8] (fun v i wr => ∃ k : Nat, k ≤ n ∧ i = .int .i64 k ∧ wr.ownsRow w.heap.size 3 1 v (livL d k).length (cellsN (livL d k)) ∧ Below w.heap.size w wr) (fun _ i _ => n - (intOf i).toNat)
  case atStart => exact ⟨0, Nat.zero_le _, rfl, World.ownsRow_nil _ _ _ _, Below.refl _ _⟩
  case round =>
    obtain ⟨k, hk, rfl, hown, hbel⟩ := hrel
    have hl := livL_len d k
    by_cases hlt : k < n
    · have hk2 : (k : Int) < 64 := by omega
      by_cases ha : alive d k = true
      · have ha2 : (bits BinOp.and IntKind.u64 (d / 2 ^ k) 1 == 0) = true := ha
        have hs := Lib.hid (livL_succ_yes ha)
        have HL := Lib.hid hbel
        have hz := hbel.size
        clear hbel ha
        go_wp2_with (at_builtin; refine wpList_append_own_at _ rfl _ _ 49 rfl w.heap.size 3 i0 (.int .i64 0) 1 8 Try.underlying49 hi hz0 hz1 hz2 rfl (by decide) _ _ _ rfl (hown.alloc _) ⟨wr.heap.size, 0, none⟩ 1 1 [.int .i64 (k : Int)] rfl rfl (cell_one_new _ _ _) (by simp [Value.oneCell']) (by unfold maxLen; omega) (by omega) (by simp; omega) ?_; intro v' w1 hown1 hgrow _ hat)
        go_roundw
        case rel => exact ⟨k + 1, by omega, by go_num, by rw [hs.out, cellsN_snoc, List.length_append]; exact hown1, (HL.out.alloc hz _).grown hgrow (by simp; omega) (fun j hj => (hown.lt j hj).1)⟩
        case measure => simp [intOf]; omega
      · have ha2 : (bits BinOp.and IntKind.u64 (d / 2 ^ k) 1 == 0) = false := by simpa [alive] using ha
        have hs := Lib.hid (livL_succ_no (d := d) (k := k) (by simpa using ha))
        have HL := Lib.hid hbel
        have HO := Lib.hid hown
        clear hbel ha hown
        go_wp2
        go_roundw
        case rel => exact ⟨k + 1, by omega, by go_num, by rw [hs.out]; exact HO.out, HL.out⟩
        case measure => simp [intOf]; omega
    · obtain rfl : k = n := by omega
      have HL := Lib.hid hbel
      have HO := Lib.hid hown
      clear hbel hown
      go_wp2
      go_ret
      exact ⟨_, rfl, HO.out, HL.out⟩
/-- How many lanes Living looks at. -/
def lanesN (L : Int) : Nat := (min L 64).toNat
theorem lanesN_le (L : Int) : lanesN L ≤ 64 := by unfold lanesN; omega
set_option maxRecDepth 100000 in
set_option maxHeartbeats 1600000 in
theorem Living_any (L : Int) (d : Int) (w : World) (hd0 : 0 ≤ d) (hd : d < 18446744073709551616) :
    Calls Try.prog 39 #[.int .i64 L, .int .u64 d] w fun e w' => ∃ v, e = .returned v ∧ w'.ownsRow w.heap.size 3 1 v (livL d (lanesN L)).length (cellsN (livL d (lanesN L))) ∧ Below w.heap.size w w' := by
  obtain ⟨i0, hi, hz0, hz1, hz2⟩ := info_parts info3
  have hN := lanesN_le L
  have hN2 : ∀ k : Nat, k < lanesN L ↔ ((k : Int) < L ∧ (k : Int) < 64) := fun k => by unfold lanesN; omega
  have HN := Lib.hid hN2
  clear hN2
  go_enter Try.func39, Try.ntmps39
  go_wp2
  go_loopw [5, 6] (fun v i wr => ∃ k : Nat, k ≤ lanesN L ∧ i = .int .i64 k ∧ wr.ownsRow w.heap.size 3 1 v (livL d k).length (cellsN (livL d k)) ∧ Below w.heap.size w wr) (fun _ i _ => lanesN L - (intOf i).toNat)
  case atStart => exact ⟨0, Nat.zero_le _, rfl, World.ownsRow_lit _ #[] 0 (Nat.le_refl _) (by unfold maxLen; omega) rfl, (Below.refl _ _).alloc (Nat.le_refl _) _⟩
  case round =>
    obtain ⟨k, hk, rfl, hown, hbel⟩ := hrel
    have hl := livL_len d k
    by_cases hlt : k < lanesN L
    · obtain ⟨hk1, hk2⟩ := (HN.out k).1 hlt
      by_cases ha : alive d k = true
      · have ha2 : (bits BinOp.and IntKind.u64 (d / 2 ^ k) 1 == 0) = true := ha
        have hs := Lib.hid (livL_succ_yes ha)
        have HL := Lib.hid hbel
        have hz := hbel.size
        clear hbel ha
        go_wp2_with (at_builtin; refine wpList_append_own_at _ rfl _ _ 49 rfl w.heap.size 3 i0 (.int .i64 0) 1 8 Try.underlying49 hi hz0 hz1 hz2 rfl (by decide) _ _ _ rfl (hown.alloc _) ⟨wr.heap.size, 0, none⟩ 1 1 [.int .i64 (k : Int)] rfl rfl (cell_one_new _ _ _) (by simp [Value.oneCell']) (by unfold maxLen; omega) (by omega) (by simp; omega) ?_; intro v' w1 hown1 hgrow _ hat)
        go_roundw
        case rel => exact ⟨k + 1, by omega, by go_num, by rw [hs.out, cellsN_snoc, List.length_append]; exact hown1, (HL.out.alloc hz _).grown hgrow (by simp; omega) (fun j hj => (hown.lt j hj).1)⟩
        case measure => simp [intOf]; omega
      · have ha2 : (bits BinOp.and IntKind.u64 (d / 2 ^ k) 1 == 0) = false := by simpa [alive] using ha
        have hs := Lib.hid (livL_succ_no (d := d) (k := k) (by simpa using ha))
        have HL := Lib.hid hbel
        have HO := Lib.hid hown
        clear hbel ha hown
        go_wp2
        go_roundw
        case rel => exact ⟨k + 1, by omega, by go_num, by rw [hs.out]; exact HO.out, HL.out⟩
        case measure => simp [intOf]; omega
    · have hke : k = lanesN L := by omega
      have hno : ¬ ((k : Int) < L ∧ (k : Int) < 64) := fun h => hlt ((HN.out k).2 h)
      have HL := Lib.hid hbel
      have HO := Lib.hid hown
      have HK := Lib.hid hke
      clear hbel hown hke hlt
      by_cases hk1 : (k : Int) < L
      · have hk2 : ¬ (k : Int) < 64 := fun h => hno ⟨hk1, h⟩
        clear hno
        go_wp2
        go_ret
        exact ⟨_, rfl, by rw [← HK.out]; exact HO.out, HL.out⟩
      · clear hno
        go_wp2
        go_ret
        exact ⟨_, rfl, by rw [← HK.out]; exact HO.out, HL.out⟩
end Go.Proofs.Ytjknmancnfeifaa
