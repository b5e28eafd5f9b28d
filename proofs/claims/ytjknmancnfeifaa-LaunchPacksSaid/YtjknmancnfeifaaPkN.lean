/-
  The reference's PackIn where it refuses; pack and PackIn for all arguments.
-/
import Derived.Test.YtjknmancnfeifaaPkI
import Derived.Test.YtjknmancnfeifaaSame
set_option linter.unusedVariables false
set_option linter.unusedSimpArgs false
namespace Go.Proofs.Ytjknmancnfeifaa
open Go.ChangeShapes Go.WideShapes Go.ChangeAt Go.RowKit Go.Shelf

theorem Living_none {m : Nat} {d : Int} (W : World) (hm : m ≤ 64) (hd0 : 0 ≤ d) (hd : d < 18446744073709551616) (hlv : livL d m = []) :
    Calls Try.prog 39 #[.int .i64 m, .int .u64 d] W fun e w' => ∃ A c, e = .returned (.slice A 0 c) ∧ Below W.heap.size W w' :=
  (Living_any m d W hd0 hd).mono fun e w' ⟨v, he, hown, hb⟩ => by
    have hmm : lanesN (m : Int) = m := by unfold lanesN; omega
    rw [hmm, hlv] at hown
    rcases hown.2 with ⟨rfl, _⟩ | ⟨g, cap, cur, rfl, _⟩
    · exact ⟨_, _, he, hb⟩
    · exact ⟨_, _, he, hb⟩
set_option maxRecDepth 100000 in
set_option maxHeartbeats 2000000 in
theorem PackIn_no (L : Int) (d : Int) (len cap : Nat) (A : Option Addr) (w : World) (hd0 : 0 ≤ d) (hd : d < 18446744073709551616) (h : ¬ packOk L d) :
    Calls Try.prog 23 #[.slice A len cap, .int .i64 L, .int .u64 d] w fun e w' => e = .returned (.agg #[.slice none 0 0, .int .i64 1]) ∧ Below w.heap.size w w' := by
  have hcs : L < 1 ∨ 64 < L ∨ (1 ≤ L ∧ L ≤ 64 ∧ livL d L.toNat = []) := by
    unfold packOk at h
    by_cases h1 : L < 1
    · exact .inl h1
    · by_cases h2 : 64 < L
      · exact .inr (.inl h2)
      · refine .inr (.inr ⟨by omega, by omega, ?_⟩)
        exact Classical.byContradiction fun hn => h ⟨by omega, by omega, hn⟩
  clear h
  rcases hcs with h | h | ⟨h1, h2, h⟩
  · have HL := Lib.hid fun W => Living_any L d W hd0 hd
    go_enter Try.func23, Try.ntmps23
    go_wp2_with (go_at_call 39; (with_reducible refine (HL.out _).mono ?_); rintro e w1 ⟨v, rfl, _, hb⟩; obtain ⟨hc, hf⟩ := bcell hb; have hz : w.heap.size < w1.heap.size := (by have := hb.size; simp at this; omega); have HB := Lib.hid hb; clear hb)
    exact bodyPost_ret (v := .agg #[.slice none 0 0, .int .i64 1]) (by simp [results, Try.results23, go_sem, hc]) rfl ⟨rfl, ((((Below.refl _ _).alloc (Nat.le_refl _) _).trans (HB.out.mono (by simp))).setCell (by simp) _).setCell (by simp) _⟩
  · have HL := Lib.hid fun W => Living_any L d W hd0 hd
    go_enter Try.func23, Try.ntmps23
    go_wp2_with (go_at_call 39; (with_reducible refine (HL.out _).mono ?_); rintro e w1 ⟨v, rfl, _, hb⟩; obtain ⟨hc, hf⟩ := bcell hb; have hz : w.heap.size < w1.heap.size := (by have := hb.size; simp at this; omega); have HB := Lib.hid hb; clear hb)
    exact bodyPost_ret (v := .agg #[.slice none 0 0, .int .i64 1]) (by simp [results, Try.results23, go_sem, hc]) rfl ⟨rfl, ((((Below.refl _ _).alloc (Nat.le_refl _) _).trans (HB.out.mono (by simp))).setCell (by simp) _).setCell (by simp) _⟩
  · obtain ⟨m, rfl⟩ : ∃ m : Nat, L = m := ⟨L.toNat, by omega⟩
    rw [Int.toNat_natCast] at h
    have HL := Lib.hid fun W => Living_none W (m := m) (by omega) hd0 hd h
    clear h
    go_enter Try.func23, Try.ntmps23
    go_wp2_with (go_at_call 39; (with_reducible refine (HL.out _).mono ?_); rintro e w1 ⟨A1, c1, rfl, hb⟩; obtain ⟨hc, hf⟩ := bcell hb; have hz : w.heap.size < w1.heap.size := (by have := hb.size; simp at this; omega); have HB := Lib.hid hb; clear hb)
    exact bodyPost_ret (v := .agg #[.slice none 0 0, .int .i64 1]) (by simp [results, Try.results23, go_sem, hc]) rfl ⟨rfl, ((((Below.refl _ _).alloc (Nat.le_refl _) _).trans (HB.out.mono (by simp))).setCell (by simp) _).setCell (by simp) _⟩

open Classical in
/-- How many warps, and the error. -/
noncomputable def pkN (L d : Int) (n : Nat) : Nat := if packOk L d then chN n (livL d L.toNat).length else 0
open Classical in
noncomputable def pkE (L d : Int) : Int := if packOk L d then 0 else 1
theorem pkN_le (L d : Int) (n : Nat) : pkN L d n ≤ n + 64 := by
  unfold pkN
  split
  · rename_i h
    have h1 := livL_len d L.toNat
    have h2 : chN n (livL d L.toNat).length ≤ n + (livL d L.toNat).length - 1 := Nat.div_le_self _ _
    have := h.2.1
    omega
  · omega
theorem pack_all (L d : Int) (n c : Nat) (A : Option Addr) (f : Nat → Int) (w : World) (hd0 : 0 ≤ d) (hd : d < 18446744073709551616) (hn : n ≤ 65536) (hc : n ≤ c) (hr : RF w w.heap.size .i64 A n f) :
    Calls Try.prog 22 #[.slice A n c, .int .i64 L, .int .u64 d] w fun e w' => ∃ A' c', e = .returned (.agg #[.slice A' (pkN L d n) c', .int .i64 (pkE L d)]) ∧ RW w' w'.heap.size .i64 A' (pkN L d n) (fun _ => L.toNat) (warpF (livL d L.toNat) n f) ∧ Below w.heap.size w w' := by
  by_cases h : packOk L d
  · simp only [pkN, pkE, if_pos h]
    obtain ⟨m, rfl⟩ : ∃ m : Nat, L = m := ⟨L.toNat, by have := h.1; omega⟩
    have h1 := h.1
    have h2 := h.2.1
    have h3 := h.2.2
    rw [Int.toNat_natCast] at h3 ⊢
    exact pack_yes m d n c A f w (by omega) (by omega) hd0 hd hn hc hr h3
  · simp only [pkN, pkE, if_neg h]
    exact (pack_no L d n c A w hd0 hd h).mono fun e w' ⟨he, hb⟩ => ⟨_, _, he, RW.zero _ _ _ _ _ _, hb⟩
theorem PackIn_all (L d : Int) (n c : Nat) (A : Option Addr) (f : Nat → Int) (w : World) (hd0 : 0 ≤ d) (hd : d < 18446744073709551616) (hn : n ≤ 65536) (hr : RF w w.heap.size .i64 A n f) :
    Calls Try.prog 23 #[.slice A n c, .int .i64 L, .int .u64 d] w fun e w' => ∃ A' c', e = .returned (.agg #[.slice A' (pkN L d n) c', .int .i64 (pkE L d)]) ∧ RW w' w'.heap.size .i64 A' (pkN L d n) (fun _ => L.toNat) (warpF (livL d L.toNat) n f) ∧ Below w.heap.size w w' := by
  by_cases h : packOk L d
  · simp only [pkN, pkE, if_pos h]
    obtain ⟨m, rfl⟩ : ∃ m : Nat, L = m := ⟨L.toNat, by have := h.1; omega⟩
    have h1 := h.1
    have h2 := h.2.1
    have h3 := h.2.2
    rw [Int.toNat_natCast] at h3 ⊢
    exact PackIn_yes m d n c A f w (by omega) (by omega) hd0 hd hn hr h3
  · simp only [pkN, pkE, if_neg h]
    exact (PackIn_no L d n c A w hd0 hd h).mono fun e w' ⟨he, hb⟩ => ⟨_, _, he, RW.zero _ _ _ _ _ _, hb⟩
/-- A list of numbers from 0 on. -/
theorem own_reads {w : World} {base k : Nat} {v : Value} (h : w.ownsRow base 3 1 v k (cellsN (List.range k))) : ∃ A c, v = .slice A k c ∧ k ≤ c ∧ RF w w.heap.size .i64 A k (fun q => (q : Int)) := by
  rcases h.2 with ⟨rfl, h0⟩ | ⟨g, cap, cur, rfl, hg, hgb, hle, _⟩
  · subst h0
    exact ⟨none, 0, rfl, Nat.le_refl _, RF.zero _ _ _ _ _⟩
  · refine ⟨_, _, rfl, hle, fun hk => ⟨g, 0, rfl, lt_of_block hgb, fun j hj => ?_⟩⟩
    rw [Nat.zero_add, h.cellAt j (by omega)]
    simp [cellsN, hj]
theorem and63 (L : Int) : ∃ m : Nat, m ≤ 63 ∧ bits BinOp.and IntKind.i64 L 63 = m := by
  have h : bits BinOp.and IntKind.i64 L 63 = IntKind.i64.wrap ((BitVec.ofInt 64 L &&& BitVec.ofInt 64 63).toNat : Int) := rfl
  have h2 : (BitVec.ofInt 64 L &&& BitVec.ofInt 64 63).toNat ≤ 63 := by rw [BitVec.toNat_and]; exact Nat.and_le_right
  refine ⟨_, h2, ?_⟩
  rw [h]
  exact IntWalk.i64_in _ (by omega)
end Go.Proofs.Ytjknmancnfeifaa
