/-
  Contracts of scan, same, shuffle, Collect.
-/
import Derived.Test.YtjknmancnfeifaaColA
set_option linter.unusedVariables false
set_option linter.unusedSimpArgs false
namespace Go.Proofs.Ytjknmancnfeifaa
open Go.ChangeShapes Go.WideShapes Go.ChangeAt Go.RowKit

/-- The running value when k items are done. -/
def stV (op : Int) (f : Nat → Int) : Nat → Int
  | 0 => initV op
  | k + 1 => stepV op k (stV op f k) (f k)
/-- The row of results when k rounds are over. -/
def rowK (F : Nat → Int) (k : Nat) : Nat → Value := fun j => if j < k then .int .i32 (F j) else .int .i32 0
theorem rowK_zero (F : Nat → Int) : rowK F 0 = fun _ => .int .i32 0 := by funext j; simp [rowK]
theorem rowK_succ (F : Nat → Int) (k : Nat) : (fun j => if j = k then .int .i32 (F k) else rowK F k j) = rowK F (k + 1) := by
  funext j
  unfold rowK
  by_cases h : j = k
  · subst h; simp
  · simp only [if_neg h]
    by_cases h2 : j < k
    · rw [if_pos h2, if_pos (by omega)]
    · rw [if_neg h2, if_neg (by omega)]
theorem rowK_set {w : World} {g n : Nat} {F : Nat → Int} {k : Nat} (h : w.rowIs g 21 n (rowK F k)) : (w.setCell ⟨g, k, none⟩ (.int .i32 (F k))).rowIs g 21 n (rowK F (k + 1)) := by
  have := h.set k (.int .i32 (F k))
  rw [rowK_succ] at this; exact this

set_option maxRecDepth 100000 in
theorem scan_50 (op : Int) (hop : fnOf op = 50) (n c b : Nat) (A : Option Addr) (f : Nat → Int) (w : World) (h1 : 1 ≤ n) (hn : n ≤ 32) (hr : RF w b .i32 A n f) (hb : One w b (initV op)) :
    Calls Try.prog 43 #[.slice A n c, .func (.func 50) #[] #[.pointer (some ⟨b, 0, none⟩)]] w fun e w' => ∃ g, e = .returned (.slice (some ⟨g, 0, none⟩) n n) ∧ w'.rowIs g 21 n (rowK (fun j => stV op f (j + 1)) n) ∧ w.heap.size ≤ g ∧ Below b w w' := by
  obtain ⟨bv, off, rfl, hbv, hc⟩ := hr (by omega)
  have hmk := fun W => run_make_row' (P := Try.prog) 25 21 (.int .i32 0) 4 Try.underlying25 info21 rfl .i64 .i64 n (by omega) (by omega) W
  have HC := Lib.hid hc
  have HF : Hid (∀ (i : Nat) (a s : Int) (W : World), i < 32 → One W b s → Calls Try.prog 50 #[.int .i64 i, .int .i32 a, .pointer (some ⟨b, 0, none⟩)] W fun e w' => e = .returned (.int .i32 (stepV op i s a)) ∧ One w' b (stepV op i s a) ∧ W.grownBy w' (some b)) := Lib.hid (fun i a s W hi h => by have := clo_on (op := op) (i := i) (a := a) (s := s) hi h; rw [hop] at this; exact this)
  clear hop
  have HB := Lib.hid hb
  have hlt := hb.lt
  clear hc hb hr
  go_enter Try.func43, Try.ntmps43
  go_wp2
  go_loopw [13] (fun i wr => ∃ k : Nat, k ≤ n ∧ i = .int .i64 k ∧ wr.rowIs w.heap.size 21 n (rowK (fun j => stV op f (j + 1)) k) ∧ One wr b (stV op f k) ∧ Below b w wr) (fun i _ => n - (intOf i).toNat)
  case atStart => exact ⟨0, Nat.zero_le _, rfl, by rw [rowK_zero]; exact World.rowIs_made _ _ _ _, HB.out.kept (World.grownBy_alloc _ _ none) (by simp), (Below.refl _ _).alloc (by omega) _⟩
  case round =>
    obtain ⟨k, hk, rfl, hrow, hone, hbel⟩ := hrel
    by_cases hlt2 : k < n
    · have hcv : wr.cell? ⟨bv, off + k, none⟩ = some (.int .i32 (f k)) := (hbel.cell (p := ⟨bv, off + k, none⟩) hbv).trans (HC.out k hlt2)
      have HR := Lib.hid hrow
      have HO := Lib.hid hone
      have HL := Lib.hid hbel
      clear hrow hone hbel
      go_wp2_with (go_at_call 50; refine (HF.out k (f k) (stV op f k) _ (by omega) HO.out).mono ?_; rintro e w1 ⟨rfl, ho1, hg1⟩; have hr1 := rowIs_kept HR.out hg1 (by simp; omega); have hcs := hr1.cell hlt2; have hfs := hr1.frozen k; have HR1 := Lib.hid hr1; have HO1 := Lib.hid ho1; have HG1 := Lib.hid hg1; clear hr1 ho1 hg1)
      go_roundw
      case rel => exact ⟨k + 1, by omega, by go_num, rowK_set HR1.out, HO1.out.far (by simp; omega) _, (HL.out.grown HG1.out (by have := HL.out.size; omega) (fun _ e => by cases e; omega)).setCell (by simp; omega) _⟩
      case measure => simp [intOf]; omega
    · obtain rfl : k = n := by omega
      have HR := Lib.hid hrow
      have HL := Lib.hid hbel
      clear hrow hone hbel
      go_wp2
      go_ret
      exact ⟨_, rfl, HR.out, Nat.le_refl _, HL.out⟩
set_option maxRecDepth 100000 in
theorem scan_52 (op : Int) (hop : fnOf op = 52) (n c b : Nat) (A : Option Addr) (f : Nat → Int) (w : World) (h1 : 1 ≤ n) (hn : n ≤ 32) (hr : RF w b .i32 A n f) (hb : One w b (initV op)) :
    Calls Try.prog 43 #[.slice A n c, .func (.func 52) #[] #[.pointer (some ⟨b, 0, none⟩)]] w fun e w' => ∃ g, e = .returned (.slice (some ⟨g, 0, none⟩) n n) ∧ w'.rowIs g 21 n (rowK (fun j => stV op f (j + 1)) n) ∧ w.heap.size ≤ g ∧ Below b w w' := by
  obtain ⟨bv, off, rfl, hbv, hc⟩ := hr (by omega)
  have hmk := fun W => run_make_row' (P := Try.prog) 25 21 (.int .i32 0) 4 Try.underlying25 info21 rfl .i64 .i64 n (by omega) (by omega) W
  have HC := Lib.hid hc
  have HF : Hid (∀ (i : Nat) (a s : Int) (W : World), i < 32 → One W b s → Calls Try.prog 52 #[.int .i64 i, .int .i32 a, .pointer (some ⟨b, 0, none⟩)] W fun e w' => e = .returned (.int .i32 (stepV op i s a)) ∧ One w' b (stepV op i s a) ∧ W.grownBy w' (some b)) := Lib.hid (fun i a s W hi h => by have := clo_on (op := op) (i := i) (a := a) (s := s) hi h; rw [hop] at this; exact this)
  clear hop
  have HB := Lib.hid hb
  have hlt := hb.lt
  clear hc hb hr
  go_enter Try.func43, Try.ntmps43
  go_wp2
  go_loopw [13] (fun i wr => ∃ k : Nat, k ≤ n ∧ i = .int .i64 k ∧ wr.rowIs w.heap.size 21 n (rowK (fun j => stV op f (j + 1)) k) ∧ One wr b (stV op f k) ∧ Below b w wr) (fun i _ => n - (intOf i).toNat)
  case atStart => exact ⟨0, Nat.zero_le _, rfl, by rw [rowK_zero]; exact World.rowIs_made _ _ _ _, HB.out.kept (World.grownBy_alloc _ _ none) (by simp), (Below.refl _ _).alloc (by omega) _⟩
  case round =>
    obtain ⟨k, hk, rfl, hrow, hone, hbel⟩ := hrel
    by_cases hlt2 : k < n
    · have hcv : wr.cell? ⟨bv, off + k, none⟩ = some (.int .i32 (f k)) := (hbel.cell (p := ⟨bv, off + k, none⟩) hbv).trans (HC.out k hlt2)
      have HR := Lib.hid hrow
      have HO := Lib.hid hone
      have HL := Lib.hid hbel
      clear hrow hone hbel
      go_wp2_with (go_at_call 52; refine (HF.out k (f k) (stV op f k) _ (by omega) HO.out).mono ?_; rintro e w1 ⟨rfl, ho1, hg1⟩; have hr1 := rowIs_kept HR.out hg1 (by simp; omega); have hcs := hr1.cell hlt2; have hfs := hr1.frozen k; have HR1 := Lib.hid hr1; have HO1 := Lib.hid ho1; have HG1 := Lib.hid hg1; clear hr1 ho1 hg1)
      go_roundw
      case rel => exact ⟨k + 1, by omega, by go_num, rowK_set HR1.out, HO1.out.far (by simp; omega) _, (HL.out.grown HG1.out (by have := HL.out.size; omega) (fun _ e => by cases e; omega)).setCell (by simp; omega) _⟩
      case measure => simp [intOf]; omega
    · obtain rfl : k = n := by omega
      have HR := Lib.hid hrow
      have HL := Lib.hid hbel
      clear hrow hone hbel
      go_wp2
      go_ret
      exact ⟨_, rfl, HR.out, Nat.le_refl _, HL.out⟩
set_option maxRecDepth 100000 in
theorem scan_53 (op : Int) (hop : fnOf op = 53) (n c b : Nat) (A : Option Addr) (f : Nat → Int) (w : World) (h1 : 1 ≤ n) (hn : n ≤ 32) (hr : RF w b .i32 A n f) (hb : One w b (initV op)) :
    Calls Try.prog 43 #[.slice A n c, .func (.func 53) #[] #[.pointer (some ⟨b, 0, none⟩)]] w fun e w' => ∃ g, e = .returned (.slice (some ⟨g, 0, none⟩) n n) ∧ w'.rowIs g 21 n (rowK (fun j => stV op f (j + 1)) n) ∧ w.heap.size ≤ g ∧ Below b w w' := by
  obtain ⟨bv, off, rfl, hbv, hc⟩ := hr (by omega)
  have hmk := fun W => run_make_row' (P := Try.prog) 25 21 (.int .i32 0) 4 Try.underlying25 info21 rfl .i64 .i64 n (by omega) (by omega) W
  have HC := Lib.hid hc
  have HF : Hid (∀ (i : Nat) (a s : Int) (W : World), i < 32 → One W b s → Calls Try.prog 53 #[.int .i64 i, .int .i32 a, .pointer (some ⟨b, 0, none⟩)] W fun e w' => e = .returned (.int .i32 (stepV op i s a)) ∧ One w' b (stepV op i s a) ∧ W.grownBy w' (some b)) := Lib.hid (fun i a s W hi h => by have := clo_on (op := op) (i := i) (a := a) (s := s) hi h; rw [hop] at this; exact this)
  clear hop
  have HB := Lib.hid hb
  have hlt := hb.lt
  clear hc hb hr
  go_enter Try.func43, Try.ntmps43
  go_wp2
  go_loopw [13] (fun i wr => ∃ k : Nat, k ≤ n ∧ i = .int .i64 k ∧ wr.rowIs w.heap.size 21 n (rowK (fun j => stV op f (j + 1)) k) ∧ One wr b (stV op f k) ∧ Below b w wr) (fun i _ => n - (intOf i).toNat)
  case atStart => exact ⟨0, Nat.zero_le _, rfl, by rw [rowK_zero]; exact World.rowIs_made _ _ _ _, HB.out.kept (World.grownBy_alloc _ _ none) (by simp), (Below.refl _ _).alloc (by omega) _⟩
  case round =>
    obtain ⟨k, hk, rfl, hrow, hone, hbel⟩ := hrel
    by_cases hlt2 : k < n
    · have hcv : wr.cell? ⟨bv, off + k, none⟩ = some (.int .i32 (f k)) := (hbel.cell (p := ⟨bv, off + k, none⟩) hbv).trans (HC.out k hlt2)
      have HR := Lib.hid hrow
      have HO := Lib.hid hone
      have HL := Lib.hid hbel
      clear hrow hone hbel
      go_wp2_with (go_at_call 53; refine (HF.out k (f k) (stV op f k) _ (by omega) HO.out).mono ?_; rintro e w1 ⟨rfl, ho1, hg1⟩; have hr1 := rowIs_kept HR.out hg1 (by simp; omega); have hcs := hr1.cell hlt2; have hfs := hr1.frozen k; have HR1 := Lib.hid hr1; have HO1 := Lib.hid ho1; have HG1 := Lib.hid hg1; clear hr1 ho1 hg1)
      go_roundw
      case rel => exact ⟨k + 1, by omega, by go_num, rowK_set HR1.out, HO1.out.far (by simp; omega) _, (HL.out.grown HG1.out (by have := HL.out.size; omega) (fun _ e => by cases e; omega)).setCell (by simp; omega) _⟩
      case measure => simp [intOf]; omega
    · obtain rfl : k = n := by omega
      have HR := Lib.hid hrow
      have HL := Lib.hid hbel
      clear hrow hone hbel
      go_wp2
      go_ret
      exact ⟨_, rfl, HR.out, Nat.le_refl _, HL.out⟩
set_option maxRecDepth 100000 in
theorem scan_54 (op : Int) (hop : fnOf op = 54) (n c b : Nat) (A : Option Addr) (f : Nat → Int) (w : World) (h1 : 1 ≤ n) (hn : n ≤ 32) (hr : RF w b .i32 A n f) (hb : One w b (initV op)) :
    Calls Try.prog 43 #[.slice A n c, .func (.func 54) #[] #[.pointer (some ⟨b, 0, none⟩)]] w fun e w' => ∃ g, e = .returned (.slice (some ⟨g, 0, none⟩) n n) ∧ w'.rowIs g 21 n (rowK (fun j => stV op f (j + 1)) n) ∧ w.heap.size ≤ g ∧ Below b w w' := by
  obtain ⟨bv, off, rfl, hbv, hc⟩ := hr (by omega)
  have hmk := fun W => run_make_row' (P := Try.prog) 25 21 (.int .i32 0) 4 Try.underlying25 info21 rfl .i64 .i64 n (by omega) (by omega) W
  have HC := Lib.hid hc
  have HF : Hid (∀ (i : Nat) (a s : Int) (W : World), i < 32 → One W b s → Calls Try.prog 54 #[.int .i64 i, .int .i32 a, .pointer (some ⟨b, 0, none⟩)] W fun e w' => e = .returned (.int .i32 (stepV op i s a)) ∧ One w' b (stepV op i s a) ∧ W.grownBy w' (some b)) := Lib.hid (fun i a s W hi h => by have := clo_on (op := op) (i := i) (a := a) (s := s) hi h; rw [hop] at this; exact this)
  clear hop
  have HB := Lib.hid hb
  have hlt := hb.lt
  clear hc hb hr
  go_enter Try.func43, Try.ntmps43
  go_wp2
  go_loopw [13] (fun i wr => ∃ k : Nat, k ≤ n ∧ i = .int .i64 k ∧ wr.rowIs w.heap.size 21 n (rowK (fun j => stV op f (j + 1)) k) ∧ One wr b (stV op f k) ∧ Below b w wr) (fun i _ => n - (intOf i).toNat)
  case atStart => exact ⟨0, Nat.zero_le _, rfl, by rw [rowK_zero]; exact World.rowIs_made _ _ _ _, HB.out.kept (World.grownBy_alloc _ _ none) (by simp), (Below.refl _ _).alloc (by omega) _⟩
  case round =>
    obtain ⟨k, hk, rfl, hrow, hone, hbel⟩ := hrel
    by_cases hlt2 : k < n
    · have hcv : wr.cell? ⟨bv, off + k, none⟩ = some (.int .i32 (f k)) := (hbel.cell (p := ⟨bv, off + k, none⟩) hbv).trans (HC.out k hlt2)
      have HR := Lib.hid hrow
      have HO := Lib.hid hone
      have HL := Lib.hid hbel
      clear hrow hone hbel
      go_wp2_with (go_at_call 54; refine (HF.out k (f k) (stV op f k) _ (by omega) HO.out).mono ?_; rintro e w1 ⟨rfl, ho1, hg1⟩; have hr1 := rowIs_kept HR.out hg1 (by simp; omega); have hcs := hr1.cell hlt2; have hfs := hr1.frozen k; have HR1 := Lib.hid hr1; have HO1 := Lib.hid ho1; have HG1 := Lib.hid hg1; clear hr1 ho1 hg1)
      go_roundw
      case rel => exact ⟨k + 1, by omega, by go_num, rowK_set HR1.out, HO1.out.far (by simp; omega) _, (HL.out.grown HG1.out (by have := HL.out.size; omega) (fun _ e => by cases e; omega)).setCell (by simp; omega) _⟩
      case measure => simp [intOf]; omega
    · obtain rfl : k = n := by omega
      have HR := Lib.hid hrow
      have HL := Lib.hid hbel
      clear hrow hone hbel
      go_wp2
      go_ret
      exact ⟨_, rfl, HR.out, Nat.le_refl _, HL.out⟩
theorem scan_any (op : Int) (n c b : Nat) (A : Option Addr) (f : Nat → Int) (w : World) (h1 : 1 ≤ n) (hn : n ≤ 32) (hr : RF w b .i32 A n f) (hb : One w b (initV op)) :
    Calls Try.prog 43 #[.slice A n c, .func (.func (fnOf op)) #[] #[.pointer (some ⟨b, 0, none⟩)]] w fun e w' => ∃ g, e = .returned (.slice (some ⟨g, 0, none⟩) n n) ∧ w'.rowIs g 21 n (rowK (fun j => stV op f (j + 1)) n) ∧ w.heap.size ≤ g ∧ Below b w w' := by
  have h : fnOf op = 50 ∨ fnOf op = 52 ∨ fnOf op = 53 ∨ fnOf op = 54 := by unfold fnOf; split <;> (try split) <;> (try split) <;> simp
  rcases h with h | h | h | h <;> rw [h]
  · exact scan_50 op h n c b A f w h1 hn hr hb
  · exact scan_52 op h n c b A f w h1 hn hr hb
  · exact scan_53 op h n c b A f w h1 hn hr hb
  · exact scan_54 op h n c b A f w h1 hn hr hb
end Go.Proofs.Ytjknmancnfeifaa
