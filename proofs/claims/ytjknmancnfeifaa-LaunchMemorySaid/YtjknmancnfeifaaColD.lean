/-
  Contracts of Collect, collect, SameWords, is.
-/
import Derived.Test.YtjknmancnfeifaaColC
set_option linter.unusedVariables false
set_option linter.unusedSimpArgs false
namespace Go.Proofs.Ytjknmancnfeifaa
open Go.ChangeShapes Go.WideShapes Go.ChangeAt Go.RowKit

/-- The results of an operation of a subgroup. -/
def colV (op : Int) (n : Nat) (f x : Nat → Int) : Nat → Int := fun j => if op = 4 then f (shI n (x j)) else if op = 5 then stV op f (j + 1) else stV op f n
theorem rowK_RF {w : World} {g n : Nat} {F : Nat → Int} (h : w.rowIs g 21 n (rowK F n)) : RF w w.heap.size .i32 (some ⟨g, 0, none⟩) n F :=
  RF.of_row h (Nat.le_refl _) (fun j hj => by unfold rowK; rw [if_pos hj]) h.lt
theorem rowS_RF {w : World} {g n : Nat} {F : Nat → Int} {v : Int} (h : w.rowIs g 21 n (rowS F v n)) : RF w w.heap.size .i32 (some ⟨g, 0, none⟩) n (fun _ => v) :=
  RF.of_row h (Nat.le_refl _) (fun j hj => by unfold rowS; rw [if_pos hj]) h.lt

set_option maxRecDepth 100000 in
theorem Collect_yes (op : Int) (n c c' : Nat) (A A' : Option Addr) (f x : Nat → Int) (w : World) (ho1 : 1 ≤ op) (ho6 : op ≤ 6) (h1 : 1 ≤ n) (hn : n ≤ 32) (hr : RF w w.heap.size .i32 A n f) (hx : RF w w.heap.size .i32 A' n x) :
    Calls Try.prog 35 #[.int .i64 op, .slice A n c, .slice A' n c'] w fun e w' => ∃ g, e = .returned (.tuple #[.slice (some ⟨g, 0, none⟩) n n, .int .i64 0]) ∧ RF w' w'.heap.size .i32 (some ⟨g, 0, none⟩) n (colV op n f x) ∧ w.heap.size ≤ g ∧ Below w.heap.size w w' := by
  by_cases h4 : op = 4
  · subst h4
    have HS := Lib.hid (shuffle_any n c c' A A' f x w h1 hn hr hx)
    clear hr hx ho1 ho6
    go_enter Try.func35, Try.ntmps35
    go_wp2_with (go_at_call 42; refine HS.out.mono ?_; rintro e w1 ⟨g, rfl, hrow, hg, hbel⟩; have HR := Lib.hid hrow; have HL := Lib.hid hbel; clear hrow hbel)
    go_ret2
    exact ⟨_, rfl, (rowK_RF HR.out).congr fun j _ => by unfold colV; rw [if_pos rfl], hg, HL.out⟩
  · have h4' : (op == 4) = false := by simpa using h4
    have hb : One (w.alloc (.cells #[.int .i32 (initV op)] 21)) w.heap.size (initV op) := heap_alloc_new _ _
    have hrA : RF (w.alloc (.cells #[.int .i32 (initV op)] 21)) w.heap.size .i32 A n f := hr.below ((Below.refl _ _).alloc (Nat.le_refl _) _)
    by_cases h5 : op = 5
    · subst h5
      have HS := Lib.hid (scan_any 5 n c w.heap.size A f _ h1 hn hrA hb)
      clear hr hx ho1 ho6 h4 hb hrA
      go_enter Try.func35, Try.ntmps35
      go_wp2_with (first | (go_at_call 44; refine (running_any _ _).mono ?_; rintro e w1 ⟨rfl, rfl⟩) | (go_at_call 43; refine HS.out.mono ?_; rintro e w1 ⟨g, rfl, hrow, hg, hbel⟩; have HR := Lib.hid hrow; have HL := Lib.hid hbel; clear hrow hbel))
      go_ret2
      exact ⟨_, rfl, (rowK_RF HR.out).congr fun j _ => by unfold colV; rw [if_neg (by omega), if_pos rfl], (by have := hg; simp at this; omega), ((Below.refl _ _).alloc (Nat.le_refl _) _).trans HL.out⟩
    · have h5' : (op == 5) = false := by simpa using h5
      have HS := Lib.hid (same_any op n c w.heap.size A f _ h1 hn hrA hb)
      have H4 := Lib.hid h4
      have H5 := Lib.hid h5
      clear hr hx h4 h5 hb hrA
      go_enter Try.func35, Try.ntmps35
      go_wp2_with (first | (go_at_call 44; refine (running_any _ _).mono ?_; rintro e w1 ⟨rfl, rfl⟩) | (go_at_call 45; refine HS.out.mono ?_; rintro e w1 ⟨g, rfl, hrow, hg, hbel⟩; have HR := Lib.hid hrow; have HL := Lib.hid hbel; clear hrow hbel))
      go_ret2
      exact ⟨_, rfl, (rowS_RF HR.out).congr fun j _ => by unfold colV; rw [if_neg H4.out, if_neg H5.out], (by have := hg; simp at this; omega), ((Below.refl _ _).alloc (Nat.le_refl _) _).trans HL.out⟩

def colOk (op : Int) (n m : Nat) : Prop := 1 ≤ op ∧ op ≤ 6 ∧ n = m ∧ 1 ≤ n ∧ n ≤ 32
instance (op : Int) (n m : Nat) : Decidable (colOk op n m) := by unfold colOk; exact inferInstance

set_option maxRecDepth 100000 in
theorem Collect_no (op : Int) (n m c c' : Nat) (A A' : Option Addr) (w : World) (h : ¬ colOk op n m) :
    Calls Try.prog 35 #[.int .i64 op, .slice A n c, .slice A' m c'] w fun e w' => e = .returned (.tuple #[.slice none 0 0, .int .i64 1]) ∧ w = w' := by
  have hcs : op < 1 ∨ 6 < op ∨ (1 ≤ op ∧ op ≤ 6 ∧ n ≠ m) ∨ (1 ≤ op ∧ op ≤ 6 ∧ n = m ∧ n < 1) ∨ (1 ≤ op ∧ op ≤ 6 ∧ n = m ∧ 32 < n) := by unfold colOk at h; omega
  clear h
  rcases hcs with h | h | ⟨h1, h6, h⟩ | ⟨h1, h6, rfl, h⟩ | ⟨h1, h6, rfl, h⟩
  · go_enter Try.func35, Try.ntmps35
    go_wp2
    go_ret2
    exact ⟨rfl, rfl⟩
  · go_enter Try.func35, Try.ntmps35
    go_wp2
    go_ret2
    exact ⟨rfl, rfl⟩
  · have hne : ((n : Int) != (m : Int)) = true := by simpa using (by omega : ¬ (n : Int) = m)
    have hne2 : (n == m) = false := by simpa using h
    clear h
    go_enter Try.func35, Try.ntmps35
    go_wp2
    go_ret2
    exact ⟨rfl, rfl⟩
  · obtain rfl : n = 0 := by omega
    go_enter Try.func35, Try.ntmps35
    go_wp2
    go_ret2
    exact ⟨rfl, rfl⟩
  · go_enter Try.func35, Try.ntmps35
    go_wp2
    go_ret2
    exact ⟨rfl, rfl⟩

set_option maxRecDepth 100000 in
theorem SameWords_true (n c c' : Nat) (A A' : Option Addr) (f g : Nat → Int) (w : World) (hn : n ≤ 65536) (hr : RF w w.heap.size .i32 A n f) (hx : RF w w.heap.size .i32 A' n g) (h : ∀ j, j < n → f j = g j) :
    Calls Try.prog 20 #[.slice A n c, .slice A' n c'] w fun e w' => e = .returned (.bool true) ∧ ∃ d, w' = w.drewN d := by
  have HR := Lib.hid hr
  have HX := Lib.hid hx
  have HE := Lib.hid h
  clear hr hx h
  go_enter Try.func20, Try.ntmps20
  go_wp2
  go_loopw [5] (fun i wr => ∃ k d : Nat, k ≤ n ∧ i = .int .i64 k ∧ wr = w.drewN d) (fun i _ => n - (intOf i).toNat)
  case atStart => exact ⟨0, 0, Nat.zero_le _, rfl, rfl⟩
  case round =>
    obtain ⟨k, d, hk, rfl, rfl⟩ := hrel
    by_cases hlt : k < n
    · obtain ⟨b, off, rfl, hb, hc⟩ := HR.out.at_ hlt
      obtain ⟨b', off', rfl, hb', hc'⟩ := HX.out.at_ hlt
      rw [← HE.out k hlt] at hc'
      go_wp2
      go_quiet (fail)
      go_wp2
      go_roundw
      case rel => exact ⟨k + 1, _, by omega, by go_num, rfl⟩
      case measure => simp [intOf]; omega
    · obtain rfl : k = n := by omega
      go_wp2
      go_ret
      exact ⟨rfl, _, rfl⟩

theorem collect_yes (op : Int) (n c c' : Nat) (A A' : Option Addr) (f x : Nat → Int) (w : World) (ho1 : 1 ≤ op) (ho6 : op ≤ 6) (h1 : 1 ≤ n) (hn : n ≤ 32) (hr : RF w w.heap.size .i32 A n f) (hx : RF w w.heap.size .i32 A' n x) :
    Calls Try.prog 18 #[.int .i64 op, .slice A n c, .slice A' n c'] w fun e w' => ∃ g, e = .returned (.agg #[.slice (some ⟨g, 0, none⟩) n n, .int .i64 0]) ∧ RF w' w'.heap.size .i32 (some ⟨g, 0, none⟩) n (colV op n f x) ∧ w.heap.size < g ∧ Below w.heap.size w w' := by
  have hal : ∀ o, Below w.heap.size w (w.alloc o) := fun o => (Below.refl _ _).alloc (Nat.le_refl _) o
  have HS := fun o => Collect_yes op n c c' A A' f x (w.alloc o) ho1 ho6 h1 hn (hr.on (hal o)) (hx.on (hal o))
  have HH := Lib.hid HS
  clear HS hr hx hal
  go_enter Try.func18, Try.ntmps18
  go_wp2_with (go_at_call 35; refine (HH.out _).mono ?_; rintro e w1 ⟨g, rfl, hR, hg, hb⟩; obtain ⟨hc, hf⟩ := bcell hb; have hz : w.heap.size < w1.heap.size := (by have := hb.size; simp at this; omega); have hgz : w.heap.size < g := (by simp at hg; omega); have HB := Lib.hid hb; have HRR := Lib.hid hR; clear hb hR hg)
  refine bodyPost_ret (v := .agg #[.slice (some ⟨g, 0, none⟩) n n, .int .i64 0]) (by simp [results, Try.results18, go_sem, hc]) rfl ⟨g, rfl, ?_, hgz, ?_⟩
  · have := (HRR.out.far (p := ⟨w.heap.size, 0, none⟩) (by simp; omega) (.slice (some ⟨g, 0, none⟩) n n)).far (p := ⟨w.heap.size, 1, none⟩) (by simp; omega) (.int .i64 0)
    exact this.more (by simp [World.setCell])
  · exact ((((Below.refl _ _).alloc (Nat.le_refl _) _).trans (HB.out.mono (by simp))).setCell (by simp) _).setCell (by simp) _
theorem collect_no (op : Int) (n m c c' : Nat) (A A' : Option Addr) (w : World) (h : ¬ colOk op n m) :
    Calls Try.prog 18 #[.int .i64 op, .slice A n c, .slice A' m c'] w fun e w' => e = .returned (.agg #[.slice none 0 0, .int .i64 1]) ∧ Below w.heap.size w w' := by
  go_enter Try.func18, Try.ntmps18
  go_wp2_with (go_at_call 35; refine (Collect_no op n m c c' A A' _ h).mono ?_; rintro e w1 ⟨rfl, rfl⟩)
  exact bodyPost_ret (v := .agg #[.slice none 0 0, .int .i64 1]) (by simp [results, Try.results18, go_sem]) rfl ⟨rfl, (Below.refl _ _).alloc (Nat.le_refl _) _⟩

/-- is: the result is this list. -/
theorem is_true (n c c' : Nat) (A A' : Option Addr) (f g : Nat → Int) (w : World) (hn : n ≤ 65536) (hr : RF w w.heap.size .i32 A n f) (hx : RF w w.heap.size .i32 A' n g) (h : ∀ j, j < n → f j = g j) :
    Calls Try.prog 30 #[.agg #[.slice A n c, .int .i64 0], .slice A' n c'] w fun e w' => e = .returned (.bool true) ∧ Below w.heap.size w w' := by
  have hal : ∀ o, Below w.heap.size w (w.alloc o) := fun o => (Below.refl _ _).alloc (Nat.le_refl _) o
  have HS := fun o => SameWords_true n c c' A A' f g (w.alloc o) hn (hr.on (hal o)) (hx.on (hal o)) h
  have HH := Lib.hid HS
  clear HS hr hx hal h
  go_enter Try.func30, Try.ntmps30
  go_wp2_with (go_at_call 20; refine (HH.out _).mono ?_; rintro e w1 ⟨rfl, d, rfl⟩)
  go_ret
  exact ⟨rfl, below_drewN ((Below.refl _ _).alloc (Nat.le_refl _) _) _⟩
end Go.Proofs.Ytjknmancnfeifaa
