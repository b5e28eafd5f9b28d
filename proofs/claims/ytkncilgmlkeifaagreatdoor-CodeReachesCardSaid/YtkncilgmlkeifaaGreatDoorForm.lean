/-
  Package code: contracts of span at the pairs that occur, of instForm and endForm.
-/
import Derived.Test.YtkncilgmlkeifaaGreatDoorLim
set_option linter.unusedVariables false
set_option linter.unusedSimpArgs false
namespace Go.Proofs.YtkncilgmlkeifaaGreatDoor
open Go.ChangeShapes Go.WideShapes Go.ChangeAt Go.RowKit Go.Shelf

/-- The forms: the word's bytes, the set of Sub, the table, the operands, the targets. -/
structure FormV where
  word : Array UInt8
  subs : Int
  table : Int
  d : Bool
  a : Bool
  b : Bool
  c : Bool
  targets : Int
def FormV.val (f : FormV) : Value := .agg #[.string ⟨f.word⟩, .int .u32 f.subs, .int .i64 f.table, .bool f.d, .bool f.a, .bool f.b, .bool f.c, .int .i64 f.targets]
def noForm : FormV := ⟨#[], 0, 0, false, false, false, false, 0⟩
/-- The form of an instruction. -/
def instF (op : Int) : FormV :=
  if op = 1 then ⟨#[109, 111, 118], 0, 0, true, true, false, false, 0⟩ else if op = 2 then ⟨#[117, 110], 62, 0, true, true, false, false, 0⟩ else if op = 3 then ⟨#[98, 105, 110], 1073740800, 0, true, true, true, false, 0⟩
  else if op = 4 then ⟨#[115, 101, 108], 0, 0, true, true, true, true, 0⟩ else if op = 5 then ⟨#[105, 100], 254, 0, true, false, false, false, 0⟩ else if op = 6 then ⟨#[112, 97, 114, 97, 109], 0, 1, true, false, false, false, 0⟩
  else if op = 7 then ⟨#[108, 111, 97, 100], 0, 2, true, true, false, false, 0⟩ else if op = 8 then ⟨#[115, 116, 111, 114, 101], 0, 2, false, true, true, false, 0⟩ else if op = 9 then ⟨#[97, 116, 111, 109], 13501440, 3, false, true, true, false, 0⟩
  else if op = 10 then ⟨#[102, 101, 110, 99, 101], 6, 0, false, false, false, false, 0⟩ else if op = 11 then ⟨#[103, 101, 116], 0, 4, true, false, false, false, 0⟩ else if op = 12 then ⟨#[112, 117, 116], 0, 4, false, true, false, false, 0⟩ else noForm
/-- The form of an end of a block. -/
def endF (k : Int) : FormV :=
  if k = 1 then ⟨#[106, 117, 109, 112], 0, 0, false, false, false, false, 1⟩ else if k = 2 then ⟨#[98, 114, 97, 110, 99, 104], 0, 0, false, true, false, false, 2⟩ else if k = 3 then ⟨#[98, 97, 114, 114, 105, 101, 114], 0, 0, false, false, false, false, 1⟩
  else if k = 4 then ⟨#[99, 111, 108, 108, 101, 99, 116], 126, 0, true, true, true, false, 1⟩ else if k = 5 then ⟨#[101, 120, 105, 116], 0, 0, false, false, false, false, 0⟩ else noForm
theorem span_k (lo hi v : Int) (w : World) (h : (lo = 1 ∧ hi = 5 ∧ v = 62) ∨ (lo = 10 ∧ hi = 29 ∧ v = 1073740800) ∨ (lo = 1 ∧ hi = 7 ∧ v = 254) ∨ (lo = 1 ∧ hi = 2 ∧ v = 6) ∨ (lo = 1 ∧ hi = 6 ∧ v = 126)) :
    Calls Tryz.prog 101 #[.int .i64 lo, .int .i64 hi] w fun e w' => e = .returned (.int .u32 v) ∧ ∃ d, w' = w.drewN d := by
  rcases h with ⟨rfl, rfl, rfl⟩ | ⟨rfl, rfl, rfl⟩ | ⟨rfl, rfl, rfl⟩ | ⟨rfl, rfl, rfl⟩ | ⟨rfl, rfl, rfl⟩
  all_goals
    go_enter Tryz.func101, Tryz.ntmps101
    go_wp2
    go_quiet (fail)
    go_wp2
    go_ret
    exact ⟨rfl, _, rfl⟩
theorem below_drewN {B : Nat} {a w : World} (h : Below B a w) (n : Nat) : Below B a (w.drewN n) := ⟨h.os, h.tape, h.output, h.size, h.block⟩
theorem span_b (lo hi v : Int) (w : World) (h : (lo = 1 ∧ hi = 5 ∧ v = 62) ∨ (lo = 10 ∧ hi = 29 ∧ v = 1073740800) ∨ (lo = 1 ∧ hi = 7 ∧ v = 254) ∨ (lo = 1 ∧ hi = 2 ∧ v = 6) ∨ (lo = 1 ∧ hi = 6 ∧ v = 126)) :
    Calls Tryz.prog 101 #[.int .i64 lo, .int .i64 hi] w fun e w' => e = .returned (.int .u32 v) ∧ Below w.heap.size w w' :=
  (span_k lo hi v w h).mono fun e w' ⟨he, d, hd⟩ => ⟨he, by rw [hd]; exact below_drewN (Below.refl _ _) d⟩
set_option maxRecDepth 100000 in
set_option maxHeartbeats 1000000 in
theorem instForm_any (op : Int) (w : World) : Calls Tryz.prog 87 #[.int .i64 op] w fun e w' => e = .returned (instF op).val ∧ Below w.heap.size w w' := by
  have HS := Lib.hid (fun (lo hi v : Int) (W : World) h => span_b lo hi v W h)
  have hop : op = 1 ∨ op = 2 ∨ op = 3 ∨ op = 4 ∨ op = 5 ∨ op = 6 ∨ op = 7 ∨ op = 8 ∨ op = 9 ∨ op = 10 ∨ op = 11 ∨ op = 12 ∨ (op < 1 ∨ 12 < op) := by omega
  rcases hop with rfl | rfl | rfl | rfl | rfl | rfl | rfl | rfl | rfl | rfl | rfl | rfl | h
  · go_enter Tryz.func87, Tryz.ntmps87
    go_wp2
    exact bodyPost_ret (v := (instF 1).val) (by simp [results, Tryz.results87, go_sem, FormV.val, instF]) rfl ⟨rfl, (Below.refl _ _).alloc (Nat.le_refl _) _⟩
  · have H1 := Lib.hid (fun W => HS.out 1 5 62 W (by decide))
    go_enter Tryz.func87, Tryz.ntmps87
    go_wp2_with (go_at_call 101; (with_reducible refine (H1.out _).mono ?_); rintro e w1 ⟨rfl, hb⟩; obtain ⟨hc, hf⟩ := bcell hb; have hz : w.heap.size < w1.heap.size := (by have := hb.size; simp at this; omega); have HB := Lib.hid hb; clear hb)
    exact bodyPost_ret (v := (instF 2).val) (by simp [results, Tryz.results87, go_sem, FormV.val, instF, hc]) rfl ⟨rfl, ((((((((((Below.refl _ _).alloc (Nat.le_refl _) _).trans (HB.out.mono (by simp))).setCell (by simp) _).setCell (by simp) _).setCell (by simp) _).setCell (by simp) _).setCell (by simp) _).setCell (by simp) _).setCell (by simp) _).setCell (by simp) _⟩
  · have H1 := Lib.hid (fun W => HS.out 10 29 1073740800 W (by decide))
    go_enter Tryz.func87, Tryz.ntmps87
    go_wp2_with (go_at_call 101; (with_reducible refine (H1.out _).mono ?_); rintro e w1 ⟨rfl, hb⟩; obtain ⟨hc, hf⟩ := bcell hb; have hz : w.heap.size < w1.heap.size := (by have := hb.size; simp at this; omega); have HB := Lib.hid hb; clear hb)
    exact bodyPost_ret (v := (instF 3).val) (by simp [results, Tryz.results87, go_sem, FormV.val, instF, hc]) rfl ⟨rfl, ((((((((((Below.refl _ _).alloc (Nat.le_refl _) _).trans (HB.out.mono (by simp))).setCell (by simp) _).setCell (by simp) _).setCell (by simp) _).setCell (by simp) _).setCell (by simp) _).setCell (by simp) _).setCell (by simp) _).setCell (by simp) _⟩
  · go_enter Tryz.func87, Tryz.ntmps87
    go_wp2
    exact bodyPost_ret (v := (instF 4).val) (by simp [results, Tryz.results87, go_sem, FormV.val, instF]) rfl ⟨rfl, (Below.refl _ _).alloc (Nat.le_refl _) _⟩
  · have H1 := Lib.hid (fun W => HS.out 1 7 254 W (by decide))
    go_enter Tryz.func87, Tryz.ntmps87
    go_wp2_with (go_at_call 101; (with_reducible refine (H1.out _).mono ?_); rintro e w1 ⟨rfl, hb⟩; obtain ⟨hc, hf⟩ := bcell hb; have hz : w.heap.size < w1.heap.size := (by have := hb.size; simp at this; omega); have HB := Lib.hid hb; clear hb)
    exact bodyPost_ret (v := (instF 5).val) (by simp [results, Tryz.results87, go_sem, FormV.val, instF, hc]) rfl ⟨rfl, ((((((((((Below.refl _ _).alloc (Nat.le_refl _) _).trans (HB.out.mono (by simp))).setCell (by simp) _).setCell (by simp) _).setCell (by simp) _).setCell (by simp) _).setCell (by simp) _).setCell (by simp) _).setCell (by simp) _).setCell (by simp) _⟩
  · go_enter Tryz.func87, Tryz.ntmps87
    go_wp2
    exact bodyPost_ret (v := (instF 6).val) (by simp [results, Tryz.results87, go_sem, FormV.val, instF]) rfl ⟨rfl, (Below.refl _ _).alloc (Nat.le_refl _) _⟩
  · go_enter Tryz.func87, Tryz.ntmps87
    go_wp2
    exact bodyPost_ret (v := (instF 7).val) (by simp [results, Tryz.results87, go_sem, FormV.val, instF]) rfl ⟨rfl, (Below.refl _ _).alloc (Nat.le_refl _) _⟩
  · go_enter Tryz.func87, Tryz.ntmps87
    go_wp2
    exact bodyPost_ret (v := (instF 8).val) (by simp [results, Tryz.results87, go_sem, FormV.val, instF]) rfl ⟨rfl, (Below.refl _ _).alloc (Nat.le_refl _) _⟩
  · go_enter Tryz.func87, Tryz.ntmps87
    go_wp2
    exact bodyPost_ret (v := (instF 9).val) (by simp [results, Tryz.results87, go_sem, FormV.val, instF]) rfl ⟨rfl, (Below.refl _ _).alloc (Nat.le_refl _) _⟩
  · have H1 := Lib.hid (fun W => HS.out 1 2 6 W (by decide))
    go_enter Tryz.func87, Tryz.ntmps87
    go_wp2_with (go_at_call 101; (with_reducible refine (H1.out _).mono ?_); rintro e w1 ⟨rfl, hb⟩; obtain ⟨hc, hf⟩ := bcell hb; have hz : w.heap.size < w1.heap.size := (by have := hb.size; simp at this; omega); have HB := Lib.hid hb; clear hb)
    exact bodyPost_ret (v := (instF 10).val) (by simp [results, Tryz.results87, go_sem, FormV.val, instF, hc]) rfl ⟨rfl, ((((((((((Below.refl _ _).alloc (Nat.le_refl _) _).trans (HB.out.mono (by simp))).setCell (by simp) _).setCell (by simp) _).setCell (by simp) _).setCell (by simp) _).setCell (by simp) _).setCell (by simp) _).setCell (by simp) _).setCell (by simp) _⟩
  · go_enter Tryz.func87, Tryz.ntmps87
    go_wp2
    exact bodyPost_ret (v := (instF 11).val) (by simp [results, Tryz.results87, go_sem, FormV.val, instF]) rfl ⟨rfl, (Below.refl _ _).alloc (Nat.le_refl _) _⟩
  · go_enter Tryz.func87, Tryz.ntmps87
    go_wp2
    exact bodyPost_ret (v := (instF 12).val) (by simp [results, Tryz.results87, go_sem, FormV.val, instF]) rfl ⟨rfl, (Below.refl _ _).alloc (Nat.le_refl _) _⟩
  · have h0 : instF op = noForm := by unfold instF; rw [if_neg (by omega), if_neg (by omega), if_neg (by omega), if_neg (by omega), if_neg (by omega), if_neg (by omega), if_neg (by omega), if_neg (by omega), if_neg (by omega), if_neg (by omega), if_neg (by omega), if_neg (by omega)]
    rw [h0]
    rcases h with h | h
    all_goals
      go_enter Tryz.func87, Tryz.ntmps87
      go_wp2
      exact bodyPost_ret (v := noForm.val) (by simp [results, Tryz.results87, go_sem, FormV.val, noForm]) rfl ⟨rfl, (Below.refl _ _).alloc (Nat.le_refl _) _⟩
set_option maxRecDepth 100000 in
set_option maxHeartbeats 1000000 in
theorem endForm_any (op : Int) (w : World) : Calls Tryz.prog 58 #[.int .i64 op] w fun e w' => e = .returned (endF op).val ∧ Below w.heap.size w w' := by
  have HS := Lib.hid (fun (lo hi v : Int) (W : World) h => span_b lo hi v W h)
  have hop : op = 1 ∨ op = 2 ∨ op = 3 ∨ op = 4 ∨ op = 5 ∨ (op < 1 ∨ 5 < op) := by omega
  rcases hop with rfl | rfl | rfl | rfl | rfl | h
  · go_enter Tryz.func58, Tryz.ntmps58
    go_wp2
    exact bodyPost_ret (v := (endF 1).val) (by simp [results, Tryz.results58, go_sem, FormV.val, endF]) rfl ⟨rfl, (Below.refl _ _).alloc (Nat.le_refl _) _⟩
  · go_enter Tryz.func58, Tryz.ntmps58
    go_wp2
    exact bodyPost_ret (v := (endF 2).val) (by simp [results, Tryz.results58, go_sem, FormV.val, endF]) rfl ⟨rfl, (Below.refl _ _).alloc (Nat.le_refl _) _⟩
  · go_enter Tryz.func58, Tryz.ntmps58
    go_wp2
    exact bodyPost_ret (v := (endF 3).val) (by simp [results, Tryz.results58, go_sem, FormV.val, endF]) rfl ⟨rfl, (Below.refl _ _).alloc (Nat.le_refl _) _⟩
  · have H1 := Lib.hid (fun W => HS.out 1 6 126 W (by decide))
    go_enter Tryz.func58, Tryz.ntmps58
    go_wp2_with (go_at_call 101; (with_reducible refine (H1.out _).mono ?_); rintro e w1 ⟨rfl, hb⟩; obtain ⟨hc, hf⟩ := bcell hb; have hz : w.heap.size < w1.heap.size := (by have := hb.size; simp at this; omega); have HB := Lib.hid hb; clear hb)
    exact bodyPost_ret (v := (endF 4).val) (by simp [results, Tryz.results58, go_sem, FormV.val, endF, hc]) rfl ⟨rfl, ((((((((((Below.refl _ _).alloc (Nat.le_refl _) _).trans (HB.out.mono (by simp))).setCell (by simp) _).setCell (by simp) _).setCell (by simp) _).setCell (by simp) _).setCell (by simp) _).setCell (by simp) _).setCell (by simp) _).setCell (by simp) _⟩
  · go_enter Tryz.func58, Tryz.ntmps58
    go_wp2
    exact bodyPost_ret (v := (endF 5).val) (by simp [results, Tryz.results58, go_sem, FormV.val, endF]) rfl ⟨rfl, (Below.refl _ _).alloc (Nat.le_refl _) _⟩
  · have h0 : endF op = noForm := by unfold endF; rw [if_neg (by omega), if_neg (by omega), if_neg (by omega), if_neg (by omega), if_neg (by omega)]
    rw [h0]
    rcases h with h | h
    all_goals
      go_enter Tryz.func58, Tryz.ntmps58
      go_wp2
      exact bodyPost_ret (v := noForm.val) (by simp [results, Tryz.results58, go_sem, FormV.val, noForm]) rfl ⟨rfl, (Below.refl _ _).alloc (Nat.le_refl _) _⟩
end Go.Proofs.YtkncilgmlkeifaaGreatDoor
