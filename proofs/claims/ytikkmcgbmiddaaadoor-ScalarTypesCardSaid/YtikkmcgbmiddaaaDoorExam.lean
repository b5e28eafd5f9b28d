/-
  The laws' fixed calls (examples): they all give what the document says; at every world in which the library's table reads as listed, with new blocks alone.
-/
import Derived.Test.YtikkmcgbmiddaaaDoorReads
import Derived.Test.YtikkmcgbmiddaaaDoorTypes
namespace Go.Proofs.YtikkmcgbmiddaaaDoor
open Go.ChangeShapes Go.WideShapes Go.ChangeAt Go.RowKit

theorem lit32 (n : Int) (h : decide (-2147483648 ≤ n ∧ n ≤ 2147483647) = true) : I32 n := by unfold I32; exact of_decide_eq_true h
theorem ex1 : binV 13 (-7) 2 = -3 := by decide +kernel
theorem ex2 : binV 14 (-7) 2 = -1 := by decide +kernel
theorem ex3 : binV 15 (-1) 1 = -1 := by decide +kernel
theorem ex4 : binV 16 65536 131072 = 32768 := by decide +kernel
theorem ex5 : binV 20 1 33 = 2 := by decide +kernel
theorem ex6 : unV 3 (-2147483648) = -2147483648 := by decide +kernel
theorem dd1 (u : Nat) (h : u < 10) : Lib.decDigits u = [UInt8.ofNat (48 + u)] := by rw [Lib.decDigits, dif_pos h]
theorem itoa0 : Lib.itoa 0 = [48] := by show Lib.decDigits 0 = _; rw [dd1 0 (by omega)]; rfl
theorem itoa1 : Lib.itoa 1 = [49] := by show Lib.decDigits 1 = _; rw [dd1 1 (by omega)]; rfl
theorem ex7 : textV 2 98304 = [49, 46, 53] := by
  show [] ++ Lib.itoa 1 ++ [46] ++ fracL 16 32768 = _
  rw [itoa1]; decide +kernel
theorem ex8 : textV 2 (-1) = [45, 48, 46, 48, 48, 48, 48, 49, 53, 50, 53, 56, 55, 56, 57, 48, 54, 50, 53] := by
  show [45] ++ Lib.itoa 0 ++ [46] ++ fracL 16 1 = _
  rw [itoa0]; decide +kernel
theorem ex9 : textV 2 0 = [48, 46, 48] := by
  show [] ++ Lib.itoa 0 ++ [46] ++ fracL 16 0 = _
  rw [itoa0]; decide +kernel
theorem parE_of {t v : Int} {l r : List UInt8} {b : Bool} (ht : 1 ≤ t ∧ t ≤ 3) (hr : rawV t l = v) (hb : rawOk t l = b) (htx : textV t v = r) (hne : (b && decide (r = l)) = false) : parE t l = 3 := by
  subst htx; rw [← parOk_of hr hb] at hne; exact (par_no ht hne).2
theorem ex10 : parE 1 [45, 48] = 3 := parE_of (v := 0) (b := true) (by omega) (by decide +kernel) (by decide +kernel) itoa0 (by decide +kernel)
theorem ex11 : parE 2 [49, 46, 53, 48] = 3 := parE_of (v := 98304) (b := true) (by omega) (by decide +kernel) (by decide +kernel) ex7 (by decide +kernel)
theorem ex12 : parV 2 [49, 46, 53] = 98304 ∧ parE 2 [49, 46, 53] = 0 := by
  have hr : rawV 2 [49, 46, 53] = 98304 := by decide +kernel
  have h := par_yes (t := 2) (l := [49, 46, 53]) (by omega) (by rw [parOk_of (t := 2) (v := 98304) (b := true) hr (by decide +kernel), ex7]; decide +kernel)
  rw [hr] at h; exact h
theorem cb0 {w0 w : World} (h : Run w0 w) : Calls Tryd.prog 14 #[.int .i64 13, .int .i32 (-7), .int .i32 2] w fun e w' => e = .returned (.agg #[.int .i32 (-3), .int .i64 0]) ∧ Run w0 w' := by
  have H := bin_c 13 (-7) 2 h (lit32 _ (by decide)) (lit32 _ (by decide))
  rw [ex1, show binE 13 = 0 from rfl] at H; exact H
theorem cb1 {w0 w : World} (h : Run w0 w) : Calls Tryd.prog 14 #[.int .i64 14, .int .i32 (-7), .int .i32 2] w fun e w' => e = .returned (.agg #[.int .i32 (-1), .int .i64 0]) ∧ Run w0 w' := by
  have H := bin_c 14 (-7) 2 h (lit32 _ (by decide)) (lit32 _ (by decide))
  rw [ex2, show binE 14 = 0 from rfl] at H; exact H
theorem cb2 {w0 w : World} (h : Run w0 w) : Calls Tryd.prog 14 #[.int .i64 15, .int .i32 (-1), .int .i32 1] w fun e w' => e = .returned (.agg #[.int .i32 (-1), .int .i64 0]) ∧ Run w0 w' := by
  have H := bin_c 15 (-1) 1 h (lit32 _ (by decide)) (lit32 _ (by decide))
  rw [ex3, show binE 15 = 0 from rfl] at H; exact H
theorem cb3 {w0 w : World} (h : Run w0 w) : Calls Tryd.prog 14 #[.int .i64 16, .int .i32 65536, .int .i32 131072] w fun e w' => e = .returned (.agg #[.int .i32 32768, .int .i64 0]) ∧ Run w0 w' := by
  have H := bin_c 16 65536 131072 h (lit32 _ (by decide)) (lit32 _ (by decide))
  rw [ex4, show binE 16 = 0 from rfl] at H; exact H
theorem cb4 {w0 w : World} (h : Run w0 w) : Calls Tryd.prog 14 #[.int .i64 20, .int .i32 1, .int .i32 33] w fun e w' => e = .returned (.agg #[.int .i32 2, .int .i64 0]) ∧ Run w0 w' := by
  have H := bin_c 20 1 33 h (lit32 _ (by decide)) (lit32 _ (by decide))
  rw [ex5, show binE 20 = 0 from rfl] at H; exact H
theorem cu0 {w0 w : World} (h : Run w0 w) : Calls Tryd.prog 12 #[.int .i64 3, .int .i32 (-2147483648)] w fun e w' => e = .returned (.agg #[.int .i32 (-2147483648), .int .i64 0]) ∧ Run w0 w' := by
  have H := un_c 3 (-2147483648) h (lit32 _ (by decide))
  rw [ex6, show unE 3 = 0 from rfl] at H; exact H
theorem cu1 {w0 w : World} (h : Run w0 w) : Calls Tryd.prog 12 #[.int .i64 10, .int .i32 3] w fun e w' => e = .returned (.agg #[.int .i32 0, .int .i64 1]) ∧ Run w0 w' := by
  have H := un_c 10 3 h (lit32 _ (by decide))
  rw [(show unV 10 3 = 0 from rfl), show unE 10 = 1 from rfl] at H; exact H
theorem ct0 {w0 w : World} (h : Run w0 w) : Calls Tryd.prog 16 #[.int .i64 2, .int .i32 98304] w fun e w' => e = .returned (.agg #[.string ⟨#[49, 46, 53]⟩, .int .i64 0]) ∧ Run w0 w' := by
  have H := text_c 2 98304 h (lit32 _ (by decide))
  rw [ex7] at H; exact H
theorem ct1 {w0 w : World} (h : Run w0 w) : Calls Tryd.prog 16 #[.int .i64 2, .int .i32 (-1)] w fun e w' => e = .returned (.agg #[.string ⟨#[45, 48, 46, 48, 48, 48, 48, 49, 53, 50, 53, 56, 55, 56, 57, 48, 54, 50, 53]⟩, .int .i64 0]) ∧ Run w0 w' := by
  have H := text_c 2 (-1) h (lit32 _ (by decide))
  rw [ex8] at H; exact H
theorem ct2 {w0 w : World} (h : Run w0 w) : Calls Tryd.prog 16 #[.int .i64 2, .int .i32 0] w fun e w' => e = .returned (.agg #[.string ⟨#[48, 46, 48]⟩, .int .i64 0]) ∧ Run w0 w' := by
  have H := text_c 2 0 h (lit32 _ (by decide))
  rw [ex9] at H; exact H
theorem ex10v : parV 1 [45, 48] = 0 := (par_no (by omega) (by rw [parOk_of (t := 1) (v := 0) (b := true) (l := [45, 48]) (by decide +kernel) (by decide +kernel), show textV 1 0 = [48] from itoa0]; decide +kernel)).1
theorem ex11v : parV 2 [49, 46, 53, 48] = 0 := (par_no (by omega) (by rw [parOk_of (t := 2) (v := 98304) (b := true) (l := [49, 46, 53, 48]) (by decide +kernel) (by decide +kernel), ex7]; decide +kernel)).1
theorem cp0 {w0 w : World} (h : Run w0 w) : Calls Tryd.prog 17 #[.int .i64 1, .string ⟨#[45, 48]⟩] w fun e w' => e = .returned (.agg #[.int .i32 0, .int .i64 3]) ∧ Run w0 w' := by
  have H := parse_c 1 ⟨#[45, 48]⟩ h (by decide)
  rw [show parV 1 ((⟨#[45, 48]⟩ : ByteArray).data.toList) = 0 from ex10v, show parE 1 ((⟨#[45, 48]⟩ : ByteArray).data.toList) = 3 from ex10] at H; exact H
theorem cp1 {w0 w : World} (h : Run w0 w) : Calls Tryd.prog 17 #[.int .i64 2, .string ⟨#[49, 46, 53, 48]⟩] w fun e w' => e = .returned (.agg #[.int .i32 0, .int .i64 3]) ∧ Run w0 w' := by
  have H := parse_c 2 ⟨#[49, 46, 53, 48]⟩ h (by decide)
  rw [show parV 2 ((⟨#[49, 46, 53, 48]⟩ : ByteArray).data.toList) = 0 from ex11v, show parE 2 ((⟨#[49, 46, 53, 48]⟩ : ByteArray).data.toList) = 3 from ex11] at H; exact H
theorem cp2 {w0 w : World} (h : Run w0 w) : Calls Tryd.prog 17 #[.int .i64 2, .string ⟨#[49, 46, 53]⟩] w fun e w' => e = .returned (.agg #[.int .i32 98304, .int .i64 0]) ∧ Run w0 w' := by
  have H := parse_c 2 ⟨#[49, 46, 53]⟩ h (by decide)
  rw [show parV 2 ((⟨#[49, 46, 53]⟩ : ByteArray).data.toList) = 98304 from ex12.1, show parE 2 ((⟨#[49, 46, 53]⟩ : ByteArray).data.toList) = 0 from ex12.2] at H; exact H
theorem cbt {w0 w : World} (h : Run w0 w) : Calls Tryd.prog 23 #[.int .i64 26, .int .i64 1, .int .i64 1] w fun e w' => e = .returned (.agg #[.int .i64 3, .int .i64 0]) ∧ Run w0 w' := by
  have H := binType_c 26 1 1 h
  rw [show binTV 26 1 1 = 3 from rfl, show binTE 26 1 1 = 0 from rfl] at H; exact H
theorem cut {w0 w : World} (h : Run w0 w) : Calls Tryd.prog 21 #[.int .i64 2, .int .i64 2] w fun e w' => e = .returned (.agg #[.int .i64 0, .int .i64 31]) ∧ Run w0 w' := by
  have H := unType_c 2 2 h
  rw [show unTV 2 2 = 0 from rfl, show unTE 2 2 = 31 from rfl] at H; exact H

theorem fld25_0 (a b : Value) (w : World) : (Instr.field 25 (.agg #[a, b]) 0).run Tryd.prog w = .ok a w := by kernel_rfl
theorem fld25_1 (a b : Value) (w : World) : (Instr.field 25 (.agg #[a, b]) 1).run Tryd.prog w = .ok b w := by kernel_rfl
theorem fld36_0 (a b : Value) (w : World) : (Instr.field 36 (.agg #[a, b]) 0).run Tryd.prog w = .ok a w := by kernel_rfl
theorem fld36_1 (a b : Value) (w : World) : (Instr.field 36 (.agg #[a, b]) 1).run Tryd.prog w = .ok b w := by kernel_rfl
theorem fld44_0 (a b : Value) (w : World) : (Instr.field 44 (.agg #[a, b]) 0).run Tryd.prog w = .ok a w := by kernel_rfl
theorem fld44_1 (a b : Value) (w : World) : (Instr.field 44 (.agg #[a, b]) 1).run Tryd.prog w = .ok b w := by kernel_rfl
set_option maxRecDepth 100000 in
set_option maxHeartbeats 1600000 in
theorem examples_c {w0 w : World} (h : Run w0 w) : Calls Tryd.prog 11 #[] w fun e w' => e = .returned (.bool true) ∧ Run w0 w' := by
  have f250 := fld25_0
  have f251 := fld25_1
  have f360 := fld36_0
  have f441 := fld44_1
  go_enter Tryd.func11, Tryd.ntmps11
  go_wp2_with (first | (go_at_call 14; (with_reducible refine (cb0 (by assumption)).mono ?_); rintro e w1 ⟨rfl, hr⟩) | (go_at_call 14; (with_reducible refine (cb1 (by assumption)).mono ?_); rintro e w1 ⟨rfl, hr⟩) | (go_at_call 14; (with_reducible refine (cb2 (by assumption)).mono ?_); rintro e w1 ⟨rfl, hr⟩) | (go_at_call 14; (with_reducible refine (cb3 (by assumption)).mono ?_); rintro e w1 ⟨rfl, hr⟩) | (go_at_call 14; (with_reducible refine (cb4 (by assumption)).mono ?_); rintro e w1 ⟨rfl, hr⟩) | (go_at_call 12; (with_reducible refine (cu0 (by assumption)).mono ?_); rintro e w1 ⟨rfl, hr⟩) | (go_at_call 12; (with_reducible refine (cu1 (by assumption)).mono ?_); rintro e w1 ⟨rfl, hr⟩) | (go_at_call 16; (with_reducible refine (ct0 (by assumption)).mono ?_); rintro e w1 ⟨rfl, hr⟩) | (go_at_call 16; (with_reducible refine (ct1 (by assumption)).mono ?_); rintro e w1 ⟨rfl, hr⟩) | (go_at_call 16; (with_reducible refine (ct2 (by assumption)).mono ?_); rintro e w1 ⟨rfl, hr⟩) | (go_at_call 17; (with_reducible refine (cp0 (by assumption)).mono ?_); rintro e w1 ⟨rfl, hr⟩) | (go_at_call 17; (with_reducible refine (cp1 (by assumption)).mono ?_); rintro e w1 ⟨rfl, hr⟩) | (go_at_call 17; (with_reducible refine (cp2 (by assumption)).mono ?_); rintro e w1 ⟨rfl, hr⟩) | (go_at_call 23; (with_reducible refine (cbt (by assumption)).mono ?_); rintro e w1 ⟨rfl, hr⟩) | (go_at_call 21; (with_reducible refine (cut (by assumption)).mono ?_); rintro e w1 ⟨rfl, hr⟩) | (go_at_call 20; (with_reducible refine (is_c _ (by assumption)).mono ?_); rintro e w1 ⟨rfl, hr⟩))
  trace_state
  go_ret
  exact ⟨rfl, by assumption⟩
end Go.Proofs.YtikkmcgbmiddaaaDoor
