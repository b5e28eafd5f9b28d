/-
  Contract of the reference's TextIn: its texts are those of package scalar.
-/
import Derived.Test.YtikkmcgbmiddaaaDoorRefD
import Derived.Test.YtikkmcgbmiddaaaDoorRefTy
namespace Go.Proofs.YtikkmcgbmiddaaaDoor
open Go.ChangeShapes Go.WideShapes Go.ChangeAt Go.RowKit
set_option linter.unusedVariables false

theorem TextIn_no {w0 w : World} (t v : Int) (h : Run w0 w) (ht : isT t = false) : Calls Tryd.prog 18 #[.int .i64 t, .int .i32 v] w fun e w' => e = .returned (.agg #[.string ⟨(textV t v).toArray⟩, .int .i64 (textE t v)]) ∧ Run w0 w' := by
  have H := Lib.hid h
  have ht2 : ¬ (1 ≤ t ∧ t ≤ 3) := of_decide_eq_false ht
  have e1 : textV t v = [] := by unfold textV; rw [if_neg (by omega), if_neg (by omega), if_neg (by omega)]
  have e2 : textE t v = 1 := by unfold textE; rw [if_neg (by omega)]
  rw [e1, e2]
  have HK := fun w => kind_c t w
  rw [ht] at HK
  have HKK := Lib.hid HK
  clear h ht ht2 e1 e2 HK
  go_enter Tryd.func18, Tryd.ntmps18
  go_wp2_with (go_at_call 35; (with_reducible refine (HKK.out _).mono ?_); rintro e w' ⟨rfl, hw⟩; replace hw := hw.symm; subst hw)
  exact bodyPost_ret (v := .agg #[.string ⟨#[]⟩, .int .i64 1]) (by simp [results, Tryd.results18, go_sem]) rfl ⟨rfl, H.out.on ((Below.refl _ _).alloc (Nat.le_refl _) _)⟩
theorem app4 (a b c d : List UInt8) : (⟨a.toArray⟩ : ByteArray) ++ ⟨b.toArray⟩ ++ ⟨c.toArray⟩ ++ ⟨d.toArray⟩ = ⟨(a ++ b ++ c ++ d).toArray⟩ := by
  rw [ByteArray.mk_append_mk a b, ByteArray.mk_append_mk (a ++ b) c, ByteArray.mk_append_mk (a ++ b ++ c) d]
theorem ret_txt {a : ByteArray} {l : List UInt8} (h : a = ⟨l.toArray⟩) : Ending.returned (.agg #[.string a, .int .i64 0]) = .returned (.agg #[.string ⟨l.toArray⟩, .int .i64 0]) := by rw [h]
theorem TextIn_intp {w0 w : World} (m : Nat) (hm : m ≤ 2147483647) (h : Run w0 w) : Calls Tryd.prog 18 #[.int .i64 1, .int .i32 (m : Int)] w fun e w' => e = .returned (.agg #[.string ⟨(textV 1 (m : Int)).toArray⟩, .int .i64 (textE 1 (m : Int))]) ∧ Run w0 w' := by
  have H := Lib.hid h
  have HKK := Lib.hid (show ∀ w, Calls Tryd.prog 35 #[.int .i64 1] w fun e w' => e = .returned (.bool true) ∧ w' = w from fun w => kind_c 1 w)
  have HD := Lib.hid (fun w => Digits_c m (by omega) w)
  have hl := dec_len m (by omega)
  have hl2 : ¬ 9223372036854775807 < (Lib.decDigits m).length := by omega
  have hl3 : ¬ 9223372036854775807 < 1 + (Lib.decDigits m).length := by omega
  have k1 : (m : Int) ≤ 2147483647 := by omega
  have k2 : -2147483648 ≤ (m : Int) := by omega
  have e1 : textV 1 (m : Int) = [] ++ Lib.decDigits m := by
    show Lib.itoa (m : Int) = _; unfold Lib.itoa; rw [if_neg (by omega)]; simp
  have e2 : textE 1 (m : Int) = 0 := rfl
  rw [e1, e2]
  clear h e1 e2
  go_enter Tryd.func18, Tryd.ntmps18
  go_wp2_with (first | (go_at_call 35; (with_reducible refine (HKK.out _).mono ?_); rintro e w' ⟨rfl, hw⟩; replace hw := hw.symm; subst hw) | (go_at_call 36; (with_reducible refine (HD.out _).mono ?_); rintro e w' ⟨rfl, hw⟩; replace hw := hw.symm; subst hw))
  exact bodyPost_ret (v := .agg #[.string (⟨([] : List UInt8).toArray⟩ ++ ⟨(Lib.decDigits m).toArray⟩), .int .i64 0]) (by simp [results, Tryd.results18, go_sem]) rfl ⟨ret_txt (ByteArray.mk_append_mk _ _), H.out.on ((Below.refl _ _).alloc (Nat.le_refl _) _)⟩
theorem TextIn_intn {w0 w : World} (m : Nat) (hm0 : 1 ≤ m) (hm : m ≤ 2147483648) (h : Run w0 w) : Calls Tryd.prog 18 #[.int .i64 1, .int .i32 (-(m : Int))] w fun e w' => e = .returned (.agg #[.string ⟨(textV 1 (-(m : Int))).toArray⟩, .int .i64 (textE 1 (-(m : Int)))]) ∧ Run w0 w' := by
  have H := Lib.hid h
  have HKK := Lib.hid (show ∀ w, Calls Tryd.prog 35 #[.int .i64 1] w fun e w' => e = .returned (.bool true) ∧ w' = w from fun w => kind_c 1 w)
  have HD := Lib.hid (fun w => Digits_c m (by omega) w)
  have hl := dec_len m (by omega)
  have hl2 : ¬ 9223372036854775807 < (Lib.decDigits m).length := by omega
  have hl3 : ¬ 9223372036854775807 < 1 + (Lib.decDigits m).length := by omega
  have k1 : (-(m : Int)) ≤ 2147483647 := by omega
  have k2 : -2147483648 ≤ (-(m : Int)) := by omega
  have k3 : -(m : Int) < 0 := by omega
  have k4 : (0 : Int) < (m : Int) := by omega
  have e1 : textV 1 (-(m : Int)) = [45] ++ Lib.decDigits m := by
    show Lib.itoa (-(m : Int)) = _; unfold Lib.itoa; rw [if_pos (by omega)]; simp
  have e2 : textE 1 (-(m : Int)) = 0 := rfl
  rw [e1, e2]
  clear h e1 e2
  go_enter Tryd.func18, Tryd.ntmps18
  go_wp2_with (first | (go_at_call 35; (with_reducible refine (HKK.out _).mono ?_); rintro e w' ⟨rfl, hw⟩; replace hw := hw.symm; subst hw) | (go_at_call 36; (with_reducible refine (HD.out _).mono ?_); rintro e w' ⟨rfl, hw⟩; replace hw := hw.symm; subst hw))
  exact bodyPost_ret (v := .agg #[.string (⟨([45] : List UInt8).toArray⟩ ++ ⟨(Lib.decDigits m).toArray⟩), .int .i64 0]) (by simp [results, Tryd.results18, go_sem]) rfl ⟨ret_txt (ByteArray.mk_append_mk _ _), H.out.on ((Below.refl _ _).alloc (Nat.le_refl _) _)⟩
set_option maxHeartbeats 400000 in
theorem TextIn_fixp {w0 w : World} (m : Nat) (hm : m ≤ 2147483647) (h : Run w0 w) : Calls Tryd.prog 18 #[.int .i64 2, .int .i32 (m : Int)] w fun e w' => e = .returned (.agg #[.string ⟨(textV 2 (m : Int)).toArray⟩, .int .i64 (textE 2 (m : Int))]) ∧ Run w0 w' := by
  have H := Lib.hid h
  have HKK := Lib.hid (show ∀ w, Calls Tryd.prog 35 #[.int .i64 2] w fun e w' => e = .returned (.bool true) ∧ w' = w from fun w => kind_c 2 w)
  obtain ⟨q, hq⟩ : ∃ q, q = m / 65536 := ⟨_, rfl⟩
  obtain ⟨r, hr⟩ : ∃ r, r = m % 65536 := ⟨_, rfl⟩
  have HD := Lib.hid (fun w => Digits_c q (by omega) w)
  have HF := Lib.hid (fun w => fraction_c r (by omega) w)
  have hl := dec_len q (by omega)
  have hf := fracL_len 16 r
  have k1 : (m : Int) ≤ 2147483647 := by omega
  have k2 : -2147483648 ≤ (m : Int) := by omega
  have q1 : (m : Int) / 65536 = (q : Int) := by omega
  have r1 : (m : Int) % 65536 = (r : Int) := by omega
  have l1 : ¬ 9223372036854775807 < (Lib.decDigits q).length := by omega
  have l2 : ¬ 9223372036854775807 < (Lib.decDigits q).length + 1 := by omega
  have l3 : ¬ 9223372036854775807 < (Lib.decDigits q).length + 1 + (fracL 16 r).length := by omega
  have l4 : ¬ 9223372036854775807 < 1 + (Lib.decDigits q).length := by omega
  have l5 : ¬ 9223372036854775807 < 1 + (Lib.decDigits q).length + 1 := by omega
  have l6 : ¬ 9223372036854775807 < 1 + (Lib.decDigits q).length + 1 + (fracL 16 r).length := by omega
  have e1 : textV 2 (m : Int) = [] ++ Lib.decDigits q ++ [46] ++ fracL 16 r := by
    have hn : Int.natAbs (m : Int) = m := by omega
    show fixT (m : Int) = _
    unfold fixT
    rw [hn, if_neg (by omega), q1, ← hr]
    have : Lib.itoa (q : Int) = Lib.decDigits q := by unfold Lib.itoa; rw [if_neg (by omega)]; simp
    rw [this]
  have e2 : textE 2 (m : Int) = 0 := rfl
  rw [e1, e2]
  clear h e1 e2 hq hr
  go_enter Tryd.func18, Tryd.ntmps18
  go_wp2_with (first | (go_at_call 35; (with_reducible refine (HKK.out _).mono ?_); rintro e w' ⟨rfl, hw⟩; replace hw := hw.symm; subst hw) | (go_at_call 36; (with_reducible refine (HD.out _).mono ?_); rintro e w' ⟨rfl, hw⟩; replace hw := hw.symm; subst hw) | (go_at_call 37; (with_reducible refine (HF.out _).mono ?_); rintro e w' ⟨rfl, hw⟩; replace hw := hw.symm; subst hw))
  exact bodyPost_ret (v := .agg #[.string (⟨([] : List UInt8).toArray⟩ ++ ⟨(Lib.decDigits q).toArray⟩ ++ ⟨([46] : List UInt8).toArray⟩ ++ ⟨(fracL 16 r).toArray⟩), .int .i64 0]) (by simp [results, Tryd.results18, go_sem]) rfl ⟨ret_txt (app4 _ _ _ _), H.out.on ((Below.refl _ _).alloc (Nat.le_refl _) _)⟩
set_option maxHeartbeats 400000 in
theorem TextIn_fixn {w0 w : World} (m : Nat) (hm0 : 1 ≤ m) (hm : m ≤ 2147483648) (h : Run w0 w) : Calls Tryd.prog 18 #[.int .i64 2, .int .i32 (-(m : Int))] w fun e w' => e = .returned (.agg #[.string ⟨(textV 2 (-(m : Int))).toArray⟩, .int .i64 (textE 2 (-(m : Int)))]) ∧ Run w0 w' := by
  have H := Lib.hid h
  have HKK := Lib.hid (show ∀ w, Calls Tryd.prog 35 #[.int .i64 2] w fun e w' => e = .returned (.bool true) ∧ w' = w from fun w => kind_c 2 w)
  obtain ⟨q, hq⟩ : ∃ q, q = m / 65536 := ⟨_, rfl⟩
  obtain ⟨r, hr⟩ : ∃ r, r = m % 65536 := ⟨_, rfl⟩
  have HD := Lib.hid (fun w => Digits_c q (by omega) w)
  have HF := Lib.hid (fun w => fraction_c r (by omega) w)
  have hl := dec_len q (by omega)
  have hf := fracL_len 16 r
  have k1 : (-(m : Int)) ≤ 2147483647 := by omega
  have k2 : -2147483648 ≤ (-(m : Int)) := by omega
  have q1 : (m : Int) / 65536 = (q : Int) := by omega
  have r1 : (m : Int) % 65536 = (r : Int) := by omega
  have l1 : ¬ 9223372036854775807 < (Lib.decDigits q).length := by omega
  have l2 : ¬ 9223372036854775807 < (Lib.decDigits q).length + 1 := by omega
  have l3 : ¬ 9223372036854775807 < (Lib.decDigits q).length + 1 + (fracL 16 r).length := by omega
  have l4 : ¬ 9223372036854775807 < 1 + (Lib.decDigits q).length := by omega
  have l5 : ¬ 9223372036854775807 < 1 + (Lib.decDigits q).length + 1 := by omega
  have l6 : ¬ 9223372036854775807 < 1 + (Lib.decDigits q).length + 1 + (fracL 16 r).length := by omega
  have k3 : -(m : Int) < 0 := by omega
  have k4 : (0 : Int) < (m : Int) := by omega
  have e1 : textV 2 (-(m : Int)) = [45] ++ Lib.decDigits q ++ [46] ++ fracL 16 r := by
    have hn : Int.natAbs (-(m : Int)) = m := by omega
    show fixT (-(m : Int)) = _
    unfold fixT
    rw [hn, if_pos (by omega), q1, ← hr]
    have : Lib.itoa (q : Int) = Lib.decDigits q := by unfold Lib.itoa; rw [if_neg (by omega)]; simp
    rw [this]
  have e2 : textE 2 (-(m : Int)) = 0 := rfl
  rw [e1, e2]
  clear h e1 e2 hq hr
  go_enter Tryd.func18, Tryd.ntmps18
  go_wp2_with (first | (go_at_call 35; (with_reducible refine (HKK.out _).mono ?_); rintro e w' ⟨rfl, hw⟩; replace hw := hw.symm; subst hw) | (go_at_call 36; (with_reducible refine (HD.out _).mono ?_); rintro e w' ⟨rfl, hw⟩; replace hw := hw.symm; subst hw) | (go_at_call 37; (with_reducible refine (HF.out _).mono ?_); rintro e w' ⟨rfl, hw⟩; replace hw := hw.symm; subst hw))
  exact bodyPost_ret (v := .agg #[.string (⟨([45] : List UInt8).toArray⟩ ++ ⟨(Lib.decDigits q).toArray⟩ ++ ⟨([46] : List UInt8).toArray⟩ ++ ⟨(fracL 16 r).toArray⟩), .int .i64 0]) (by simp [results, Tryd.results18, go_sem]) rfl ⟨ret_txt (app4 _ _ _ _), H.out.on ((Below.refl _ _).alloc (Nat.le_refl _) _)⟩
theorem TextIn_bool {w0 w : World} (v : Int) (h : Run w0 w) : Calls Tryd.prog 18 #[.int .i64 3, .int .i32 v] w fun e w' => e = .returned (.agg #[.string ⟨(textV 3 v).toArray⟩, .int .i64 (textE 3 v)]) ∧ Run w0 w' := by
  have H := Lib.hid h
  have HKK := Lib.hid (show ∀ w, Calls Tryd.prog 35 #[.int .i64 3] w fun e w' => e = .returned (.bool true) ∧ w' = w from fun w => kind_c 3 w)
  clear h
  by_cases h0 : v = 0
  · subst h0
    go_enter Tryd.func18, Tryd.ntmps18
    go_wp2_with (go_at_call 35; (with_reducible refine (HKK.out _).mono ?_); rintro e w' ⟨rfl, hw⟩; replace hw := hw.symm; subst hw)
    exact bodyPost_ret (v := .agg #[.string ⟨#[102, 97, 108, 115, 101]⟩, .int .i64 0]) (by simp [results, Tryd.results18, go_sem]) rfl ⟨rfl, H.out.on ((Below.refl _ _).alloc (Nat.le_refl _) _)⟩
  · by_cases h1 : v = 1
    · subst h1
      go_enter Tryd.func18, Tryd.ntmps18
      go_wp2_with (go_at_call 35; (with_reducible refine (HKK.out _).mono ?_); rintro e w' ⟨rfl, hw⟩; replace hw := hw.symm; subst hw)
      exact bodyPost_ret (v := .agg #[.string ⟨#[116, 114, 117, 101]⟩, .int .i64 0]) (by simp [results, Tryd.results18, go_sem]) rfl ⟨rfl, H.out.on ((Below.refl _ _).alloc (Nat.le_refl _) _)⟩
    · have e1 : textV 3 v = [] := by simp [textV, h0, h1]
      have e2 : textE 3 v = 1 := by simp [textE, h0, h1]
      rw [e1, e2]
      have h0b : (v != 0) = true := by simpa using h0
      have h1b : (v != 1) = true := by simpa using h1
      clear e1 e2
      go_enter Tryd.func18, Tryd.ntmps18
      go_wp2_with (go_at_call 35; (with_reducible refine (HKK.out _).mono ?_); rintro e w' ⟨rfl, hw⟩; replace hw := hw.symm; subst hw)
      exact bodyPost_ret (v := .agg #[.string ⟨#[]⟩, .int .i64 1]) (by simp [results, Tryd.results18, go_sem]) rfl ⟨rfl, H.out.on ((Below.refl _ _).alloc (Nat.le_refl _) _)⟩
/-- TextIn, for every type and value. -/
theorem TextIn_c {w0 w : World} (t v : Int) (h : Run w0 w) (hv : I32 v) : Calls Tryd.prog 18 #[.int .i64 t, .int .i32 v] w fun e w' => e = .returned (.agg #[.string ⟨(textV t v).toArray⟩, .int .i64 (textE t v)]) ∧ Run w0 w' := by
  obtain ⟨v1, v2⟩ := hv
  cases ht : isT t
  · exact TextIn_no t v h ht
  · have ht2 : 1 ≤ t ∧ t ≤ 3 := of_decide_eq_true ht
    have : t = 1 ∨ t = 2 ∨ t = 3 := by omega
    rcases this with rfl | rfl | rfl
    · by_cases h0 : 0 ≤ v
      · obtain ⟨m, rfl⟩ : ∃ m : Nat, v = m := ⟨v.toNat, by omega⟩
        exact TextIn_intp m (by omega) h
      · obtain ⟨m, rfl⟩ : ∃ m : Nat, v = -(m : Int) := ⟨(-v).toNat, by omega⟩
        exact TextIn_intn m (by omega) (by omega) h
    · by_cases h0 : 0 ≤ v
      · obtain ⟨m, rfl⟩ : ∃ m : Nat, v = m := ⟨v.toNat, by omega⟩
        exact TextIn_fixp m (by omega) h
      · obtain ⟨m, rfl⟩ : ∃ m : Nat, v = -(m : Int) := ⟨(-v).toNat, by omega⟩
        exact TextIn_fixn m (by omega) (by omega) h
    · exact TextIn_bool v h
end Go.Proofs.YtikkmcgbmiddaaaDoor
