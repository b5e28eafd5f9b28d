/-
  Contract of the reference's Digits: the decimal digits of a number that is not negative.
-/
import Derived.Test.YtikkmcgbmiddaaaDoorReads
import Derived.Test.YtikkmcgbmiddaaaDoorText
import Derived.Lib.ItoaLen
namespace Go.Proofs.YtikkmcgbmiddaaaDoor
open Go.ChangeShapes Go.WideShapes Go.ChangeAt Go.RowKit
set_option linter.unusedVariables false

theorem dec_len (q : Nat) (h : q ≤ 4611686018427387904) : (Lib.decDigits q).length ≤ 21 := by
  have h1 := Lib.itoa_length_le (q : Int) (by omega) (by omega)
  have e : Lib.itoa (q : Int) = Lib.decDigits q := by unfold Lib.itoa; rw [if_neg (by omega)]; simp
  rw [e] at h1; exact h1
theorem digits_small (n : Nat) (h : n < 10) (w : World) : Calls Tryd.prog 36 #[.int .i64 (n : Int)] w fun e w' => e = .returned (.string ⟨(Lib.decDigits n).toArray⟩) ∧ w' = w := by
  have hd : Lib.decDigits n = [UInt8.ofNat (48 + n)] := by rw [Lib.decDigits, dif_pos h]
  rw [hd]
  clear hd
  have : n = 0 ∨ n = 1 ∨ n = 2 ∨ n = 3 ∨ n = 4 ∨ n = 5 ∨ n = 6 ∨ n = 7 ∨ n = 8 ∨ n = 9 := by omega
  clear h
  rcases this with rfl | rfl | rfl | rfl | rfl | rfl | rfl | rfl | rfl | rfl
  all_goals
    go_enter Tryd.func36, Tryd.ntmps36
    go_wp2
    go_ret
    exact ⟨rfl, rfl⟩
theorem digits_big (n : Nat) (h : 10 ≤ n) (h2 : n ≤ 4611686018427387904) (w : World)
    (H1 : Calls Tryd.prog 36 #[.int .i64 ((n / 10 : Nat) : Int)] w fun e w' => e = .returned (.string ⟨(Lib.decDigits (n / 10)).toArray⟩) ∧ w' = w)
    (H2 : Calls Tryd.prog 36 #[.int .i64 ((n % 10 : Nat) : Int)] w fun e w' => e = .returned (.string ⟨(Lib.decDigits (n % 10)).toArray⟩) ∧ w' = w) :
    Calls Tryd.prog 36 #[.int .i64 (n : Int)] w fun e w' => e = .returned (.string ⟨(Lib.decDigits n).toArray⟩) ∧ w' = w := by
  obtain ⟨q, hq⟩ : ∃ q, q = n / 10 := ⟨_, rfl⟩
  obtain ⟨r, hr⟩ : ∃ r, r = n % 10 := ⟨_, rfl⟩
  rw [← hq] at H1
  rw [← hr] at H2
  have e1 : (n : Int) / 10 = (q : Int) := by omega
  have e2 : (n : Int) % 10 = (r : Int) := by omega
  have HQ := Lib.hid hq
  have HR := Lib.hid hr
  have HH1 := Lib.hid H1
  have HH2 := Lib.hid H2
  clear hq hr H1 H2
  have h10 : (10 : Int) ≤ (n : Int) := by omega
  have l1 := dec_len q (by omega)
  have l2 := dec_len r (by omega)
  have l3 : ¬ 9223372036854775807 < (Lib.decDigits q).length + (Lib.decDigits r).length := by omega
  have HE := Lib.hid (show Lib.decDigits q ++ Lib.decDigits r = Lib.decDigits n by
    have hd : Lib.decDigits r = [UInt8.ofNat (48 + r)] := by rw [Lib.decDigits, dif_pos (by omega)]
    have hn : Lib.decDigits n = Lib.decDigits (n / 10) ++ [UInt8.ofNat (48 + n % 10)] := by rw [Lib.decDigits, dif_neg (by omega)]
    rw [hd, hn, HQ.out, HR.out])
  go_enter Tryd.func36, Tryd.ntmps36
  go_wp2_with (first | (go_at_call 36; (with_reducible refine HH1.out.mono ?_); rintro e w' ⟨rfl, hw⟩; replace hw := hw.symm; subst hw) | (go_at_call 36; (with_reducible refine HH2.out.mono ?_); rintro e w' ⟨rfl, hw⟩; replace hw := hw.symm; subst hw))
  go_ret
  refine ⟨?_, rfl⟩
  have e := ByteArray.mk_append_mk (Lib.decDigits q) (Lib.decDigits r)
  rw [HE.out] at e
  exact congrArg (fun s => Ending.returned (.string s)) e
/-- Digits, for every number that is not negative and at most 2^62. -/
theorem Digits_c (n : Nat) : n ≤ 4611686018427387904 → ∀ w : World, Calls Tryd.prog 36 #[.int .i64 (n : Int)] w fun e w' => e = .returned (.string ⟨(Lib.decDigits n).toArray⟩) ∧ w' = w := by
  induction n using Nat.strongRecOn with
  | _ n ih =>
    intro h w
    by_cases hn : n < 10
    · exact digits_small n hn w
    · exact digits_big n (by omega) h w (ih (n / 10) (by omega) (by omega) w) (digits_small (n % 10) (by omega) w)

def strLen : Value → Nat | .string s => s.size | _ => 0
theorem dvd_step (k n : Nat) (hk : k < 16) (h : 2 ^ k ∣ n) : 2 ^ (k + 1) ∣ n * 10 % 65536 := by
  obtain ⟨c, hc⟩ := h
  have h1 : 2 ^ (k + 1) ∣ 65536 := ⟨2 ^ (15 - k), by rw [← Nat.pow_add, show k + 1 + (15 - k) = 16 by omega]⟩
  refine (Nat.dvd_mod_iff h1).2 ⟨5 * c, ?_⟩
  rw [hc, Nat.pow_succ]; simp only [Nat.mul_assoc]; congr 1; omega
theorem dvd_end (n : Nat) (h : 2 ^ 16 ∣ n) (hn : n < 65536) : n = 0 := by
  obtain ⟨c, hc⟩ := h
  omega
theorem dec_dgt (u : Nat) (h : u < 10) : Lib.decDigits u = [dgt u] := by rw [Lib.decDigits, dif_pos h]; rfl
/-- What is left of a fraction's digits behind some of them. -/
def restL (k n : Nat) : List UInt8 := if n = 0 then [] else fracL (16 - k) n
theorem rest_step (k n : Nat) (hk : k < 16) (hn : n ≠ 0) : restL k n = dgt (n * 10 / 65536) :: restL (k + 1) (n * 10 % 65536) := by
  unfold restL; rw [if_neg hn, fracL_step k n hk]
theorem str_snoc (a : List UInt8) (b : UInt8) : (⟨a.toArray⟩ : ByteArray) ++ ⟨[b].toArray⟩ = ⟨(a ++ [b]).toArray⟩ := ByteArray.mk_append_mk a [b]

set_option maxHeartbeats 800000 in
theorem fraction_c (r0 : Nat) (hr : r0 < 65536) (w : World) : Calls Tryd.prog 37 #[.int .i64 (r0 : Int)] w fun e w' => e = .returned (.string ⟨(fracL 16 r0).toArray⟩) ∧ w' = w := by
  have HD := Lib.hid Digits_c
  have H1 := Lib.hid (fracL_step 0 r0 (by omega))
  obtain ⟨q, hq⟩ : ∃ q, q = r0 * 10 / 65536 := ⟨_, rfl⟩
  obtain ⟨n1, hn1⟩ : ∃ n1, n1 = r0 * 10 % 65536 := ⟨_, rfl⟩
  have e1 : (r0 : Int) * 10 / 65536 = (q : Int) := by omega
  have e2 : (r0 : Int) * 10 % 65536 = (n1 : Int) := by omega
  have hq10 : q < 10 := by omega
  have hn1lt : n1 < 65536 := by omega
  have HC := Lib.hid (fun w => digits_small q hq10 w)
  have HQ := Lib.hid hq
  have HN := Lib.hid hn1
  have HDQ := Lib.hid (dec_dgt q hq10)
  clear hq hn1
  go_enter Tryd.func37, Tryd.ntmps37
  go_wp2_with (go_at_call 36; (with_reducible refine (HC.out _).mono ?_); rintro e w' ⟨rfl, hw⟩; replace hw := hw.symm; subst hw; rw [HDQ.out])
  rw [e2]
  clear e1 e2
  go_loop [0, 3] (fun nv ov => ∃ n : Nat, ∃ ds : List UInt8, n < 65536 ∧ nv = .int .i64 n ∧ ov = .string ⟨ds.toArray⟩ ∧ ds.length ≤ 16 ∧ 2 ^ ds.length ∣ n ∧ fracL 16 r0 = ds ++ restL ds.length n) (fun _ ov => 16 - strLen ov)
  case atStart =>
    refine ⟨n1, [dgt q], hn1lt, rfl, rfl, by simp, ?_, ?_⟩
    · rw [HN.out]; exact dvd_step 0 r0 (by omega) (by simp)
    · rw [HQ.out, HN.out]; show fracL (16 - 0) r0 = _; rw [H1.out]; rfl
  case round =>
    obtain ⟨n, ds, hn, rfl, rfl, hl, hdv, hfr⟩ := hrel
    by_cases h0 : n = 0
    · subst h0
      have HF := Lib.hid (show fracL 16 r0 = ds by rw [hfr]; simp [restL])
      clear hfr hdv
      go_wp2
      go_ret
      exact ⟨ret_str HF.out.symm, rfl⟩
    · have hk : ds.length < 16 := by
        refine Nat.lt_of_not_le fun h => h0 (dvd_end n ?_ hn)
        rw [show ds.length = 16 by omega] at hdv; exact hdv
      have HR := Lib.hid (rest_step ds.length n hk h0)
      have HV := Lib.hid (dvd_step ds.length n hk hdv)
      have HF := Lib.hid hfr
      obtain ⟨qq, hqq⟩ : ∃ q, q = n * 10 / 65536 := ⟨_, rfl⟩
      obtain ⟨nn, hnn⟩ : ∃ n1, n1 = n * 10 % 65536 := ⟨_, rfl⟩
      have f1 : (n : Int) * 10 / 65536 = (qq : Int) := by omega
      have f2 : (n : Int) * 10 % 65536 = (nn : Int) := by omega
      have hqq10 : qq < 10 := by omega
      have hnnlt : nn < 65536 := by omega
      have HC2 := Lib.hid (fun w => digits_small qq hqq10 w)
      have HQ2 := Lib.hid hqq
      have HN2 := Lib.hid hnn
      have HDQ2 := Lib.hid (dec_dgt qq hqq10)
      have hpos : (0 : Int) < (n : Int) := by omega
      have HS := Lib.hid (str_snoc ds (dgt qq))
      have hlim : ¬ 9223372036854775807 < ds.length + 1 := by omega
      clear hqq hnn hfr hdv
      go_wp2_with (go_at_call 36; (with_reducible refine (HC2.out _).mono ?_); rintro e w' ⟨rfl, hw⟩; replace hw := hw.symm; subst hw; rw [HDQ2.out])
      go_round
      case rel => exact ⟨nn, ds ++ [dgt qq], hnnlt, congrArg (Value.int .i64) f2, by rw [← HS.out], by simp; omega, by rw [HN2.out]; simpa using HV.out, by rw [HF.out, HR.out, HQ2.out, HN2.out]; simp⟩
      case measure => simp [strLen, ByteArray.size]; omega
end Go.Proofs.YtikkmcgbmiddaaaDoor
