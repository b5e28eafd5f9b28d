/-
  Contracts of the readers of scalar.Parse: parseDigits, signed, parseFraction, parseInt and parseFix, as plain functions on lists of bytes.
-/
import Derived.Test.YtikkmcgbmiddaaaDoorMem
import Derived.WalkKit
import Derived.ProofKit
import Derived.OpenShut
namespace Go.Proofs.YtikkmcgbmiddaaaDoor
open Go.ChangeShapes Go.WideShapes Go.ChangeAt Go.RowKit

def isDig (c : UInt8) : Bool := decide (48 ≤ c.toNat ∧ c.toNat ≤ 57)
/-- The number with the given digits. -/
def digN (l : List UInt8) : Int := l.foldl (fun n c => 10 * n + ((c.toNat : Int) - 48)) 0
/-- Digits alone, at least one and at most sixteen. -/
def digOk (l : List UInt8) : Bool := decide (l ≠ [] ∧ l.length ≤ 16 ∧ ∀ c ∈ l, isDig c = true)
theorem digN_snoc (l : List UInt8) (c : UInt8) : digN (l ++ [c]) = 10 * digN l + ((c.toNat : Int) - 48) := by unfold digN; simp
theorem take_snoc (s : ByteArray) (k : Nat) (h : k < s.size) : s.data.toList.take (k + 1) = s.data.toList.take k ++ [s[k]] := by
  rw [List.take_succ_eq_append_getElem (by simpa using h)]; rfl
theorem digN_rng (l : List UInt8) (h : ∀ c ∈ l, isDig c = true) : 0 ≤ digN l ∧ digN l < 10 ^ l.length := by
  generalize hn : l.length = n
  induction n generalizing l with
  | zero => obtain rfl := List.length_eq_zero_iff.1 hn; simp [digN]
  | succ n ih =>
    obtain ⟨r, c, rfl⟩ : ∃ r c, l = r ++ [c] := ⟨l.dropLast, l.getLast (by intro e; simp [e] at hn), (List.dropLast_concat_getLast _).symm⟩
    rw [digN_snoc]
    have := ih r (fun d hd => h d (by simp [hd])) (by simpa using hn)
    have hc := h c (by simp)
    unfold isDig at hc
    simp at hc
    rw [Int.pow_succ]
    omega
theorem pow16 (k : Nat) (h : k ≤ 16) : (10 : Int) ^ k ≤ 10000000000000000 := by
  have : (10 : Nat) ^ k ≤ 10 ^ 16 := Nat.pow_le_pow_right (by omega) h
  have e : ((10 ^ k : Nat) : Int) = (10 : Int) ^ k := by simp
  omega

def sgn (b : Bool) (n : Int) : Int := wrap32 (if b = true then -n else n)
theorem sgn_64 (b : Bool) (n : Int) : sgn b (wrap64 n) = sgn b n := by
  unfold sgn; cases b <;> simp <;> unfold wrap32 wrap64 <;> omega
theorem sgn_6464 (b : Bool) (x y : Int) : sgn b (wrap64 (wrap64 (x * 65536) + y)) = sgn b (x * 65536 + y) := by
  unfold sgn; cases b <;> simp <;> unfold wrap32 wrap64 <;> omega
theorem sgn_pos (n : Int) : sgn false n = wrap32 n := rfl
theorem sgn_neg (n : Int) : sgn true n = wrap32 (wrap64 (-n)) := by
  unfold sgn; simp; unfold wrap32 wrap64; omega
theorem signed_any (n : Int) (neg : Bool) (w : World) :
    Calls Tryd.prog 61 #[.int .i64 n, .bool neg] w fun e w' => e = .returned (.int .i32 (sgn neg n)) ∧ w' = w := by
  cases neg
  · rw [sgn_pos]
    go_enter Tryd.func61, Tryd.ntmps61
    go_wp2
    go_ret
    exact ⟨rfl, rfl⟩
  · rw [sgn_neg]
    go_enter Tryd.func61, Tryd.ntmps61
    go_wp2
    go_ret
    exact ⟨rfl, rfl⟩

theorem ret2_i64b {a b : Int} {c d : Bool} (h : a = b) (h2 : c = d) : Ending.returned (.tuple #[.int .i64 a, .bool c]) = .returned (.tuple #[.int .i64 b, .bool d]) := by rw [h, h2]
/-- What parseDigits returns. -/
def digV (l : List UInt8) : Int := if digOk l = true then digN l else 0
theorem digV_yes {l : List UInt8} (h : digOk l = true) : digV l = digN l := if_pos h
theorem digV_no {l : List UInt8} (h : digOk l = false) : digV l = 0 := if_neg (by simp [h])
theorem digV_rng (l : List UInt8) : 0 ≤ digV l ∧ digV l < 10000000000000000 := by
  unfold digV
  split
  · rename_i h
    unfold digOk at h
    simp only [decide_eq_true_eq] at h
    have := digN_rng l h.2.2
    have := pow16 l.length h.2.1
    omega
  · omega

theorem toList_len (s : ByteArray) : s.toList = s.data.toList := Lib.toList_data s

theorem digits_any (s : ByteArray) (w : World) (hs : s.size ≤ 140737488351232) :
    Calls Tryd.prog 60 #[.string s] w fun e w' => e = .returned (.tuple #[.int .i64 (digV s.data.toList), .bool (digOk s.data.toList)]) ∧ w' = w := by
  by_cases h0 : s.size = 0
  · have e : digOk s.data.toList = false := by
      unfold digOk; simp only [decide_eq_false_iff_not]; rintro ⟨h, _⟩; exact h (List.length_eq_zero_iff.1 (by rw [← Lib.size_eq]; exact h0))
    rw [digV_no e, e]
    have he : s.toList = [] := by rw [toList_len]; exact List.length_eq_zero_iff.1 (by rw [← Lib.size_eq]; exact h0)
    have he2 : (!s.toList.isEmpty) = false := by rw [he]; rfl
    have he3 : s.toList.isEmpty = true := by rw [he]; rfl
    clear e
    go_enter Tryd.func60, Tryd.ntmps60
    go_wp2
    go_ret2
    exact ⟨rfl, rfl⟩
  · have he : s.toList.isEmpty = false := by
      rw [toList_len]
      cases hl : s.data.toList with
      | nil => exact absurd (by rw [Lib.size_eq, hl]; rfl) h0
      | cons a l => rfl
    have he2 : (!s.toList.isEmpty) = true := by rw [he]; rfl
    by_cases h16 : 16 < s.size
    · have e : digOk s.data.toList = false := by
        unfold digOk; simp only [decide_eq_false_iff_not]; rintro ⟨_, h, _⟩; rw [← Lib.size_eq] at h; omega
      rw [digV_no e, e]
      clear e
      have h16' : (16 : Int) < s.size := by omega
      go_enter Tryd.func60, Tryd.ntmps60
      go_wp2
      go_ret2
      exact ⟨rfl, rfl⟩
    · have h16' : (s.size : Int) ≤ 16 := by omega
      go_enter Tryd.func60, Tryd.ntmps60
      go_wp2
      go_loop [4, 16] (fun n i => ∃ k : Nat, k ≤ s.size ∧ i = .int .i64 k ∧ n = .int .i64 (digN (s.data.toList.take k)) ∧ ∀ c ∈ s.data.toList.take k, isDig c = true) (fun _ i => s.size - (intOf i).toNat)
      case atStart => exact ⟨0, Nat.zero_le _, rfl, rfl, by simp⟩
      case round =>
        obtain ⟨k, hk, rfl, rfl, hall⟩ := hrel
        have hr := digN_rng _ hall
        have hp := pow16 (s.data.toList.take k).length (by rw [List.length_take]; omega)
        obtain ⟨hr1, hr2⟩ := hr
        have hr3 : digN (s.data.toList.take k) ≤ 10000000000000000 := by omega
        clear hr2 hp
        have HA := Lib.hid hall
        clear hall
        by_cases hlt : k < s.size
        · by_cases hd : 48 ≤ s[k].toNat ∧ s[k].toNat ≤ 57
          · have hsn := digN_snoc (s.data.toList.take k) s[k]
            have hts := take_snoc s k hlt
            have HS := Lib.hid (show digN (s.data.toList.take (k + 1)) = 10 * digN (s.data.toList.take k) + ((s[k].toNat : Int) - 48) by rw [hts]; exact hsn)
            have HT := Lib.hid (show ∀ c ∈ s.data.toList.take (k + 1), isDig c = true by
              rw [hts]; intro c hc; rcases List.mem_append.1 hc with h | h
              · exact HA.out c h
              · obtain rfl := List.mem_singleton.1 h; unfold isDig; exact decide_eq_true hd)
            clear hsn hts
            obtain ⟨hd1, hd2⟩ := hd
            have hd3 : (48 : Int) ≤ s[k].toNat := by omega
            have hd4 : (s[k].toNat : Int) ≤ 57 := by omega
            go_wp2
            go_round
            case rel => exact ⟨k + 1, by omega, by go_num, by rw [HS.out], HT.out⟩
            case measure => simp [intOf]; omega
          · have hno : digOk s.data.toList = false := by
              unfold digOk; simp only [decide_eq_false_iff_not]; rintro ⟨_, _, h⟩
              have := h s[k] (by show s.data[k] ∈ s.data.toList; simp)
              unfold isDig at this
              exact hd (of_decide_eq_true this)
            have HV := Lib.hid (digV_no hno)
            have HN := Lib.hid hno
            clear hno
            by_cases hlo : s[k].toNat < 48
            · have hd3 : (s[k].toNat : Int) < 48 := by omega
              go_wp2
              go_ret2
              exact ⟨ret2_i64b HV.out.symm HN.out.symm, rfl⟩
            · have hd3 : (48 : Int) ≤ s[k].toNat := by omega
              have hd4 : (57 : Int) < s[k].toNat := by omega
              clear hlo hd
              go_wp2
              go_ret2
              exact ⟨ret2_i64b HV.out.symm HN.out.symm, rfl⟩
        · obtain rfl : k = s.size := by omega
          have hT : s.data.toList.take s.size = s.data.toList := List.take_of_length_le (by rw [← Lib.size_eq]; omega)
          have hok : digOk s.data.toList = true := by
            unfold digOk
            refine decide_eq_true ⟨?_, by rw [← Lib.size_eq]; omega, by rw [← hT]; exact HA.out⟩
            intro e; rw [Lib.size_eq, e] at h0; exact h0 rfl
          have HV := Lib.hid (digV_yes hok)
          have HN := Lib.hid hok
          have HT := Lib.hid hT
          clear hT hok
          go_wp2
          go_ret2
          exact ⟨ret2_i64b (by rw [HV.out, HT.out]) HN.out.symm, rfl⟩

theorem frac_step (m q p : Int) (hq : m = q * p) (h5 : q % 5 = 0) : m = q / 5 * (p * 5) := by
  obtain ⟨r, hr⟩ : ∃ r, q = r * 5 := ⟨q / 5, by omega⟩
  subst hr
  rw [Int.mul_ediv_cancel _ (by decide), hq, Int.mul_assoc, Int.mul_comm 5]
theorem pow5_pos (k : Nat) : (0 : Int) < 5 ^ k := Int.pow_pos (by omega)
theorem pow2_pos (k : Nat) : (0 : Int) < 2 ^ k := Int.pow_pos (by omega)
theorem frac_no (m q : Int) (k L : Nat) (hk : k < L) (hq : m = q * 5 ^ k) (h5 : q % 5 ≠ 0) : ¬ (5 : Int) ^ L ∣ m := by
  rintro ⟨c, hc⟩
  obtain ⟨j, rfl⟩ : ∃ j, L = k + (j + 1) := ⟨L - k - 1, by omega⟩
  have e : (5 : Int) ^ k * q = 5 ^ k * (5 ^ j * 5 * c) := by
    rw [Int.mul_comm, ← hq, hc, Int.pow_add, Int.pow_succ]; simp [Int.mul_assoc]
  have h := Int.eq_of_mul_eq_mul_left (by have := pow5_pos k; omega) e
  have : q = 5 * (5 ^ j * c) := by rw [h]; rw [Int.mul_assoc, Int.mul_comm, Int.mul_assoc, Int.mul_comm c]
  omega
theorem frac_q (q : Int) (L : Nat) (h : q * 5 ^ L < 10 ^ L) : q < 2 ^ L := by
  have e : (10 : Int) ^ L = 2 ^ L * 5 ^ L := by rw [← Int.mul_pow]; rfl
  rw [e] at h
  exact Int.lt_of_mul_lt_mul_right h (by have := pow5_pos L; omega)
theorem frac_lt (q : Int) (L : Nat) (hL : L ≤ 16) (h : q < 2 ^ L) : q * 2 ^ (16 - L) < 65536 := by
  have e : (65536 : Int) = 2 ^ L * 2 ^ (16 - L) := by rw [← Int.pow_add, show L + (16 - L) = 16 by omega]; rfl
  rw [e]
  exact Int.mul_lt_mul_of_pos_right h (pow2_pos _)

/-- What parseFraction returns: the fraction times 2^16, if that is an integer. -/
def frOk (l : List UInt8) : Bool := digOk l && decide ((5 : Int) ^ l.length ∣ digN l)
def frV (l : List UInt8) : Int := if frOk l = true then digN l / 5 ^ l.length * 2 ^ (16 - l.length) else 0

theorem frac_any (s : ByteArray) (w : World) (hs : s.size ≤ 140737488351232) :
    Calls Tryd.prog 63 #[.string s] w fun e w' => e = .returned (.tuple #[.int .i64 (frV s.data.toList), .bool (frOk s.data.toList)]) ∧ w' = w := by
  cases hd : digOk s.data.toList
  · have e : frOk s.data.toList = false := by unfold frOk; rw [hd]; rfl
    have e2 : frV s.data.toList = 0 := by unfold frV; rw [e]; rfl
    rw [e, e2]
    clear e e2
    have H := digits_any s w hs
    rw [hd] at H
    clear hd
    go_enter Tryd.func63, Tryd.ntmps63
    go_wp2_with (go_at_call 60; refine H.mono ?_; rintro e w' ⟨rfl, rfl⟩)
    go_ret2
    exact ⟨rfl, rfl⟩
  · have H := digits_any s w hs
    rw [hd, digV_yes hd] at H
    have hd' : s.data.toList ≠ [] ∧ s.data.toList.length ≤ 16 ∧ ∀ c ∈ s.data.toList, isDig c = true := by
      unfold digOk at hd; exact of_decide_eq_true hd
    have hr := digN_rng _ hd'.2.2
    have hl : s.size ≤ 16 := by rw [Lib.size_eq]; exact hd'.2.1
    have hp := pow16 _ hd'.2.1
    obtain ⟨m, hm⟩ : ∃ m, m = digN s.data.toList := ⟨_, rfl⟩
    rw [← hm] at H hr
    obtain ⟨hr1, hr2⟩ := hr
    have hr3 : m ≤ 10000000000000000 := by omega
    have HM := Lib.hid hm
    have HR := Lib.hid hr2
    have HD := Lib.hid hd
    have HC := Lib.hid H
    clear hd hd' hp hr2 hm H
    go_enter Tryd.func63, Tryd.ntmps63
    go_wp2_with (go_at_call 60; refine HC.out.mono ?_; rintro e w' ⟨rfl, rfl⟩)
    go_loop [4, 15] (fun n i => ∃ k : Nat, ∃ q : Int, k ≤ s.size ∧ i = .int .i64 k ∧ n = .int .i64 q ∧ m = q * 5 ^ k ∧ 0 ≤ q ∧ q ≤ 10000000000000000) (fun _ i => s.size - (intOf i).toNat)
    case atStart => exact ⟨0, m, Nat.zero_le _, rfl, rfl, by simp, hr1, hr3⟩
    case round =>
      obtain ⟨k, q, hk, rfl, rfl, hq, hq1, hq2⟩ := hrel
      have HQ := Lib.hid hq
      clear hq
      by_cases hlt : k < s.size
      · by_cases h5 : q % 5 = 0
        · have HN := Lib.hid (show m = q / 5 * 5 ^ (k + 1) by rw [Int.pow_succ]; exact frac_step m q _ HQ.out h5)
          have hb : (q % 5 != 0) = false := by simp [h5]
          have hq3 : 0 ≤ q / 5 := by omega
          have hq4 : q / 5 ≤ 10000000000000000 := by omega
          clear h5
          go_wp2
          go_round
          case rel => exact ⟨k + 1, q / 5, by omega, by go_num, rfl, HN.out, hq3, hq4⟩
          case measure => simp [intOf]; omega
        · have hb : (q % 5 != 0) = true := by simp [h5]
          have HE := Lib.hid (show frOk s.data.toList = false by
            unfold frOk; rw [HD.out, ← HM.out, Bool.true_and, decide_eq_false_iff_not]
            exact frac_no m q k _ (by rw [← Lib.size_eq]; exact hlt) HQ.out h5)
          have HF := Lib.hid (show frV s.data.toList = 0 by unfold frV; rw [HE.out]; rfl)
          clear h5
          go_wp2
          go_ret2
          exact ⟨ret2_i64b HF.out.symm HE.out.symm, rfl⟩
      · obtain rfl : k = s.size := by omega
        have HE := Lib.hid (show frOk s.data.toList = true by
          unfold frOk; rw [HD.out, ← HM.out, Bool.true_and, decide_eq_true_eq, ← Lib.size_eq]
          exact ⟨q, by rw [HQ.out, Int.mul_comm]⟩)
        have HF := Lib.hid (show frV s.data.toList = wrap64 (q * 2 ^ (16 - s.size)) by
          unfold frV; rw [HE.out, if_pos rfl, ← HM.out, ← Lib.size_eq, HQ.out, Int.mul_ediv_cancel _ (by have := pow5_pos s.size; omega)]
          have h1 := frac_q q s.size (by rw [← HQ.out, Lib.size_eq]; exact HR.out)
          have h2 := frac_lt q s.size hl h1
          have h3 : 0 ≤ q * 2 ^ (16 - s.size) := Int.mul_nonneg hq1 (by have := pow2_pos (16 - s.size); omega)
          exact (IntWalk.wrap64_in _ (by omega)).symm)
        clear hlt
        go_wp2
        go_ret2
        exact ⟨ret2_i64b HF.out.symm HE.out.symm, rfl⟩

theorem frV_rng (l : List UInt8) : 0 ≤ frV l ∧ frV l < 65536 := by
  unfold frV
  split
  · rename_i h
    unfold frOk at h
    simp only [Bool.and_eq_true, decide_eq_true_eq] at h
    obtain ⟨hd, q, hq⟩ := h
    unfold digOk at hd
    simp only [decide_eq_true_eq] at hd
    have hr := digN_rng _ hd.2.2
    rw [hq, Int.mul_comm] at hr
    rw [hq, Int.mul_ediv_cancel_left _ (by have := pow5_pos l.length; omega)]
    have h1 := frac_q q l.length hr.2
    have h2 := frac_lt q l.length hd.2.1 h1
    have hq1 : 0 ≤ q := by
      have : 0 * (5 : Int) ^ l.length ≤ q * 5 ^ l.length := by rw [Int.zero_mul]; exact hr.1
      exact Int.le_of_mul_le_mul_right this (pow5_pos _)
    exact ⟨Int.mul_nonneg hq1 (by have := pow2_pos (16 - l.length); omega), h2⟩
  · omega

/-- The part behind a minus sign, and whether there is one. -/
def unsign (l : List UInt8) : List UInt8 := Lib.trimPrefix l [45]
def minus (l : List UInt8) : Bool := Lib.hasPrefix l [45]
def intV (l : List UInt8) : Int := sgn (minus l) (digV (unsign l))
def intOk (l : List UInt8) : Bool := digOk (unsign l)
def fixV (l : List UInt8) : Int := sgn (minus l) (digV (Lib.cut (unsign l) [46]).1 * 65536 + frV (Lib.cut (unsign l) [46]).2.1)
def fixOk (l : List UInt8) : Bool := (Lib.cut (unsign l) [46]).2.2 && digOk (Lib.cut (unsign l) [46]).1 && frOk (Lib.cut (unsign l) [46]).2.1

theorem unsign_len (l : List UInt8) : (unsign l).length ≤ l.length := by
  unfold unsign Lib.trimPrefix; split
  · simp
  · omega
theorem cut1_len (l p : List UInt8) : (Lib.cut l p).1.length ≤ l.length := by
  unfold Lib.cut; split
  · simp; omega
  · simp
theorem cut2_len (l p : List UInt8) : (Lib.cut l p).2.1.length ≤ l.length := by
  unfold Lib.cut; split
  · simp
  · simp
theorem ret2_i32b {a b : Int} {c d : Bool} (h : a = b) (h2 : c = d) : Ending.returned (.tuple #[.int .i32 a, .bool c]) = .returned (.tuple #[.int .i32 b, .bool d]) := by rw [h, h2]

theorem parseInt_any (s : ByteArray) (w : World) (hs : s.size ≤ 140737488351232) :
    Calls Tryd.prog 50 #[.string s] w fun e w' => e = .returned (.tuple #[.int .i32 (intV s.data.toList), .bool (intOk s.data.toList)]) ∧ w' = w := by
  have hu : (⟨(unsign s.data.toList).toArray⟩ : ByteArray).size ≤ 140737488351232 := by
    have := unsign_len s.data.toList
    rw [Lib.size_eq] at hs ⊢
    simp; omega
  have H59 := Tryd.strings_CutPrefix s ⟨#[45]⟩ w
  have H60 := digits_any _ w hu
  have H61 := signed_any (digV (unsign s.data.toList)) (minus s.data.toList) w
  have HH := Lib.hid H59
  have HI := Lib.hid H60
  have HJ := Lib.hid H61
  clear H59 H60 H61 hu
  go_enter Tryd.func50, Tryd.ntmps50
  go_wp2_with (first | (go_at_call 59; refine HH.out.mono ?_; rintro e w' ⟨rfl, hw⟩; subst hw) | (go_at_call 60; refine HI.out.mono ?_; rintro e w' ⟨rfl, hw⟩; subst hw) | (go_at_call 61; refine HJ.out.mono ?_; rintro e w' ⟨rfl, hw⟩; subst hw))
  go_ret2
  exact ⟨rfl, rfl⟩

theorem parseFix_any (s : ByteArray) (w : World) (m : Int) (hm : w.cell? ⟨1, 0, none⟩ = some (.int .i64 m)) (hs : s.size < 4294967281) :
    Calls Tryd.prog 51 #[.string s] w fun e w' => e = .returned (.tuple #[.int .i32 (fixV s.data.toList), .bool (fixOk s.data.toList)]) ∧ Below w.heap.size w w' := by
  have hu : (⟨(unsign s.data.toList).toArray⟩ : ByteArray).size < 4294967281 := by
    have := unsign_len s.data.toList
    rw [Lib.size_eq] at hs ⊢
    simp; omega
  have H59 := Tryd.strings_CutPrefix s ⟨#[45]⟩ w
  have H62 := Tryd.strings_Cut ⟨(unsign s.data.toList).toArray⟩ ⟨#[46]⟩ m w hu hm
  have h1 : (⟨(Lib.cut (unsign s.data.toList) [46]).1.toArray⟩ : ByteArray).size ≤ 140737488351232 := by
    have := cut1_len (unsign s.data.toList) [46]
    rw [Lib.size_eq] at hu ⊢
    simp at hu ⊢; omega
  have h2 : (⟨(Lib.cut (unsign s.data.toList) [46]).2.1.toArray⟩ : ByteArray).size ≤ 140737488351232 := by
    have := cut2_len (unsign s.data.toList) [46]
    rw [Lib.size_eq] at hu ⊢
    simp at hu ⊢; omega
  have H60 := fun w' => digits_any _ w' h1
  have H63 := fun w' => frac_any _ w' h2
  have H61 := fun w' n => signed_any n (minus s.data.toList) w'
  have HH := Lib.hid H59
  have HK := Lib.hid H62
  have HI := Lib.hid H60
  have HJ := Lib.hid H61
  have HF := Lib.hid H63
  clear H59 H60 H61 H62 H63 hu h1 h2 hm hs
  go_enter Tryd.func51, Tryd.ntmps51
  go_wp2_with (first | (go_at_call 59; refine HH.out.mono ?_; rintro e w' ⟨rfl, hw⟩; subst hw) | (go_at_call 62; refine HK.out.mono ?_; rintro e w' ⟨rfl, n, hw⟩; subst hw) | (go_at_call 60; refine (HI.out _).mono ?_; rintro e w' ⟨rfl, hw⟩; subst hw) | (go_at_call 63; refine (HF.out _).mono ?_; rintro e w' ⟨rfl, hw⟩; subst hw) | (go_at_call 61; refine (HJ.out _ _).mono ?_; rintro e w' ⟨rfl, hw⟩; subst hw))
  all_goals
    go_ret2
    exact ⟨ret2_i32b (sgn_6464 _ _ _) (by unfold fixOk; simp only [*, Bool.true_and, Bool.and_true, Bool.false_and, Bool.and_false]), ⟨rfl, rfl, rfl, Nat.le_refl _, fun _ _ => rfl⟩⟩
end Go.Proofs.YtikkmcgbmiddaaaDoor
