/-
  Contract of the reference's number: the digits at the beginning of a string, as a number of at most 2^40, and how many they are.
-/
import Derived.Test.YtikkmcgbmiddaaaDoorRefX
import Derived.Test.YtikkmcgbmiddaaaDoorRefA
import Derived.Test.YtikkmcgbmiddaaaDoorRefC
import Derived.Deep.QuietTactic
import Derived.BigQuiet
namespace Go.Proofs.YtikkmcgbmiddaaaDoor
open Go.ChangeShapes Go.WideShapes Go.ChangeAt Go.RowKit
set_option linter.unusedVariables false

/-- The number that the digits so far give, at most 2^40. -/
def capN (l : List UInt8) : Int := l.foldl (fun n c => min (10 * n + ((c.toNat : Int) - 48)) 1099511627776) 0
/-- How many digits stand at the beginning. -/
def leadN (l : List UInt8) : Nat := (l.takeWhile isDig).length
theorem capN_snoc (l : List UInt8) (c : UInt8) : capN (l ++ [c]) = min (10 * capN l + ((c.toNat : Int) - 48)) 1099511627776 := by unfold capN; simp
theorem capN_rng (l : List UInt8) (h : ∀ c ∈ l, isDig c = true) : 0 ≤ capN l ∧ capN l ≤ 1099511627776 := by
  generalize hn : l.length = n
  induction n generalizing l with
  | zero => obtain rfl := List.length_eq_zero_iff.1 hn; simp [capN]
  | succ n ih =>
    obtain ⟨r, c, rfl⟩ : ∃ r c, l = r ++ [c] := ⟨l.dropLast, l.getLast (by intro e; simp [e] at hn), (List.dropLast_concat_getLast _).symm⟩
    rw [capN_snoc]
    have := ih r (fun d hd => h d (by simp [hd])) (by simpa using hn)
    have hc := h c (by simp)
    unfold isDig at hc
    simp at hc
    omega
theorem lead_stop (l : List UInt8) (k : Nat) (hk : k < l.length) (h : ∀ c ∈ l.take k, isDig c = true) (hs : isDig l[k] = false) : leadN l = k := by
  unfold leadN
  induction l generalizing k with
  | nil => simp at hk
  | cons a l ih =>
    cases k with
    | zero => have : isDig a = false := hs; simp [this]
    | succ k =>
      have ha : isDig a = true := h a (by simp)
      rw [List.takeWhile_cons_of_pos ha]
      simp
      exact ih k (by simpa using hk) (fun c hc => h c (by simp [hc])) (by simpa using hs)
theorem lead_all (l : List UInt8) (h : ∀ c ∈ l, isDig c = true) : leadN l = l.length := by
  unfold leadN
  induction l with
  | nil => rfl
  | cons a l ih =>
    rw [List.takeWhile_cons_of_pos (h a (by simp))]
    simp; exact ih (fun c hc => h c (by simp [hc]))
theorem power_40 (w : World) : Calls Tryd.prog 45 #[.int .i64 40] w fun e w' => e = .returned (.int .i64 1099511627776) ∧ w' = w := by
  have H := power_c 40 w (by omega)
  rw [show (2 : Int) ^ 40 = 1099511627776 by decide] at H
  exact H
theorem ret2_nn {a b c d : Int} (h : a = b) (h2 : c = d) : Ending.returned (.tuple #[.int .i64 a, .int .i64 c]) = .returned (.tuple #[.int .i64 b, .int .i64 d]) := by rw [h, h2]

set_option maxHeartbeats 800000 in
theorem number_c (s : ByteArray) (w : World) (hs : s.size ≤ 140737488351232) :
    Calls Tryd.prog 53 #[.string s] w fun e w' => e = .returned (.tuple #[.int .i64 (capN (s.data.toList.take (leadN s.data.toList))), .int .i64 (leadN s.data.toList : Nat)]) ∧ Below w.heap.size w w' := by
  go_enter Tryd.func53, Tryd.ntmps53
  go_wp2
  go_loopw [4, 5] (fun nv iv wr => ∃ k : Nat, ∃ m : Int, k ≤ s.size ∧ iv = .int .i64 k ∧ nv = .int .i64 m ∧ m = capN (s.data.toList.take k) ∧ (∀ c ∈ s.data.toList.take k, isDig c = true) ∧ Below w.heap.size w wr) (fun _ iv _ => s.size - (intOf iv).toNat)
  case atStart => exact ⟨0, 0, Nat.zero_le _, rfl, rfl, by simp [capN], by simp, Below.refl _ _⟩
  case round =>
    obtain ⟨k, m, hk, rfl, rfl, hm, hall, hb⟩ := hrel
    have hr := capN_rng _ hall
    rw [← hm] at hr
    obtain ⟨hr1, hr2⟩ := hr
    have HA := Lib.hid hall
    have HM := Lib.hid hm
    have HB := Lib.hid hb
    clear hall hm hb
    by_cases hlt : k < s.size
    · have hsz : s.data.toList.length = s.size := (Lib.size_eq s).symm
      by_cases hd : 48 ≤ s[k].toNat ∧ s[k].toNat ≤ 57
      · have hts := take_snoc s k hlt
        have HS := Lib.hid (show capN (s.data.toList.take (k + 1)) = min (10 * m + ((s[k].toNat : Int) - 48)) 1099511627776 by rw [hts, capN_snoc, ← HM.out])
        have HT := Lib.hid (show ∀ c ∈ s.data.toList.take (k + 1), isDig c = true by
          rw [hts]; intro c hc; rcases List.mem_append.1 hc with h | h
          · exact HA.out c h
          · obtain rfl := List.mem_singleton.1 h; unfold isDig; exact decide_eq_true hd)
        clear hts hsz
        obtain ⟨hd1, hd2⟩ := hd
        have hd3 : (48 : Int) ≤ s[k].toNat := by omega
        have hd4 : (s[k].toNat : Int) ≤ 57 := by omega
        go_wp2
        go_quiet ((go_at_call 45; exact Calls.quiet_of_same (power_40 _)))
        all_goals
          go_wp2
          go_roundw
          case rel => exact ⟨k + 1, _, by omega, by go_num, rfl, HS.out.symm, HT.out, below_draw HB.out _⟩
          case measure => simp [intOf]; omega
      · have HL := Lib.hid (show leadN s.data.toList = k from lead_stop _ k (by rw [hsz]; exact hlt) HA.out (by unfold isDig; exact decide_eq_false hd))
        clear hsz
        by_cases hlo : s[k].toNat < 48
        · have hd3 : (s[k].toNat : Int) < 48 := by omega
          go_wp2
          go_ret2
          exact ⟨ret2_nn (by rw [HM.out, HL.out]) (by rw [HL.out]), HB.out⟩
        · have hd3 : (48 : Int) ≤ s[k].toNat := by omega
          have hd4 : (57 : Int) < s[k].toNat := by omega
          clear hlo hd
          go_wp2
          go_ret2
          exact ⟨ret2_nn (by rw [HM.out, HL.out]) (by rw [HL.out]), HB.out⟩
    · obtain rfl : k = s.size := by omega
      have hT : s.data.toList.take s.size = s.data.toList := List.take_of_length_le (by rw [← Lib.size_eq]; omega)
      have HL := Lib.hid (show leadN s.data.toList = s.size by rw [lead_all _ (by rw [← hT]; exact HA.out), ← Lib.size_eq])
      clear hT
      go_wp2
      go_ret2
      exact ⟨ret2_nn (by rw [HM.out, HL.out]) (by rw [HL.out]), HB.out⟩
end Go.Proofs.YtikkmcgbmiddaaaDoor
