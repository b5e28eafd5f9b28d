/-
  Contract of the reference's part: at most sixteen digits at the beginning of a string, as a fraction times 2^16, rounded down.
-/
import Derived.Test.YtikkmcgbmiddaaaDoorRefN
namespace Go.Proofs.YtikkmcgbmiddaaaDoor
open Go.ChangeShapes Go.WideShapes Go.ChangeAt Go.RowKit
set_option linter.unusedVariables false

/-- How many digits part reads. -/
def partJ (l : List UInt8) : Nat := min 16 (leadN l)
def partV (l : List UInt8) : Int := digN (l.take (partJ l)) * 65536 / 10 ^ partJ l
theorem part_math (n k : Int) (hk : 0 < k) : n * 256 / k * 256 + n * 256 % k * 256 / k = n * 65536 / k := by
  have h := Int.mul_ediv_add_emod (n * 256) k
  have e : n * 65536 = n * 256 % k * 256 + (n * 256 / k * 256) * k := by
    have h2 : (n * 256 / k * 256) * k = k * (n * 256 / k) * 256 := by rw [Int.mul_right_comm, Int.mul_comm (n * 256 / k) k]
    rw [h2]
    omega
  rw [e, Int.add_mul_ediv_right _ _ (by omega)]
  omega
theorem lead_le (l : List UInt8) : leadN l ≤ l.length := by
  unfold leadN; exact (List.takeWhile_sublist _).length_le
theorem lead_more (l : List UInt8) (k : Nat) (hk : k ≤ l.length) (h : ∀ c ∈ l.take k, isDig c = true) : k ≤ leadN l := by
  unfold leadN
  induction l generalizing k with
  | nil => simp at hk; omega
  | cons a l ih =>
    cases k with
    | zero => omega
    | succ k =>
      have ha : isDig a = true := h a (by simp)
      rw [List.takeWhile_cons_of_pos ha]
      simp
      exact ih k (by simpa using hk) (fun c hc => h c (by simp [hc]))
theorem pow10_pos (k : Nat) : (0 : Int) < 10 ^ k := Int.pow_pos (by omega)

theorem part_wrap (m p : Int) (h0 : 0 ≤ m) (h1 : m < p) (h2 : p ≤ 10000000000000000) : wrap64 (wrap64 (m * 256 / p * 256) + wrap64 ((wrap64 (m * 256 % p * 256)).tdiv p)) = m * 65536 / p := by
  have hm := part_math m p (by omega)
  have a0 : 0 ≤ m * 256 / p := Int.ediv_nonneg (by omega) (by omega)
  have a1 : m * 256 / p < 256 := Int.ediv_lt_of_lt_mul (by omega) (by omega)
  have b0 : 0 ≤ m * 256 % p := Int.emod_nonneg _ (by omega)
  have b1 : m * 256 % p < p := Int.emod_lt_of_pos _ (by omega)
  obtain ⟨a, ha⟩ : ∃ a, m * 256 / p = a := ⟨_, rfl⟩
  obtain ⟨b, hb⟩ : ∃ b, m * 256 % p = b := ⟨_, rfl⟩
  rw [ha, hb] at hm
  rw [ha] at a0 a1
  rw [hb] at b0 b1
  rw [ha, hb]
  clear ha hb
  have c0 : 0 ≤ b * 256 / p := Int.ediv_nonneg (by omega) (by omega)
  have c1 : b * 256 / p < 256 := Int.ediv_lt_of_lt_mul (by omega) (by omega)
  rw [IntWalk.wrap64_in (b * 256) (by omega), Int.tdiv_eq_ediv_of_nonneg (by omega)]
  obtain ⟨c, hc⟩ : ∃ c, b * 256 / p = c := ⟨_, rfl⟩
  rw [hc] at hm c0 c1 ⊢
  rw [IntWalk.wrap64_in (a * 256) (by omega), IntWalk.wrap64_in c (by omega), IntWalk.wrap64_in _ (by omega), hm]
theorem part_fin (l : List UInt8) (k : Nat) (m p : Int) (hm : m = digN (l.take k)) (hp : p = 10 ^ k) (hj : partJ l = k) (h0 : 0 ≤ m) (h1 : m < p) (h2 : p ≤ 10000000000000000) :
    wrap64 (wrap64 (m * 256 / p * 256) + wrap64 ((wrap64 (m * 256 % p * 256)).tdiv p)) = partV l := by
  rw [part_wrap m p h0 h1 h2]; unfold partV; rw [hj, ← hm, ← hp]

set_option maxHeartbeats 800000 in
theorem part_c (s : ByteArray) (w : World) (hs : s.size ≤ 140737488351232) :
    Calls Tryd.prog 54 #[.string s] w fun e w' => e = .returned (.int .i64 (partV s.data.toList)) ∧ w' = w := by
  go_enter Tryd.func54, Tryd.ntmps54
  go_wp2
  go_loop [3, 4, 5] (fun nv pv iv => ∃ k : Nat, ∃ m p : Int, k ≤ s.size ∧ k ≤ 16 ∧ iv = .int .i64 k ∧ nv = .int .i64 m ∧ pv = .int .i64 p ∧ m = digN (s.data.toList.take k) ∧ p = 10 ^ k ∧ (∀ c ∈ s.data.toList.take k, isDig c = true)) (fun _ _ iv => s.size - (intOf iv).toNat)
  case atStart => exact ⟨0, 0, 1, Nat.zero_le _, by omega, rfl, rfl, rfl, by simp [digN], by simp, by simp⟩
  case round =>
    obtain ⟨k, m, p, hk, hk16, rfl, rfl, rfl, hm, hp, hall⟩ := hrel
    have hsz : s.data.toList.length = s.size := (Lib.size_eq s).symm
    have hr := digN_rng _ hall
    have hp16 := pow16 k hk16
    have hp0 := pow10_pos k
    rw [← hm, List.length_take, hsz, Nat.min_eq_left hk, ← hp] at hr
    rw [← hp] at hp16 hp0
    obtain ⟨hr1, hr2⟩ := hr
    have HFIN := Lib.hid (fun hj => part_fin s.data.toList k m p hm hp hj hr1 hr2 hp16)
    have HLM := Lib.hid (lead_more s.data.toList k (by rw [hsz]; exact hk) hall)
    have HA := Lib.hid hall
    have HM := Lib.hid hm
    have HP := Lib.hid hp
    have hpz : (p == 0) = false := by simp; omega
    clear hall hm hp
    by_cases h16 : k = 16
    · have HJ := Lib.hid (show partJ s.data.toList = k by unfold partJ; have := HLM.out; omega)
      have hge : (16 : Int) ≤ (k : Int) := by omega
      clear hsz h16
      go_wp2
      all_goals
        go_ret
        exact ⟨ret_i64 (HFIN.out HJ.out), rfl⟩
    · have hlt16 : (k : Int) < 16 := by omega
      by_cases hlt : k < s.size
      · by_cases hd : 48 ≤ s[k].toNat ∧ s[k].toNat ≤ 57
        · have hts := take_snoc s k hlt
          have HS := Lib.hid (show digN (s.data.toList.take (k + 1)) = 10 * m + ((s[k].toNat : Int) - 48) by rw [hts, digN_snoc, ← HM.out])
          have HT := Lib.hid (show ∀ c ∈ s.data.toList.take (k + 1), isDig c = true by
            rw [hts]; intro c hc; rcases List.mem_append.1 hc with h | h
            · exact HA.out c h
            · obtain rfl := List.mem_singleton.1 h; unfold isDig; exact decide_eq_true hd)
          have HP2 := Lib.hid (show 10 * p = 10 ^ (k + 1) by rw [HP.out, Int.pow_succ, Int.mul_comm])
          clear hts hsz
          obtain ⟨hd1, hd2⟩ := hd
          have hd3 : (48 : Int) ≤ s[k].toNat := by omega
          have hd4 : (s[k].toNat : Int) ≤ 57 := by omega
          go_wp2
          go_round
          case rel => exact ⟨k + 1, 10 * m + ((s[k].toNat : Int) - 48), 10 * p, by omega, by omega, by go_num, rfl, rfl, HS.out.symm, HP2.out, HT.out⟩
          case measure => simp [intOf]; omega
        · have HJ := Lib.hid (show partJ s.data.toList = k by
            unfold partJ
            rw [lead_stop s.data.toList k (by rw [hsz]; exact hlt) HA.out (by unfold isDig; exact decide_eq_false hd)]; omega)
          clear hsz
          by_cases hlo : s[k].toNat < 48
          · have hd3 : (s[k].toNat : Int) < 48 := by omega
            go_wp2
            go_ret
            exact ⟨ret_i64 (HFIN.out HJ.out), rfl⟩
          · have hd3 : (48 : Int) ≤ s[k].toNat := by omega
            have hd4 : (57 : Int) < s[k].toNat := by omega
            clear hlo hd
            go_wp2
            go_ret
            exact ⟨ret_i64 (HFIN.out HJ.out), rfl⟩
      · have HJ := Lib.hid (show partJ s.data.toList = k by
          unfold partJ
          have h1 := HLM.out
          have h2 := lead_le s.data.toList
          rw [hsz] at h2
          omega)
        have hge : (s.size : Int) ≤ (k : Int) := by omega
        clear hsz
        go_wp2
        go_ret
        exact ⟨ret_i64 (HFIN.out HJ.out), rfl⟩
end Go.Proofs.YtikkmcgbmiddaaaDoor
