/-
  Contract of the reference's read and ParseIn.
-/
import Derived.Test.YtikkmcgbmiddaaaDoorTxM
import Derived.Deep.DeepCutAuto
import Derived.Deep.CutRange
namespace Go.Proofs.YtikkmcgbmiddaaaDoor
open Go.ChangeShapes Go.WideShapes Go.ChangeAt Go.RowKit
set_option linter.unusedVariables false

theorem read_3 (s : ByteArray) (w : World) : Calls Tryd.prog 38 #[.int .i64 3, .string s] w fun e w' => e = .returned (.int .i32 (refV 3 s.data.toList)) ∧ Below w.heap.size w w' := by
  by_cases ht : s.data.toList = [116, 114, 117, 101]
  · have e3 : refV 3 s.data.toList = 1 := by rw [ht]; decide
    have hs : s.toList = [116, 114, 117, 101] := by rw [Lib.toList_data]; exact ht
    have hs2 : (s.toList == [116, 114, 117, 101]) = true := by rw [hs]; rfl
    rw [e3]
    clear ht e3
    go_enter Tryd.func38, Tryd.ntmps38
    go_wp2_with (go_at_call 29; refine (Truth_c _ _).mono ?_; rintro e w' ⟨rfl, hw⟩; subst hw)
    go_ret
    exact ⟨rfl, Below.refl _ _⟩
  · have e3 : refV 3 s.data.toList = 0 := by unfold refV tr; rw [if_pos rfl, if_neg ht]
    have hs2 : (s.toList == [116, 114, 117, 101]) = false := by rw [Lib.toList_data]; simpa using ht
    rw [e3]
    clear ht e3
    go_enter Tryd.func38, Tryd.ntmps38
    go_wp2_with (go_at_call 29; refine (Truth_c _ _).mono ?_; rintro e w' ⟨rfl, hw⟩; subst hw)
    go_ret
    exact ⟨rfl, Below.refl _ _⟩
theorem power_20 (w : World) : Calls Tryd.prog 45 #[.int .i64 20] w fun e w' => e = .returned (.int .i64 1048576) ∧ w' = w := by
  have H := power_c 20 w (by omega)
  rw [show (2 : Int) ^ 20 = 1048576 by decide] at H
  exact H
theorem ext_tail (s : ByteArray) (k : Nat) : (s.extract k s.size).data.toList = s.data.toList.drop k := by
  have := Lib.extract_to_end s k
  simpa using this
theorem unsign_e (s : ByteArray) (h : s.size = 0) : minus s.data.toList = false ∧ unsign s.data.toList = s.data.toList := by
  have : s.data.toList = [] := List.length_eq_zero_iff.1 (by rw [← Lib.size_eq]; exact h)
  rw [this]; decide
theorem head_of (s : ByteArray) (h : 0 < s.size) : s.data.toList = s[0] :: s.data.toList.drop 1 := by
  have e := Lib.size_eq s
  cases hl : s.data.toList with
  | nil => rw [hl] at e; simp only [List.length_nil] at e; omega
  | cons a l =>
    have : s[0] = s.data.toList[0]'(by rw [← Lib.size_eq]; exact h) := by simp; rfl
    rw [this]; simp [hl]
theorem unsign_m (s : ByteArray) (h : 0 < s.size) (hm : s[0].toNat = 45) : minus s.data.toList = true ∧ unsign s.data.toList = s.data.toList.drop 1 := by
  have h45 : s[0] = 45 := UInt8.toNat_inj.1 (by rw [hm]; rfl)
  have := minus_yes (s.data.toList.drop 1)
  rw [head_of s h, h45]; simpa using this
theorem unsign_p (s : ByteArray) (h : 0 < s.size) (hm : s[0].toNat ≠ 45) : minus s.data.toList = false ∧ unsign s.data.toList = s.data.toList := by
  have h45 : s[0] ≠ 45 := fun e => hm (by rw [e]; rfl)
  have := minus_no s[0] (s.data.toList.drop 1) h45
  rw [← head_of s h] at this; exact this
theorem lead_dig (l : List UInt8) : ∀ c ∈ l.take (leadN l), isDig c = true := by
  unfold leadN
  induction l with
  | nil => simp
  | cons a l ih =>
    by_cases ha : isDig a = true
    · rw [List.takeWhile_cons_of_pos ha]
      simp only [List.length_cons, List.take_succ_cons]
      intro c hc
      rcases List.mem_cons.1 hc with h | h
      · rw [h]; exact ha
      · exact ih c h
    · rw [List.takeWhile_cons_of_neg ha]; simp
theorem refN_int (t : Int) (l : List UInt8) (n : Int) (k : Nat) (h2 : ¬ t = 2) (hk : k = leadN l) (hn : n = capN (l.take k)) : refN t l = n := by
  unfold refN; rw [if_neg h2, hn, hk]
theorem refN_fix (u : ByteArray) (n : Int) (k : Nat) (hk : k = leadN u.data.toList) (hn : n = capN (u.data.toList.take k)) (hlt : k < u.size) : refN 2 u.data.toList = 65536 * min n 1048576 + partV (List.take (u.size - (k + 1)) (List.drop (k + 1) u.data.toList)) := by
  have e := Lib.size_eq u
  have ht : List.take (u.size - (k + 1)) (List.drop (k + 1) u.data.toList) = List.drop (k + 1) u.data.toList := List.take_of_length_le (by simp)
  unfold refN; rw [if_pos rfl, ← hk, ← hn, if_pos (by omega), ht]
theorem refN_fixn (u : ByteArray) (n : Int) (k : Nat) (hk : k = leadN u.data.toList) (hn : n = capN (u.data.toList.take k)) (hlt : (u.size : Int) ≤ k) : refN 2 u.data.toList = 65536 * min n 1048576 := by
  have e := Lib.size_eq u
  unfold refN; rw [if_pos rfl, ← hk, ← hn, if_neg (by omega)]; omega
theorem w32_f (x : Int) : wrap32 (wrap64 x) = sgn false x := by show wrap32 (wrap64 x) = wrap32 x; unfold wrap32 wrap64; omega
theorem w32_t (x : Int) : wrap32 (-(wrap64 x)) = sgn true x := by show wrap32 (-(wrap64 x)) = wrap32 (-x); unfold wrap32 wrap64; omega
theorem w32_tt (x : Int) : wrap32 (wrap64 (-(wrap64 x))) = sgn true x := by show wrap32 (wrap64 (-(wrap64 x))) = wrap32 (-x); unfold wrap32 wrap64; omega
set_option maxHeartbeats 800000 in
theorem read_e (t : Int) (s : ByteArray) (w : World) (hs : s.size ≤ 140737488351232) (h3 : (t == 3) = false) (h0 : s.size = 0) : Calls Tryd.prog 38 #[.int .i64 t, .string s] w fun e w' => e = .returned (.int .i32 (refV t s.data.toList)) ∧ Below w.heap.size w w' := by
  have HF := Lib.hid (unsign_e s h0)
  have h0' : ((s.size : Int)) ≤ 0 := by omega
  have HZ := Lib.hid h0
  clear h0
  have HR := Lib.hid (show ∀ u : ByteArray, u.data.toList = unsign s.data.toList → refV t s.data.toList = sgn false (refN t u.data.toList) by intro u hu; unfold refV; rw [if_neg (by simpa using h3), hu, HF.out.1])
  go_enter Tryd.func38, Tryd.ntmps38
  go_upto_if 21 with fail
  go_cut [1] (fun s1 wx => ∃ u : ByteArray, s1 = .string u ∧ u.size ≤ 140737488351232 ∧ u.data.toList = unsign s.data.toList ∧ wx = w)
  case first =>
      go_wp2_with fail
      go_meet
      exact ⟨s, rfl, hs, HF.out.2.symm, rfl⟩
  case rest =>
      obtain ⟨u, rfl, hus, hu, rfl⟩ := hcut
      have HE := Lib.hid (HR.out u hu)
      obtain ⟨n, hn⟩ : ∃ n, n = capN (u.data.toList.take (leadN u.data.toList)) := ⟨_, rfl⟩
      obtain ⟨k, hk⟩ : ∃ k, k = leadN u.data.toList := ⟨_, rfl⟩
      have hr := capN_rng (u.data.toList.take (leadN u.data.toList)) (lead_dig _)
      have hkl := lead_le u.data.toList
      have hN := number_c u wc hus
      rw [← hn, ← hk] at hN
      rw [← hn] at hr
      rw [← hk, ← Lib.size_eq] at hkl
      obtain ⟨hr1, hr2⟩ := hr
      have HN := Lib.hid hN
      have HU := Lib.hid hu
      have hx1 : -1099511627776 ≤ n := by omega
      have hx2 : (k : Int) ≤ 140737488351232 := by omega
      have hmin : (0 : Int) ≤ min n 1048576 := by omega
      have hmin2 : min n 1048576 ≤ 1048576 := by omega
      have HNK := Lib.hid (show n = capN (u.data.toList.take k) by rw [hk]; exact hn)
      have HK := Lib.hid hk
      clear hN hu hn hk
      by_cases h2 : t = 2
      · have h2b : (t == 2) = true := by simpa using h2
        have H2 := Lib.hid h2
        clear h2
        by_cases hlt : k < u.size
        · have hlt' : (k : Int) < (u.size : Int) := by omega
          have hk1 : (k : Int) + 1 ≤ (u.size : Int) := by omega
          have HP := Lib.hid (fun w => part_c (u.extract (k + 1) u.size) w (by simp; omega))
          have HPV := Lib.hid (ext_tail u (k + 1))
          go_wp2_with (first | (go_at_call 53; refine HN.out.mono ?_; rintro e w1 ⟨rfl, hb⟩) | (go_at_call 45; refine (power_20 _).mono ?_; rintro e w' ⟨rfl, hw⟩; subst hw) | (go_at_call 54; refine (HP.out _).mono ?_; rintro e w' ⟨rfl, hw⟩; subst hw) | (go_at_call 26; refine (refwrap_c _ _).mono ?_; rintro e w' ⟨rfl, hw⟩; subst hw))
          go_ret
          refine ⟨ret_i32 ?_, hb⟩
          rw [HE.out, H2.out, refN_fix u n k HK.out HNK.out hlt]
          first | exact w32_f _ | exact w32_t _ | exact w32_tt _
        · have hlt' : (u.size : Int) ≤ (k : Int) := by omega
          go_wp2_with (first | (go_at_call 53; refine HN.out.mono ?_; rintro e w1 ⟨rfl, hb⟩) | (go_at_call 45; refine (power_20 _).mono ?_; rintro e w' ⟨rfl, hw⟩; subst hw) | (go_at_call 54; refine (HP.out _).mono ?_; rintro e w' ⟨rfl, hw⟩; subst hw) | (go_at_call 26; refine (refwrap_c _ _).mono ?_; rintro e w' ⟨rfl, hw⟩; subst hw))
          go_ret
          refine ⟨ret_i32 ?_, hb⟩
          rw [HE.out, H2.out, refN_fixn u n k HK.out HNK.out hlt']
          rfl
      · have h2b : (t == 2) = false := by simpa using h2
        have H2 := Lib.hid h2
        clear h2
        go_wp2_with (first | (go_at_call 53; refine HN.out.mono ?_; rintro e w1 ⟨rfl, hb⟩) | (go_at_call 26; refine (refwrap_c _ _).mono ?_; rintro e w' ⟨rfl, hw⟩; subst hw))
        go_ret
        refine ⟨ret_i32 ?_, hb⟩
        rw [HE.out, refN_int t _ n k H2.out HK.out HNK.out]
        rfl
set_option maxHeartbeats 800000 in
theorem read_m (t : Int) (s : ByteArray) (w : World) (hs : s.size ≤ 140737488351232) (h3 : (t == 3) = false) (h0 : 0 < s.size) (hm : s[0].toNat = 45) : Calls Tryd.prog 38 #[.int .i64 t, .string s] w fun e w' => e = .returned (.int .i32 (refV t s.data.toList)) ∧ Below w.heap.size w w' := by
  have HF := Lib.hid (unsign_m s h0 hm)
  have h0' : (0 : Int) < (s.size : Int) := by omega
  have hm' : ((s[0].toNat : Int) == 45) = true := by simp [hm]
  clear hm
  have HR := Lib.hid (show ∀ u : ByteArray, u.data.toList = unsign s.data.toList → refV t s.data.toList = sgn true (refN t u.data.toList) by intro u hu; unfold refV; rw [if_neg (by simpa using h3), hu, HF.out.1])
  go_enter Tryd.func38, Tryd.ntmps38
  go_upto_if 21 with fail
  go_cut [1] (fun s1 wx => ∃ u : ByteArray, s1 = .string u ∧ u.size ≤ 140737488351232 ∧ u.data.toList = unsign s.data.toList ∧ wx = w)
  case first =>
      go_wp2_with fail
      go_meet
      exact ⟨_, rfl, (by simp; omega), (ext_tail s 1).trans HF.out.2.symm, rfl⟩
  case rest =>
      obtain ⟨u, rfl, hus, hu, rfl⟩ := hcut
      have HE := Lib.hid (HR.out u hu)
      obtain ⟨n, hn⟩ : ∃ n, n = capN (u.data.toList.take (leadN u.data.toList)) := ⟨_, rfl⟩
      obtain ⟨k, hk⟩ : ∃ k, k = leadN u.data.toList := ⟨_, rfl⟩
      have hr := capN_rng (u.data.toList.take (leadN u.data.toList)) (lead_dig _)
      have hkl := lead_le u.data.toList
      have hN := number_c u wc hus
      rw [← hn, ← hk] at hN
      rw [← hn] at hr
      rw [← hk, ← Lib.size_eq] at hkl
      obtain ⟨hr1, hr2⟩ := hr
      have HN := Lib.hid hN
      have HU := Lib.hid hu
      have hx1 : -1099511627776 ≤ n := by omega
      have hx2 : (k : Int) ≤ 140737488351232 := by omega
      have hmin : (0 : Int) ≤ min n 1048576 := by omega
      have hmin2 : min n 1048576 ≤ 1048576 := by omega
      have HNK := Lib.hid (show n = capN (u.data.toList.take k) by rw [hk]; exact hn)
      have HK := Lib.hid hk
      clear hN hu hn hk
      by_cases h2 : t = 2
      · have h2b : (t == 2) = true := by simpa using h2
        have H2 := Lib.hid h2
        clear h2
        by_cases hlt : k < u.size
        · have hlt' : (k : Int) < (u.size : Int) := by omega
          have hk1 : (k : Int) + 1 ≤ (u.size : Int) := by omega
          have HP := Lib.hid (fun w => part_c (u.extract (k + 1) u.size) w (by simp; omega))
          have HPV := Lib.hid (ext_tail u (k + 1))
          go_wp2_with (first | (go_at_call 53; refine HN.out.mono ?_; rintro e w1 ⟨rfl, hb⟩) | (go_at_call 45; refine (power_20 _).mono ?_; rintro e w' ⟨rfl, hw⟩; subst hw) | (go_at_call 54; refine (HP.out _).mono ?_; rintro e w' ⟨rfl, hw⟩; subst hw) | (go_at_call 26; refine (refwrap_c _ _).mono ?_; rintro e w' ⟨rfl, hw⟩; subst hw))
          go_ret
          refine ⟨ret_i32 ?_, hb⟩
          rw [HE.out, H2.out, refN_fix u n k HK.out HNK.out hlt]
          first | exact w32_f _ | exact w32_t _ | exact w32_tt _
        · have hlt' : (u.size : Int) ≤ (k : Int) := by omega
          go_wp2_with (first | (go_at_call 53; refine HN.out.mono ?_; rintro e w1 ⟨rfl, hb⟩) | (go_at_call 45; refine (power_20 _).mono ?_; rintro e w' ⟨rfl, hw⟩; subst hw) | (go_at_call 54; refine (HP.out _).mono ?_; rintro e w' ⟨rfl, hw⟩; subst hw) | (go_at_call 26; refine (refwrap_c _ _).mono ?_; rintro e w' ⟨rfl, hw⟩; subst hw))
          go_ret
          refine ⟨ret_i32 ?_, hb⟩
          rw [HE.out, H2.out, refN_fixn u n k HK.out HNK.out hlt']
          rfl
      · have h2b : (t == 2) = false := by simpa using h2
        have H2 := Lib.hid h2
        clear h2
        go_wp2_with (first | (go_at_call 53; refine HN.out.mono ?_; rintro e w1 ⟨rfl, hb⟩) | (go_at_call 26; refine (refwrap_c _ _).mono ?_; rintro e w' ⟨rfl, hw⟩; subst hw))
        go_ret
        refine ⟨ret_i32 ?_, hb⟩
        rw [HE.out, refN_int t _ n k H2.out HK.out HNK.out]
        rfl
set_option maxHeartbeats 800000 in
theorem read_p (t : Int) (s : ByteArray) (w : World) (hs : s.size ≤ 140737488351232) (h3 : (t == 3) = false) (h0 : 0 < s.size) (hm : s[0].toNat ≠ 45) : Calls Tryd.prog 38 #[.int .i64 t, .string s] w fun e w' => e = .returned (.int .i32 (refV t s.data.toList)) ∧ Below w.heap.size w w' := by
  have HF := Lib.hid (unsign_p s h0 hm)
  have h0' : (0 : Int) < (s.size : Int) := by omega
  have hm' : ((s[0].toNat : Int) == 45) = false := by simp; omega
  clear hm
  have HR := Lib.hid (show ∀ u : ByteArray, u.data.toList = unsign s.data.toList → refV t s.data.toList = sgn false (refN t u.data.toList) by intro u hu; unfold refV; rw [if_neg (by simpa using h3), hu, HF.out.1])
  go_enter Tryd.func38, Tryd.ntmps38
  go_upto_if 21 with fail
  go_cut [1] (fun s1 wx => ∃ u : ByteArray, s1 = .string u ∧ u.size ≤ 140737488351232 ∧ u.data.toList = unsign s.data.toList ∧ wx = w)
  case first =>
      go_wp2_with fail
      go_meet
      exact ⟨s, rfl, hs, HF.out.2.symm, rfl⟩
  case rest =>
      obtain ⟨u, rfl, hus, hu, rfl⟩ := hcut
      have HE := Lib.hid (HR.out u hu)
      obtain ⟨n, hn⟩ : ∃ n, n = capN (u.data.toList.take (leadN u.data.toList)) := ⟨_, rfl⟩
      obtain ⟨k, hk⟩ : ∃ k, k = leadN u.data.toList := ⟨_, rfl⟩
      have hr := capN_rng (u.data.toList.take (leadN u.data.toList)) (lead_dig _)
      have hkl := lead_le u.data.toList
      have hN := number_c u wc hus
      rw [← hn, ← hk] at hN
      rw [← hn] at hr
      rw [← hk, ← Lib.size_eq] at hkl
      obtain ⟨hr1, hr2⟩ := hr
      have HN := Lib.hid hN
      have HU := Lib.hid hu
      have hx1 : -1099511627776 ≤ n := by omega
      have hx2 : (k : Int) ≤ 140737488351232 := by omega
      have hmin : (0 : Int) ≤ min n 1048576 := by omega
      have hmin2 : min n 1048576 ≤ 1048576 := by omega
      have HNK := Lib.hid (show n = capN (u.data.toList.take k) by rw [hk]; exact hn)
      have HK := Lib.hid hk
      clear hN hu hn hk
      by_cases h2 : t = 2
      · have h2b : (t == 2) = true := by simpa using h2
        have H2 := Lib.hid h2
        clear h2
        by_cases hlt : k < u.size
        · have hlt' : (k : Int) < (u.size : Int) := by omega
          have hk1 : (k : Int) + 1 ≤ (u.size : Int) := by omega
          have HP := Lib.hid (fun w => part_c (u.extract (k + 1) u.size) w (by simp; omega))
          have HPV := Lib.hid (ext_tail u (k + 1))
          go_wp2_with (first | (go_at_call 53; refine HN.out.mono ?_; rintro e w1 ⟨rfl, hb⟩) | (go_at_call 45; refine (power_20 _).mono ?_; rintro e w' ⟨rfl, hw⟩; subst hw) | (go_at_call 54; refine (HP.out _).mono ?_; rintro e w' ⟨rfl, hw⟩; subst hw) | (go_at_call 26; refine (refwrap_c _ _).mono ?_; rintro e w' ⟨rfl, hw⟩; subst hw))
          go_ret
          refine ⟨ret_i32 ?_, hb⟩
          rw [HE.out, H2.out, refN_fix u n k HK.out HNK.out hlt]
          first | exact w32_f _ | exact w32_t _ | exact w32_tt _
        · have hlt' : (u.size : Int) ≤ (k : Int) := by omega
          go_wp2_with (first | (go_at_call 53; refine HN.out.mono ?_; rintro e w1 ⟨rfl, hb⟩) | (go_at_call 45; refine (power_20 _).mono ?_; rintro e w' ⟨rfl, hw⟩; subst hw) | (go_at_call 54; refine (HP.out _).mono ?_; rintro e w' ⟨rfl, hw⟩; subst hw) | (go_at_call 26; refine (refwrap_c _ _).mono ?_; rintro e w' ⟨rfl, hw⟩; subst hw))
          go_ret
          refine ⟨ret_i32 ?_, hb⟩
          rw [HE.out, H2.out, refN_fixn u n k HK.out HNK.out hlt']
          rfl
      · have h2b : (t == 2) = false := by simpa using h2
        have H2 := Lib.hid h2
        clear h2
        go_wp2_with (first | (go_at_call 53; refine HN.out.mono ?_; rintro e w1 ⟨rfl, hb⟩) | (go_at_call 26; refine (refwrap_c _ _).mono ?_; rintro e w' ⟨rfl, hw⟩; subst hw))
        go_ret
        refine ⟨ret_i32 ?_, hb⟩
        rw [HE.out, refN_int t _ n k H2.out HK.out HNK.out]
        rfl
/-- read, for every type and string. -/
theorem read_c (t : Int) (s : ByteArray) (w : World) (hs : s.size ≤ 140737488351232) : Calls Tryd.prog 38 #[.int .i64 t, .string s] w fun e w' => e = .returned (.int .i32 (refV t s.data.toList)) ∧ Below w.heap.size w w' := by
  by_cases h3 : t = 3
  · subst h3; exact read_3 s w
  · have h3b : (t == 3) = false := by simpa using h3
    by_cases h0 : s.size = 0
    · exact read_e t s w hs h3b h0
    · by_cases hm : s[0].toNat = 45
      · exact read_m t s w hs h3b (by omega) hm
      · exact read_p t s w hs h3b (by omega) hm
/-- ParseIn: what package scalar's Parse returns. -/
theorem par_ref {t : Int} {l : List UInt8} (ht : 1 ≤ t ∧ t ≤ 3) : (textV t (refV t l) = l → parV t l = refV t l ∧ parE t l = 0) ∧ (¬ textV t (refV t l) = l → parV t l = 0 ∧ parE t l = 3) := by
  obtain ⟨h1, h2⟩ := readers t l ht
  refine ⟨fun h => ?_, fun h => ?_⟩
  · have ho := h1.2 h
    obtain ⟨a, b⟩ := par_yes ht ho
    exact ⟨by rw [a, h2 ho], b⟩
  · exact par_no ht (by cases hp : parOk t l; rfl; exact absurd (h1.1 hp) h)
theorem ParseIn_no {w0 w : World} (t : Int) (s : ByteArray) (h : Run w0 w) (ht : isT t = false) : Calls Tryd.prog 19 #[.int .i64 t, .string s] w fun e w' => e = .returned (.agg #[.int .i32 (parV t s.data.toList), .int .i64 (parE t s.data.toList)]) ∧ Run w0 w' := by
  have H := Lib.hid h
  have ht2 : ¬ (1 ≤ t ∧ t ≤ 3) := of_decide_eq_false ht
  have e1 : parV t s.data.toList = 0 := by unfold parV; rw [if_neg (fun x => ht2 ⟨x.1, x.2.1⟩)]
  have e2 : parE t s.data.toList = 1 := by unfold parE; rw [if_neg ht2]
  rw [e1, e2]
  have HK := fun w => kind_c t w
  rw [ht] at HK
  have HKK := Lib.hid HK
  clear h ht ht2 e1 e2 HK
  go_enter Tryd.func19, Tryd.ntmps19
  go_wp2_with (go_at_call 35; (with_reducible refine (HKK.out _).mono ?_); rintro e w' ⟨rfl, hw⟩; replace hw := hw.symm; subst hw)
  exact bodyPost_ret (v := .agg #[.int .i32 0, .int .i64 1]) (by simp [results, Tryd.results19, go_sem]) rfl ⟨rfl, H.out.on (((Below.refl _ _).alloc (Nat.le_refl _) _))⟩
set_option maxHeartbeats 800000 in
theorem ParseIn_yes {w0 w : World} (t : Int) (s : ByteArray) (h : Run w0 w) (ht : isT t = true) (hs : s.size ≤ 140737488351232) : Calls Tryd.prog 19 #[.int .i64 t, .string s] w fun e w' => e = .returned (.agg #[.int .i32 (parV t s.data.toList), .int .i64 (parE t s.data.toList)]) ∧ Run w0 w' := by
  have H := Lib.hid h
  have ht2 : (1 ≤ t ∧ t ≤ 3) := of_decide_eq_true ht
  have HK := fun w => kind_c t w
  rw [ht] at HK
  have HKK := Lib.hid HK
  have HR := Lib.hid (fun w => read_c t s w hs)
  obtain ⟨hp1, hp2⟩ := par_ref (l := s.data.toList) ht2
  have he := refE t s.data.toList ht2
  have HX := Lib.hid (show ∀ w, Run w0 w → Calls Tryd.prog 18 #[.int .i64 t, .int .i32 (refV t s.data.toList)] w fun e w' => e = .returned (.agg #[.string ⟨(textV t (refV t s.data.toList)).toArray⟩, .int .i64 0]) ∧ Run w0 w' ∧ Below w.heap.size w w' by
    intro w hw
    have := TextIn_c t (refV t s.data.toList) (Run.start hw.2) (refV_rng t _)
    rw [he] at this
    exact this.mono fun _ _ ⟨a, b⟩ => ⟨a, hw.on b.1, b.1⟩)
  clear h ht HK
  by_cases hq : textV t (refV t s.data.toList) = s.data.toList
  · obtain ⟨e1, e2⟩ := hp1 hq
    rw [e1, e2]
    have hq1 : (textV t (refV t s.data.toList) == s.toList) = true := by rw [Lib.toList_data, hq]; simp
    have hq2 : (!textV t (refV t s.data.toList) == s.toList) = false := by rw [hq1]; rfl
    clear hp1 hp2 e1 e2 hq he ht2
    go_enter Tryd.func19, Tryd.ntmps19
    go_wp2_with (first | (go_at_call 35; (with_reducible refine (HKK.out _).mono ?_); rintro e w' ⟨rfl, hw⟩; replace hw := hw.symm; subst hw) | (go_at_call 38; refine (HR.out _).mono ?_; rintro e w1 ⟨rfl, hb1⟩; have HB1 := Lib.hid hb1; obtain ⟨hc, hf⟩ := bcell hb1; have hz : w.heap.size < w1.heap.size := (by have := hb1.size; simp at this; omega); clear hb1) | (go_at_call 18; refine (HX.out _ (H.out.on (((Below.refl _ _).alloc (Nat.le_refl _) _).trans (HB1.out.mono (by simp))))).mono ?_; rintro e w2 ⟨rfl, hr2, hb2⟩; have HB2 := Lib.hid hb2; have HR2 := Lib.hid hr2; obtain ⟨hc2, hf2⟩ := bcell hb2; have hz2 : w.heap.size < w2.heap.size := (by have := hb2.size; omega); clear hb2 hr2))
    exact bodyPost_ret (v := .agg #[.int .i32 (refV t s.data.toList), .int .i64 (0)]) (by simp [results, Tryd.results19, go_sem, hc, hc2, hz]) rfl ⟨rfl, H.out.on ((((Below.refl _ _).alloc (Nat.le_refl _) _).trans ((HB1.out.trans (HB2.out.mono HB1.out.size)).mono (by simp))).setCell (by simp) _ |>.setCell (by simp) _)⟩
  · obtain ⟨e1, e2⟩ := hp2 hq
    rw [e1, e2]
    have hq1 : (textV t (refV t s.data.toList) == s.toList) = false := by rw [Lib.toList_data]; simpa using hq
    have hq2 : (!textV t (refV t s.data.toList) == s.toList) = true := by rw [hq1]; rfl
    clear hp1 hp2 e1 e2 hq he ht2
    go_enter Tryd.func19, Tryd.ntmps19
    go_wp2_with (first | (go_at_call 35; (with_reducible refine (HKK.out _).mono ?_); rintro e w' ⟨rfl, hw⟩; replace hw := hw.symm; subst hw) | (go_at_call 38; refine (HR.out _).mono ?_; rintro e w1 ⟨rfl, hb1⟩; have HB1 := Lib.hid hb1; obtain ⟨hc, hf⟩ := bcell hb1; have hz : w.heap.size < w1.heap.size := (by have := hb1.size; simp at this; omega); clear hb1) | (go_at_call 18; refine (HX.out _ (H.out.on (((Below.refl _ _).alloc (Nat.le_refl _) _).trans (HB1.out.mono (by simp))))).mono ?_; rintro e w2 ⟨rfl, hr2, hb2⟩; have HB2 := Lib.hid hb2; have HR2 := Lib.hid hr2; obtain ⟨hc2, hf2⟩ := bcell hb2; have hz2 : w.heap.size < w2.heap.size := (by have := hb2.size; omega); clear hb2 hr2))
    exact bodyPost_ret (v := .agg #[.int .i32 (0), .int .i64 (3)]) (by simp [results, Tryd.results19, go_sem, hc, hc2, hz]) rfl ⟨rfl, H.out.on ((((Below.refl _ _).alloc (Nat.le_refl _) _).trans ((HB1.out.trans (HB2.out.mono HB1.out.size)).mono (by simp))).setCell (by simp) _ |>.setCell (by simp) _)⟩
theorem ParseIn_c {w0 w : World} (t : Int) (s : ByteArray) (h : Run w0 w) (hs : s.size ≤ 140737488351232) : Calls Tryd.prog 19 #[.int .i64 t, .string s] w fun e w' => e = .returned (.agg #[.int .i32 (parV t s.data.toList), .int .i64 (parE t s.data.toList)]) ∧ Run w0 w' := by
  cases ht : isT t
  · exact ParseIn_no t s h ht
  · exact ParseIn_yes t s h ht hs
end Go.Proofs.YtikkmcgbmiddaaaDoor
