/-
  The walk of LaunchCollects.
-/
import Derived.Test.YtjknmancnfeifaaColIn
import Derived.Test.YtjknmancnfeifaaExC
namespace Go.Proofs.Ytjknmancnfeifaa
open Go.ChangeShapes Go.WideShapes Go.ChangeAt Go.RowKit

theorem cut_any (A : Option Addr) (n c k : Nat) (w : World) (hn : n ≤ c) (hc : c ≤ 9223372036854775807) (hk : k ≤ 65536) :
    Calls Try.prog 17 #[.slice A n c, .int .i64 k] w fun e w' => e = .returned (.slice A (min n k) c) ∧ w = w' := by
  by_cases h : k < n
  · rw [Nat.min_eq_right (by omega)]
    have hk2 : k ≤ c := by omega
    go_enter Try.func17, Try.ntmps17
    go_wp2
    go_ret
    exact ⟨rfl, rfl⟩
  · rw [Nat.min_eq_left (by omega)]
    go_enter Try.func17, Try.ntmps17
    go_wp2
    go_ret
    exact ⟨rfl, rfl⟩
theorem cut_40 (A : Option Addr) (n c : Nat) (w : World) (hn : n ≤ c) (hc : c ≤ 9223372036854775807) :
    Calls Try.prog 17 #[.slice A n c, .int .i64 40] w fun e w' => e = .returned (.slice A (min n 40) c) ∧ w = w' := cut_any A n c 40 w hn hc (by omega)

set_option maxRecDepth 100000 in
theorem CollectIn_no (op : Int) (n m c c' : Nat) (A A' : Option Addr) (w : World) (h : ¬ colOk op n m) :
    Calls Try.prog 19 #[.int .i64 op, .slice A n c, .slice A' m c'] w fun e w' => e = .returned (.agg #[.slice none 0 0, .int .i64 1]) ∧ Below w.heap.size w w' := by
  have hcs : op < 1 ∨ 6 < op ∨ (1 ≤ op ∧ op ≤ 6 ∧ n ≠ m) ∨ (1 ≤ op ∧ op ≤ 6 ∧ n = m ∧ n < 1) ∨ (1 ≤ op ∧ op ≤ 6 ∧ n = m ∧ 32 < n) := by unfold colOk at h; omega
  clear h
  rcases hcs with h | h | ⟨h1, h6, h⟩ | ⟨h1, h6, rfl, h⟩ | ⟨h1, h6, rfl, h⟩
  · go_enter Try.func19, Try.ntmps19
    go_wp2
    exact bodyPost_ret (v := .agg #[.slice none 0 0, .int .i64 1]) (by simp [results, Try.results19, go_sem]) rfl ⟨rfl, (Below.refl _ _).alloc (Nat.le_refl _) _⟩
  · go_enter Try.func19, Try.ntmps19
    go_wp2
    exact bodyPost_ret (v := .agg #[.slice none 0 0, .int .i64 1]) (by simp [results, Try.results19, go_sem]) rfl ⟨rfl, (Below.refl _ _).alloc (Nat.le_refl _) _⟩
  · have hne : ((n : Int) != (m : Int)) = true := by simpa using (by omega : ¬ (n : Int) = m)
    have hne2 : (n == m) = false := by simpa using h
    clear h
    go_enter Try.func19, Try.ntmps19
    go_wp2
    exact bodyPost_ret (v := .agg #[.slice none 0 0, .int .i64 1]) (by simp [results, Try.results19, go_sem]) rfl ⟨rfl, (Below.refl _ _).alloc (Nat.le_refl _) _⟩
  · obtain rfl : n = 0 := by omega
    go_enter Try.func19, Try.ntmps19
    go_wp2
    exact bodyPost_ret (v := .agg #[.slice none 0 0, .int .i64 1]) (by simp [results, Try.results19, go_sem]) rfl ⟨rfl, (Below.refl _ _).alloc (Nat.le_refl _) _⟩
  · go_enter Try.func19, Try.ntmps19
    go_wp2
    exact bodyPost_ret (v := .agg #[.slice none 0 0, .int .i64 1]) (by simp [results, Try.results19, go_sem]) rfl ⟨rfl, (Below.refl _ _).alloc (Nat.le_refl _) _⟩

set_option maxRecDepth 100000 in
set_option maxHeartbeats 4000000 in
theorem collects_walk (op : Int) (n c m c' : Nat) (A A' : Option Addr) (f x : Nat → Int) (w : World) (hnc : n ≤ c) (hc : c ≤ 9223372036854775807) (hmc : m ≤ c') (hc' : c' ≤ 9223372036854775807)
    (hr : RF w w.heap.size .i32 A n f) (hx : RF w w.heap.size .i32 A' m x) (hxi : ∀ j, I32 (x j)) :
    Calls Try.prog 5 #[.int .i64 op, .slice A n c, .slice A' m c'] w fun e w' => e = .returned (.bool true) ∧ Below w.heap.size w w' := by
  have fld := fld55_1
  have hn40 : min n 40 ≤ 40 := Nat.min_le_right _ _
  have hm40 : min m 40 ≤ 40 := Nat.min_le_right _ _
  have hr1 := hr.less (Nat.min_le_left n 40)
  have hx1 := hx.less (Nat.min_le_left m 40)
  have HCn := Lib.hid (fun W => cut_40 A n c W hnc hc)
  have HCm := Lib.hid (fun W => cut_40 A' m c' W hmc hc')
  clear hr hx hnc hc hmc hc'
  obtain ⟨n1, hn1⟩ : ∃ n1, min n 40 = n1 := ⟨_, rfl⟩
  obtain ⟨m1, hm1⟩ : ∃ m1, min m 40 = m1 := ⟨_, rfl⟩
  rw [hn1] at hr1 HCn hn40
  rw [hm1] at hx1 HCm hm40
  clear hn1 hm1
  have HR := Lib.hid hr1
  have HX := Lib.hid hx1
  have HI := Lib.hid hxi
  clear hr1 hx1 hxi
  go_enter Try.func5, Try.ntmps5
  go_wp2_with (first
    | (go_at_call 9; (with_reducible refine (examples_any _).mono ?_); rintro e w1 ⟨rfl, hb1⟩; have HB1 := Lib.hid hb1; clear hb1)
    | (go_at_call 17; (with_reducible refine (HCn.out _).mono ?_); rintro e w2 ⟨rfl, rfl⟩)
    | (go_at_call 17; (with_reducible refine (HCm.out _).mono ?_); rintro e w3 ⟨rfl, rfl⟩))
  go_loopw [10] (fun i wr => ∃ k : Nat, k ≤ 8 ∧ i = .int .i64 k ∧ Below w.heap.size w wr) (fun i _ => 8 - (intOf i).toNat)
  case atStart => exact ⟨0, by omega, rfl, HB1.out⟩
  case round =>
    obtain ⟨k, hk, rfl, hbel⟩ := hrel
    have HL := Lib.hid hbel
    clear hbel HCn HCm HB1
    by_cases hk8 : k < 8
    · have hk7 : (k : Int) ≤ 7 := by omega
      by_cases hok : colOk k n1 m1
      · obtain ⟨o1, o6, rfl, o3, o4⟩ := hok
        have HY1 := Lib.hid (collect_yes k n1 c c' A A' f x wr o1 o6 o3 o4 (HR.out.on HL.out) (HX.out.on HL.out))
        have HY2 := Lib.hid (fun (W : World) hW => CollectIn_yes k n1 c c' A A' f x W o1 o6 o3 o4 ((HR.out.on HL.out).on hW) ((HX.out.on HL.out).on hW) HI.out)
        have HS := Lib.hid (fun (W : World) A1 c1 A2 c2 g1 h1 h2 => SameWords_true n1 c1 c2 A1 A2 g1 g1 W (by omega) h1 h2 (fun _ _ => rfl))
        go_wp2_with (first
          | (go_at_call 18; (with_reducible refine HY1.out.mono ?_); rintro e w4 ⟨g, rfl, hR4, _, hb4⟩; have HR4 := Lib.hid hR4; have HB4 := Lib.hid hb4; clear hR4 hb4)
          | (go_at_call 19; (with_reducible refine (HY2.out w4 HB4.out).mono ?_); rintro e w5 ⟨R5, c5, rfl, hR5, hb5⟩; have HR5 := Lib.hid hR5; have HB5 := Lib.hid hb5; clear hR5 hb5)
          | (go_at_call 20; (with_reducible refine (HS.out _ _ _ _ _ _ ((HR4.out.on HB5.out).on (below_alloc2 _ _ _)) (HR5.out.on (below_alloc2 _ _ _))).mono ?_); rintro e w6 ⟨rfl, d6, rfl⟩))
        go_roundw
        case rel => exact ⟨k + 1, by omega, by go_num, HL.out.trans ((HB4.out.mono HL.out.size).trans ((HB5.out.mono (Nat.le_trans HL.out.size HB4.out.size)).trans (below_drewN ((below_alloc2 _ _ _).mono (Nat.le_trans HL.out.size (Nat.le_trans HB4.out.size HB5.out.size))) _)))⟩
        case measure => simp [intOf]; omega
      · have HY1 := Lib.hid (collect_no k n1 m1 c c' A A' wr hok)
        have HY2 := Lib.hid (fun (W : World) => CollectIn_no k n1 m1 c c' A A' W hok)
        have HS := Lib.hid (fun (W : World) => SameWords_true 0 0 0 none none (fun _ => 0) (fun _ => 0) W (by omega) (RF.zero _ _ _ _ _) (RF.zero _ _ _ _ _) (fun _ _ => rfl))
        clear hok
        go_wp2_with (first
          | (go_at_call 18; (with_reducible refine HY1.out.mono ?_); rintro e w4 ⟨rfl, hb4⟩; have HB4 := Lib.hid hb4; clear hb4)
          | (go_at_call 19; (with_reducible refine (HY2.out w4).mono ?_); rintro e w5 ⟨rfl, hb5⟩; have HB5 := Lib.hid hb5; clear hb5)
          | (go_at_call 20; (with_reducible refine (HS.out _).mono ?_); rintro e w6 ⟨rfl, d6, rfl⟩))
        go_roundw
        case rel => exact ⟨k + 1, by omega, by go_num, HL.out.trans ((HB4.out.mono HL.out.size).trans ((HB5.out.mono (Nat.le_trans HL.out.size HB4.out.size)).trans (below_drewN ((below_alloc2 _ _ _).mono (Nat.le_trans HL.out.size (Nat.le_trans HB4.out.size HB5.out.size))) _)))⟩
        case measure => simp [intOf]; omega
    · have hk7 : ¬ (k : Int) ≤ 7 := by omega
      by_cases hok : colOk op n1 m1
      · obtain ⟨o1, o6, rfl, o3, o4⟩ := hok
        have HY1 := Lib.hid (collect_yes op n1 c c' A A' f x wr o1 o6 o3 o4 (HR.out.on HL.out) (HX.out.on HL.out))
        have HY2 := Lib.hid (fun (W : World) hW => CollectIn_yes op n1 c c' A A' f x W o1 o6 o3 o4 ((HR.out.on HL.out).on hW) ((HX.out.on HL.out).on hW) HI.out)
        go_wp2_with (first
          | (go_at_call 18; (with_reducible refine HY1.out.mono ?_); rintro e w4 ⟨g, rfl, hR4, _, hb4⟩; have HR4 := Lib.hid hR4; have HB4 := Lib.hid hb4; clear hR4 hb4)
          | (go_at_call 19; (with_reducible refine (HY2.out w4 HB4.out).mono ?_); rintro e w5 ⟨R5, c5, rfl, hR5, hb5⟩; have HR5 := Lib.hid hR5; have HB5 := Lib.hid hb5; clear hR5 hb5))
        go_ret
        exact ⟨rfl, HL.out.trans ((HB4.out.mono HL.out.size).trans (HB5.out.mono (Nat.le_trans HL.out.size HB4.out.size)))⟩
      · have HY1 := Lib.hid (collect_no op n1 m1 c c' A A' wr hok)
        have HY2 := Lib.hid (fun (W : World) => CollectIn_no op n1 m1 c c' A A' W hok)
        clear hok
        go_wp2_with (first
          | (go_at_call 18; (with_reducible refine HY1.out.mono ?_); rintro e w4 ⟨rfl, hb4⟩; have HB4 := Lib.hid hb4; clear hb4)
          | (go_at_call 19; (with_reducible refine (HY2.out w4).mono ?_); rintro e w5 ⟨rfl, hb5⟩; have HB5 := Lib.hid hb5; clear hb5))
        go_ret
        exact ⟨rfl, HL.out.trans ((HB4.out.mono HL.out.size).trans (HB5.out.mono (Nat.le_trans HL.out.size HB4.out.size)))⟩
end Go.Proofs.Ytjknmancnfeifaa
