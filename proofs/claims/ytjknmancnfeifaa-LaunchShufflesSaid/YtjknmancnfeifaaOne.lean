/-
  The reference's subgroup operation for one item: what it returns, as plain functions of the values.
-/
import Derived.Test.YtjknmancnfeifaaColC
namespace Go.Proofs.Ytjknmancnfeifaa
open Go.ChangeShapes Go.WideShapes Go.ChangeAt Go.RowKit

def powV : Nat → Int
  | 0 => 1
  | k + 1 => wrap32 (2 * powV k)
def balV (f : Nat → Int) : Nat → Int
  | 0 => 0
  | k + 1 => if f k = 0 then balV f k else wrap32 (balV f k + powV k)
def cntV (f : Nat → Int) : Nat → Nat
  | 0 => 0
  | k + 1 => if f k = 0 then cntV f k else cntV f k + 1
def sumV (f : Nat → Int) : Nat → Int
  | 0 => 0
  | k + 1 => wrap32 (sumV f k + f k)
def scnV (f : Nat → Int) (i : Nat) : Nat → Int
  | 0 => 0
  | k + 1 => if k ≤ i then wrap32 (scnV f i k + f k) else scnV f i k
theorem cntV_le (f : Nat → Int) (k : Nat) : cntV f k ≤ k := by
  induction k with
  | zero => exact Nat.le_refl _
  | succ k ih => unfold cntV; split <;> omega
def tbV (c : Bool) : Int := if c = true then 1 else 0
theorem rtruth_tb (c : Bool) (w : World) : Calls Try.prog 46 #[.bool c] w fun e w' => e = .returned (.int .i32 (tbV c)) ∧ w = w' := rtruth_any c w
theorem beq_cast (a b : Nat) : (((a : Int) == (b : Int))) = (a == b) := by rw [Bool.eq_iff_iff]; simp; omega
def oneV (op : Int) (i n : Nat) (f x : Nat → Int) : Int :=
  if op = 1 then balV f n else if op = 2 then tbV (decide (0 < cntV f n)) else if op = 3 then tbV (cntV f n == n) else if op = 5 then scnV f i n else if op = 6 then sumV f n else f (shI n (x i))

set_option maxRecDepth 100000 in
set_option maxHeartbeats 4000000 in
theorem one_any (op : Int) (i n c c' : Nat) (A A' : Option Addr) (f x : Nat → Int) (w : World) (ho1 : 1 ≤ op) (ho6 : op ≤ 6) (hi : i < n) (hn : n ≤ 32) (hr : RF w w.heap.size .i32 A n f) (hx : RF w w.heap.size .i32 A' n x) (hxi : I32 (x i)) :
    Calls Try.prog 36 #[.int .i64 op, .int .i64 i, .slice A n c, .slice A' n c'] w fun e w' => e = .returned (.int .i32 (oneV op i n f x)) ∧ w = w' := by
  obtain ⟨b, off, rfl, hb, hc⟩ := hr (by omega)
  obtain ⟨bx, offx, rfl, hbx, hcx⟩ := hx (by omega)
  have hop : op = 1 ∨ op = 2 ∨ op = 3 ∨ op = 4 ∨ op = 5 ∨ op = 6 := by omega
  have hxc := hcx i hi
  obtain ⟨x1, x2⟩ := hxi
  have t12 := tmod_rng (n := n) (by omega) (x i)
  obtain ⟨t1, t2⟩ := t12
  have m1 := Int.emod_nonneg ((x i).tmod n) (b := n) (by omega)
  have m2 := Int.emod_lt_of_pos ((x i).tmod n) (b := n) (by omega)
  have hcv : w.cell? ⟨b, off + ((x i).tmod n % n).toNat, none⟩ = some (.int .i32 (f (shI n (x i)))) := by
    rw [shI_go (by omega)]; exact hc _ (shI_lt (by omega) _)
  have HC := Lib.hid hc
  clear hr hx hcx hc ho1 ho6
  rcases hop with rfl | rfl | rfl | rfl | rfl | rfl
  all_goals
    go_enter Try.func36, Try.ntmps36
    go_wp2
    go_loop [10, 11, 12, 13, 14, 15] (fun u p ct s sc kk => ∃ k : Nat, k ≤ n ∧ kk = .int .i64 k ∧ u = .int .i32 (balV f k) ∧ p = .int .i32 (powV k) ∧ ct = .int .i64 (cntV f k : Nat) ∧ s = .int .i32 (sumV f k) ∧ sc = .int .i32 (scnV f i k)) (fun _ _ _ _ _ kk => n - (intOf kk).toNat)
    case atStart => exact ⟨0, Nat.zero_le _, rfl, rfl, rfl, rfl, rfl, rfl⟩
    case round =>
      obtain ⟨k, hk, rfl, rfl, rfl, rfl, rfl, rfl⟩ := hrel
      have hct := cntV_le f k
      by_cases hlt : k < n
      · have hcell := HC.out k hlt
        by_cases hz : f k = 0
        · have s1 : balV f (k + 1) = balV f k := by show (if f k = 0 then _ else _) = _; rw [if_pos hz]
          have s2 : cntV f (k + 1) = cntV f k := by show (if f k = 0 then _ else _) = _; rw [if_pos hz]
          have hz1 : (f k != 0) = false := by simpa using hz
          have S1 := Lib.hid s1
          have S2 := Lib.hid s2
          have HZ := Lib.hid hz
          clear s1 s2 hz
          by_cases hki : k ≤ i
          · have s3 : scnV f i (k + 1) = wrap32 (scnV f i k + f k) := by show (if k ≤ i then _ else _) = _; rw [if_pos hki]
            have S3 := Lib.hid s3
            clear s3
            go_wp2
            go_round
            case rel => exact ⟨k + 1, by omega, by go_num, by rw [S1.out], rfl, by rw [S2.out], rfl, by rw [S3.out]⟩
            case measure => simp [intOf]; omega
          · have s3 : scnV f i (k + 1) = scnV f i k := by show (if k ≤ i then _ else _) = _; rw [if_neg hki]
            have S3 := Lib.hid s3
            clear s3
            go_wp2
            go_round
            case rel => exact ⟨k + 1, by omega, by go_num, by rw [S1.out], rfl, by rw [S2.out], rfl, by rw [S3.out]⟩
            case measure => simp [intOf]; omega
        · have s1 : balV f (k + 1) = wrap32 (balV f k + powV k) := by show (if f k = 0 then _ else _) = _; rw [if_neg hz]
          have s2 : cntV f (k + 1) = cntV f k + 1 := by show (if f k = 0 then _ else _) = _; rw [if_neg hz]
          have hz1 : (f k != 0) = true := by simpa using hz
          have S1 := Lib.hid s1
          have S2 := Lib.hid s2
          have HZ := Lib.hid hz
          clear s1 s2 hz
          by_cases hki : k ≤ i
          · have s3 : scnV f i (k + 1) = wrap32 (scnV f i k + f k) := by show (if k ≤ i then _ else _) = _; rw [if_pos hki]
            have S3 := Lib.hid s3
            clear s3
            go_wp2
            go_round
            case rel => exact ⟨k + 1, by omega, by go_num, by rw [S1.out], rfl, by rw [S2.out]; go_num, rfl, by rw [S3.out]⟩
            case measure => simp [intOf]; omega
          · have s3 : scnV f i (k + 1) = scnV f i k := by show (if k ≤ i then _ else _) = _; rw [if_neg hki]
            have S3 := Lib.hid s3
            clear s3
            go_wp2
            go_round
            case rel => exact ⟨k + 1, by omega, by go_num, by rw [S1.out], rfl, by rw [S2.out]; go_num, rfl, by rw [S3.out]⟩
            case measure => simp [intOf]; omega
      · obtain rfl : k = n := by omega
        clear HC
        go_wp2_with (go_at_call 46; refine (rtruth_tb _ _).mono ?_; rintro e w' ⟨rfl, rfl⟩)
        go_ret
        first | exact ⟨rfl, rfl⟩ | exact ⟨ret_i32 (by simp [oneV, beq_cast]), rfl⟩
end Go.Proofs.Ytjknmancnfeifaa
