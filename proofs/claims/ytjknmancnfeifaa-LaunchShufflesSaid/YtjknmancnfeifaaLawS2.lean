/-
  The walk of LaunchShuffles.
-/
import Derived.Test.YtjknmancnfeifaaShufL
import Derived.Test.YtjknmancnfeifaaLawC
import Derived.Deep.DeepCutAuto
import Derived.Deep.CutRange
import Derived.Deep.QuietTactic
import Derived.BigQuiet
namespace Go.Proofs.Ytjknmancnfeifaa
open Go.ChangeShapes Go.WideShapes Go.ChangeAt Go.RowKit Go.BigFrame

theorem fld55_0 (a b : Value) (w : World) : (Instr.field 55 (.agg #[a, b]) 0).run Try.prog w = .ok a w := by kernel_rfl
theorem RF.cell0 {w : World} {B : Nat} {k : IntKind} {g n j : Nat} {f : Nat → Int} (h : RF w B k (some ⟨g, 0, none⟩) n f) (hj : j < n) : w.cell? ⟨g, j, none⟩ = some (.int k (f j)) := by
  obtain ⟨b, off, e, _, hc⟩ := h (by omega)
  simp only [Option.some.injEq, Addr.mk.injEq] at e
  obtain ⟨rfl, rfl, _⟩ := e
  have := hc j hj
  rwa [Nat.zero_add] at this
theorem RF.lt0 {w : World} {B : Nat} {k : IntKind} {g n : Nat} {f : Nat → Int} (h : RF w B k (some ⟨g, 0, none⟩) n f) (hn : 0 < n) : g < B := by
  obtain ⟨b, off, e, hb, _⟩ := h hn
  simp only [Option.some.injEq, Addr.mk.injEq] at e
  omega

/-- How many values are looked at. -/
def nOf (a b c : Nat) : Nat := min (min a b) (min c 32)
/-- The numbers 0, 1, .. as cells. -/
def cellsO (k : Nat) : List Value := (List.range k).map fun j : Nat => Value.int .i32 (j : Int)
theorem cellsO_succ (k : Nat) : cellsO (k + 1) = cellsO k ++ [.int .i32 (k : Int)] := by simp [cellsO, List.range_succ]

/-- A result of collect, with a name of its own. -/
theorem col_named (op : Int) {n c c' : Nat} {A A' : Option Addr} {f x : Nat → Int} {w W : World} (ho1 : 1 ≤ op) (ho6 : op ≤ 6) (h1 : 1 ≤ n) (hn : n ≤ 32) (hr : RF w w.heap.size .i32 A n f) (hx : RF w w.heap.size .i32 A' n x) (hb : Below w.heap.size w W) :
    Calls Try.prog 18 #[.int .i64 op, .slice A n c, .slice A' n c'] W fun e w' => ∃ g, e = .returned (.agg #[.slice (some ⟨g, 0, none⟩) n n, .int .i64 0]) ∧ RF w' w'.heap.size .i32 (some ⟨g, 0, none⟩) n (colV op n f x) ∧ Below W.heap.size W w' ∧ Below w.heap.size w w' :=
  (collect_yes op n c c' A A' f x W ho1 ho6 h1 hn (hr.on hb) (hx.on hb)).mono fun e w' ⟨g, he, hR, _, hb'⟩ => ⟨g, he, hR, hb', hb.trans (hb'.mono hb.size)⟩


theorem tbV_one (c : Bool) : (tbV c == 1) = c := by cases c <;> decide +kernel
theorem cv5 (n : Nat) (f x : Nat → Int) (j : Nat) : colV 5 n f x j = sumV f (j + 1) := by
  unfold colV; rw [if_neg (by omega), if_pos rfl]; exact st_sum 5 (by omega) (by omega) (by omega) f _
theorem cv6 (n : Nat) (f x : Nat → Int) (j : Nat) : colV 6 n f x j = sumV f n := by
  unfold colV; rw [if_neg (by omega), if_neg (by omega)]; exact st_sum 6 (by omega) (by omega) (by omega) f _
theorem cv1 (n : Nat) (f x : Nat → Int) (j : Nat) : colV 1 n f x j = stV 1 f n := by
  unfold colV; rw [if_neg (by omega), if_neg (by omega)]
theorem cv2 (n : Nat) (f x : Nat → Int) (j : Nat) : colV 2 n f x j = tbV (decide (0 < cntV f n)) := by
  unfold colV; rw [if_neg (by omega), if_neg (by omega)]; exact st2_eq f n
theorem cv3 (n : Nat) (f x : Nat → Int) (j : Nat) : colV 3 n f x j = tbV (cntV f n == n) := by
  unfold colV; rw [if_neg (by omega), if_neg (by omega)]; exact st3_eq f n
theorem cv4 (n : Nat) (f x : Nat → Int) (j : Nat) : colV 4 n f x j = f (shI n (x j)) := by
  unfold colV; rw [if_pos rfl]
theorem sum1 {f : Nat → Int} (h : I32 (f 0)) : sumV f 1 = f 0 := by
  show wrap32 (0 + f 0) = f 0
  have := h.out
  unfold wrap32; omega

theorem pow32i {n : Nat} (h : n ≤ 32) : (2 : Int) ^ n ≤ 4294967296 := by
  have h1 := pow32 h
  have h2 : ((2 ^ n : Nat) : Int) = (2 : Int) ^ n := by push_cast; rfl
  omega
theorem pow1i (n : Nat) : (1 : Int) ≤ (2 : Int) ^ n := by
  have h1 := Nat.two_pow_pos n
  have h2 : ((2 ^ n : Nat) : Int) = (2 : Int) ^ n := by push_cast; rfl
  omega
theorem pow_cast (n : Nat) : ((2 ^ n - 1 : Nat) : Int) = (2 : Int) ^ n - 1 := by
  have h1 := Nat.two_pow_pos n
  have h2 : ((2 ^ n : Nat) : Int) = (2 : Int) ^ n := by push_cast; rfl
  omega
theorem shI_self {k j : Nat} (h : j < k) : shI k (j : Int) = j := by
  unfold shI
  rw [Int.emod_eq_of_lt (by omega) (by omega)]
  rfl

theorem cv_own {k : Nat} {f : Nat → Int} : ∀ j, j < k → colV 4 k f (fun j : Nat => (j : Int)) j = f j := fun j hj => by rw [cv4, shI_self hj]
theorem cv_two {k : Nat} {f x y : Nat → Int} : ∀ j, j < k → colV 4 k (colV 4 k f x) y j = colV 4 k f (colV 4 k x y) j := fun j _ => by simp only [cv4]

set_option maxRecDepth 100000 in
set_option maxHeartbeats 4000000 in
theorem shuffles_zero (n1 c1 n2 c2 n3 c3 : Nat) (A B C : Option Addr) (f x y : Nat → Int) (w : World) (hc1 : n1 ≤ c1) (hm1 : c1 ≤ 9223372036854775807) (hc2 : n2 ≤ c2) (hm2 : c2 ≤ 9223372036854775807) (hc3 : n3 ≤ c3) (hm3 : c3 ≤ 9223372036854775807)
    (hr : RF w w.heap.size .i32 A n1 f) (hx : RF w w.heap.size .i32 B n2 x) (hy : RF w w.heap.size .i32 C n3 y) (hf : ∀ j, I32 (f j)) (hxi : ∀ j, I32 (x j)) (hyi : ∀ j, I32 (y j)) (hn : nOf n1 n2 n3 = 0) :
    Calls Try.prog 6 #[.slice A n1 c1, .slice B n2 c2, .slice C n3 c3] w fun e w' => e = .returned (.bool true) ∧ Below w.heap.size w w' := by
  obtain ⟨n, hn'⟩ : ∃ n, nOf n1 n2 n3 = n := ⟨_, rfl⟩
  have hz : n = 0 := by omega
  have HN := Lib.hid hn'
  clear hr hx hy hf hxi hyi hn hn'
  go_enter Try.func6, Try.ntmps6
  go_upto_region 4 with (go_at_call 9; (with_reducible refine (examples_any _).mono ?_); rintro e w1 ⟨rfl, hb1⟩; have HB1 := Lib.hid hb1; clear hb1)
  go_cut [8] (fun s8 wx => s8 = .int .i64 n ∧ wx = w1)
  case first =>
    go_wp2_with fail
    all_goals
      go_meet
      refine ⟨?_, rfl⟩
      have := HN.out
      unfold nOf at this
      congr 1
      omega
  case rest =>
    obtain ⟨rfl, rfl⟩ := hcut
    subst hz
    go_wp2_with fail
    go_ret
    exact ⟨rfl, HB1.out⟩

set_option maxRecDepth 100000 in
set_option maxHeartbeats 8000000 in
theorem shuffles_pos (n1 c1 n2 c2 n3 c3 : Nat) (A B C : Option Addr) (f x y : Nat → Int) (w : World) (hc1 : n1 ≤ c1) (hm1 : c1 ≤ 9223372036854775807) (hc2 : n2 ≤ c2) (hm2 : c2 ≤ 9223372036854775807) (hc3 : n3 ≤ c3) (hm3 : c3 ≤ 9223372036854775807)
    (hr : RF w w.heap.size .i32 A n1 f) (hx : RF w w.heap.size .i32 B n2 x) (hy : RF w w.heap.size .i32 C n3 y) (hf : ∀ j, I32 (f j)) (hxi : ∀ j, I32 (x j)) (hyi : ∀ j, I32 (y j)) (hn0 : nOf n1 n2 n3 ≠ 0) :
    Calls Try.prog 6 #[.slice A n1 c1, .slice B n2 c2, .slice C n3 c3] w fun e w' => e = .returned (.bool true) ∧ Below w.heap.size w w' := by
  have fld := fld55_0
  obtain ⟨n, hn⟩ : ∃ n, nOf n1 n2 n3 = n := ⟨_, rfl⟩
  have h1 : 1 ≤ n := by omega
  have hn1 : n ≤ n1 := by unfold nOf at hn; omega
  have hn2 : n ≤ n2 := by unfold nOf at hn; omega
  have hn3 : n ≤ n3 := by unfold nOf at hn; omega
  have hn32 : n ≤ 32 := by unfold nOf at hn; omega
  have hcs : (n = n1 ∨ n = n2 ∨ n = n3 ∨ n = 32) := by unfold nOf at hn; omega
  have HN := Lib.hid hn
  obtain ⟨b, off, rfl, hbb, _⟩ := hr (by omega)
  have HR := Lib.hid (hr.less hn1)
  have HX := Lib.hid (hx.less hn2)
  have HY := Lib.hid (hy.less hn3)
  have HC1 := Lib.hid (fun W => cut_any (some ⟨b, off, none⟩) n1 c1 n W hc1 hm1 (by omega))
  have HC2 := Lib.hid (fun W => cut_any B n2 c2 n W hc2 hm2 (by omega))
  have HC3 := Lib.hid (fun W => cut_any C n3 c3 n W hc3 hm3 (by omega))
  rw [Nat.min_eq_right hn1] at HC1
  rw [Nat.min_eq_right hn2] at HC2
  rw [Nat.min_eq_right hn3] at HC3
  have HF := Lib.hid hf
  clear hr hx hy hn hn0 hcs hf hxi hyi
  go_enter Try.func6, Try.ntmps6
  go_upto_region 4 with (go_at_call 9; (with_reducible refine (examples_any _).mono ?_); rintro e w1 ⟨rfl, hb1⟩; have HB1 := Lib.hid hb1; clear hb1)
  go_cut [8] (fun s8 wx => s8 = .int .i64 n ∧ wx = w1)
  case first =>
    go_wp2_with fail
    all_goals
      go_meet
      refine ⟨?_, rfl⟩
      have := HN.out
      unfold nOf at this
      congr 1
      omega
  case rest =>
    obtain ⟨rfl, rfl⟩ := hcut
    obtain ⟨i0, hi, hz0, hz1, hz2⟩ := info_parts info21
    go_wp2_with (first
      | (go_at_call 17; (with_reducible refine (HC1.out _).mono ?_); rintro e w2 ⟨rfl, rfl⟩)
      | (go_at_call 17; (with_reducible refine (HC2.out _).mono ?_); rintro e w2 ⟨rfl, rfl⟩)
      | (go_at_call 17; (with_reducible refine (HC3.out _).mono ?_); rintro e w2 ⟨rfl, rfl⟩))
    clear HC1 HC2 HC3
    go_loopw [12, 13] (fun v i wr => ∃ k : Nat, k ≤ n ∧ i = .int .i64 k ∧ wr.ownsRow wc.heap.size 21 1 v k (cellsO k) ∧ Below wc.heap.size wc wr) (fun _ i _ => n - (intOf i).toNat)
    case atStart => exact ⟨0, Nat.zero_le _, rfl, World.ownsRow_lit _ #[] 0 (Nat.le_refl _) (by unfold maxLen; omega) rfl, (Below.refl _ _).alloc (Nat.le_refl _) _⟩
    case round =>
      obtain ⟨k, hk, rfl, hown, hbel⟩ := hrel
      by_cases hlt : k < n
      · have HL := Lib.hid hbel
        have hzb := hbel.size
        clear hbel
        go_wp2_with (at_builtin; refine wpList_append_own_at _ rfl _ _ 25 rfl wc.heap.size 21 i0 (.int .i32 0) 1 4 Try.underlying25 hi hz0 hz1 hz2 rfl (by decide) _ _ _ rfl (hown.alloc _) ⟨wr.heap.size, 0, none⟩ 1 1 [.int .i32 (k : Int)] rfl rfl (cell_one_new _ _ _) (by simp [Value.oneCell']) (by unfold maxLen; omega) (by omega) (by simp; omega) ?_; intro v' w5 hown1 hgrow _ hat)
        go_roundw
        case rel => exact ⟨k + 1, by omega, by go_num, by rw [cellsO_succ]; exact hown1, (HL.out.alloc hzb _).grown hgrow (by simp; omega) (fun j hj => (hown.lt j hj).1)⟩
        case measure => simp [intOf]; omega
      · obtain rfl : k = n := by omega
        clear hlt
        obtain ⟨go, co, rfl, hgo, hgl⟩ := hown.form (by omega)
        have hO : RF wr wr.heap.size .i32 (some ⟨go, 0, none⟩) k (fun j => (j : Int)) := fun _ => ⟨go, 0, rfl, hgl, fun j hj => by
          rw [Nat.zero_add, hown.cellAt j (by omega)]
          simp [cellsO, hj]⟩
        have hA0 := (HR.out.on HB1.out).on hbel
        have hX0 := (HX.out.on HB1.out).on hbel
        have hY0 := (HY.out.on HB1.out).on hbel
        have HO0 := Lib.hid hO
        have HA0 := Lib.hid hA0
        have HX0 := Lib.hid hX0
        have HY0 := Lib.hid hY0
        have HBW := Lib.hid (HB1.out.trans (hbel.mono HB1.out.size))
        clear hO hA0 hX0 hY0 hown hbel HR HX HY HB1 hgo hgl
        go_wp2_with (first
          | (go_at_call 18; (with_reducible refine (col_named 5 (by omega) (by omega) h1 hn32 HA0.out HX0.out (Below.refl _ _)).mono ?_); rintro e z5 ⟨g5, rfl, hR5, hb5, hB5⟩; have HT5 := Lib.hid hR5; have HP5 := Lib.hid hb5; have HQ5 := Lib.hid hB5; clear hR5 hb5 hB5)
          | (go_at_call 18; (with_reducible refine (col_named 6 (by omega) (by omega) h1 hn32 HA0.out HX0.out HQ5.out).mono ?_); rintro e z6 ⟨g6, rfl, hR6, hb6, hB6⟩; have HT6 := Lib.hid hR6; have HP6 := Lib.hid hb6; have HQ6 := Lib.hid hB6; clear hR6 hb6 hB6)
          | (go_at_call 18; (with_reducible refine (col_named 1 (by omega) (by omega) h1 hn32 HA0.out HX0.out HQ6.out).mono ?_); rintro e z1 ⟨g1, rfl, hR1, hb1, hB1⟩; have HT1 := Lib.hid hR1; have HP1 := Lib.hid hb1; have HQ1 := Lib.hid hB1; clear hR1 hb1 hB1)
          | (go_at_call 18; (with_reducible refine (col_named 2 (by omega) (by omega) h1 hn32 HA0.out HX0.out HQ1.out).mono ?_); rintro e z2 ⟨g2, rfl, hR2, hb2, hB2⟩; have HT2 := Lib.hid hR2; have HP2 := Lib.hid hb2; have HQ2 := Lib.hid hB2; clear hR2 hb2 hB2)
          | (go_at_call 18; (with_reducible refine (col_named 3 (by omega) (by omega) h1 hn32 HA0.out HX0.out HQ2.out).mono ?_); rintro e z3 ⟨g3, rfl, hR3, hb3, hB3⟩; have HT3 := Lib.hid hR3; have HP3 := Lib.hid hb3; have HQ3 := Lib.hid hB3; clear hR3 hb3 hB3))
        -- the five results, in the last world
        have t5 := (((HT5.out.on HP6.out).on HP1.out).on HP2.out).on HP3.out
        have t6 := ((HT6.out.on HP1.out).on HP2.out).on HP3.out
        have t1 := (HT1.out.on HP2.out).on HP3.out
        have t2 := HT2.out.on HP3.out
        have t3 := HT3.out
        have ta := HA0.out.on HQ3.out
        have ta' := ta
        obtain ⟨b', off', e', hb', hac⟩ := ta' (by omega)
        simp only [Option.some.injEq, Addr.mk.injEq] at e'
        obtain ⟨rfl, rfl, _⟩ := e'
        have u5 := t5.congr (g := fun j => sumV f (j + 1)) (fun j _ => cv5 k f x j)
        have u6 := t6.congr (g := fun _ => sumV f k) (fun j _ => cv6 k f x j)
        have u1 := t1.congr (g := fun _ => stV 1 f k) (fun j _ => cv1 k f x j)
        have u2 := t2.congr (g := fun _ => tbV (decide (0 < cntV f k))) (fun j _ => cv2 k f x j)
        have u3 := t3.congr (g := fun _ => tbV (cntV f k == k)) (fun j _ => cv3 k f x j)
        clear t5 t6 t1 t2 t3
        have e1 : z3.cell? ⟨g5, k - 1, none⟩ = some (.int .i32 (sumV f k)) := by
          have := u5.cell0 (j := k - 1) (by omega)
          rwa [show k - 1 + 1 = k by omega] at this
        have e2 : z3.cell? ⟨g6, 0, none⟩ = some (.int .i32 (sumV f k)) := u6.cell0 (by omega)
        have e3 : z3.cell? ⟨g5, 0, none⟩ = some (.int .i32 (f 0)) := by
          have := u5.cell0 (j := 0) (by omega)
          rwa [sum1 (HF.out 0)] at this
        have e4 : z3.cell? ⟨b, off, none⟩ = some (.int .i32 (f 0)) := hac 0 (by omega)
        have hk0 : 0 < k := by omega
        have hka : (0 : Int) ≤ (k : Int) - 1 := by omega
        have hkb : (k : Int) - 1 < k := by omega
        have U5 := Lib.hid u5
        have U6 := Lib.hid u6
        have U1 := Lib.hid u1
        have U2 := Lib.hid u2
        have U3 := Lib.hid u3
        have TA := Lib.hid ta
        have AC := Lib.hid hac
        clear u5 u6 u1 u2 u3 ta hac
        go_quiet (fail)
        clear e1 e3 e4
        have hp1 := pow32i hn32
        have hp0 := pow1i k
        go_wp2
        clear hp1 hp0 e2
        have hk65 : k ≤ 65536 := by omega
        go_loopw [20] (fun i wr' => ∃ j d : Nat, j ≤ k ∧ i = .int .i64 j ∧ wr' = z3.drewN d) (fun i _ => k - (intOf i).toNat)
        case atStart => exact ⟨0, _, Nat.zero_le _, rfl, rfl⟩
        case round =>
          obtain ⟨j, d, hj, rfl, rfl⟩ := hrel
          by_cases hlt : j < k
          · have r1 : z3.cell? ⟨g1, j, none⟩ = some (.int .i32 (stV 1 f k)) := U1.out.cell0 hlt
            have r2 : z3.cell? ⟨g2, j, none⟩ = some (.int .i32 (tbV (decide (0 < cntV f k)))) := U2.out.cell0 hlt
            have r3 : z3.cell? ⟨g3, j, none⟩ = some (.int .i32 (tbV (cntV f k == k))) := U3.out.cell0 hlt
            have r4 : z3.cell? ⟨g6, j, none⟩ = some (.int .i32 (sumV f k)) := U6.out.cell0 hlt
            have r5 : z3.cell? ⟨g6, 0, none⟩ = some (.int .i32 (sumV f k)) := U6.out.cell0 (by omega)
            have r6 : z3.cell? ⟨g5, j, none⟩ = some (.int .i32 (sumV f (j + 1))) := U5.out.cell0 hlt
            have r7 : z3.cell? ⟨b, off + j, none⟩ = some (.int .i32 (f j)) := AC.out j hlt
            have q1 := bal_bit (f := f) hn32 hlt
            have q4 := scan_step HF.out j
            obtain ⟨Y, hY, q2⟩ : ∃ Y, tbV (decide (0 < cntV f k)) = Y ∧ (Y == 1) = (stV 1 f k != 0) := ⟨_, rfl, (tbV_one _).trans (bal_any hn32).symm⟩
            obtain ⟨Z, hZ, q3⟩ : ∃ Z, tbV (cntV f k == k) = Z ∧ (Z == 1) = (stV 1 f k == wrap32 ((2 : Int) ^ k - 1)) := ⟨_, rfl, (tbV_one _).trans (by rw [← bal_all hn32, pow_cast])⟩
            rw [hY] at r2
            rw [hZ] at r3
            generalize sumV f (j + 1) = G at r6 q4
            generalize stV 1 f k = X at r1 q1 q2 q3
            generalize wrap32 ((2 : Int) ^ k - 1) = M at q3 ⊢
            clear hY hZ
            by_cases hj0 : j = 0
            · have hj1 : decide ((0 : Int) < (j : Int)) = false := by subst hj0; rfl
              have hj4 : decide (0 < j) = false := by subst hj0; rfl
              clear hj0
              go_wp2
              refine wp_region_quiet_lit (by kernel_rfl) (by as_aux_lemma => kernel_rfl) ?_
              dsimp only [List.append]
              repeat (go_big_quiet_step (fail))
              refine wpQuiet_nil ?_
              intro _ hw'
              obtain ⟨nq, hw''⟩ := hw'
              subst hw''
              clear r1 r2 r3 r4 r5 r6 r7 q1 q2 q3 q4
              go_wp2
              go_roundw
              case rel => exact ⟨j + 1, _, by omega, by go_num, rfl⟩
              case measure => simp [intOf]; omega
            · have r8 : z3.cell? ⟨g5, j - 1, none⟩ = some (.int .i32 (sumV f j)) := by
                have := U5.out.cell0 (j := j - 1) (by omega)
                rwa [show j - 1 + 1 = j by omega] at this
              have hj1 : (0 : Int) < j := by omega
              have hj4 : decide ((0 : Int) < (j : Int)) = true := decide_eq_true hj1
              have hj5 : 0 < j := by omega
              have hj6 : (1 : Int) ≤ j := by omega
              have hj7 : 1 ≤ j := by omega
              have hj9 : (j : Int) ≤ k := by omega
              have hj8 : ((j : Int) - 1).toNat = j - 1 := by omega
              have hj2 : (0 : Int) ≤ (j : Int) - 1 := by omega
              have hj3 : (j : Int) - 1 < k := by omega
              go_wp2
              refine wp_region_quiet_lit (by kernel_rfl) (by as_aux_lemma => kernel_rfl) ?_
              dsimp only [List.append]
              repeat (go_big_quiet_step (fail))
              refine wpQuiet_nil ?_
              intro _ hw'
              obtain ⟨nq, hw''⟩ := hw'
              subst hw''
              clear r1 r2 r3 r4 r5 r6 r7 q1 q2 q3 q4
              clear hj1 hj4 hj5 hj6 hj7 hj8 hj9 hj2 hj3 r8
              go_wp2
              go_roundw
              case rel => exact ⟨j + 1, _, by omega, by go_num, rfl⟩
              case measure => simp [intOf]; omega
          · obtain rfl : j = k := by omega
            clear hj hlt
            have HW := Lib.hid (below_drewN HQ3.out d)
            go_wp2_with (first
              | (go_at_call 18; (with_reducible refine (col_named 4 (by omega) (by omega) h1 hn32 HA0.out HO0.out HW.out).mono ?_); rintro e z7 ⟨g7, rfl, hR7, hb7, hB7⟩; have HT7 := Lib.hid hR7; have HP7 := Lib.hid hb7; have HQ7 := Lib.hid hB7; clear hR7 hb7 hB7)
              | (go_at_call 18; (with_reducible refine (col_named 4 (by omega) (by omega) h1 hn32 HA0.out HX0.out HQ7.out).mono ?_); rintro e z8 ⟨g8, rfl, hR8, hb8, hB8⟩; have HT8 := Lib.hid hR8; have HP8 := Lib.hid hb8; have HQ8 := Lib.hid hB8; clear hR8 hb8 hB8)
              | (go_at_call 18; (with_reducible refine (col_named 4 (by omega) (by omega) h1 hn32 HT8.out (HY0.out.on HQ8.out) (Below.refl _ _)).mono ?_); rintro e z9 ⟨g9, rfl, hR9, hb9, hB9⟩; have HT9 := Lib.hid hR9; have HP9 := Lib.hid hb9; have HQ9 := Lib.hid hB9; clear hR9 hb9 hB9)
              | (go_at_call 18; (with_reducible refine (col_named 4 (by omega) (by omega) h1 hn32 HX0.out HY0.out (HQ8.out.trans (HP9.out.mono HQ8.out.size))).mono ?_); rintro e z10 ⟨g10, rfl, hR10, hb10, hB10⟩; have HT10 := Lib.hid hR10; have HP10 := Lib.hid hb10; have HQ10 := Lib.hid hB10; clear hR10 hb10 hB10)
              | (go_at_call 20; (with_reducible refine (SameWords_true _ _ _ _ _ _ _ _ hk65 (((HT7.out.on HP8.out).on HP9.out).on HP10.out) (HA0.out.on HQ10.out) cv_own).mono ?_); rintro e z ⟨rfl, d6, rfl⟩)
              | (go_at_call 18; (with_reducible refine (col_named 4 (by omega) (by omega) h1 hn32 (HA0.out.on HQ10.out) HT10.out (below_drewN (Below.refl _ _) _)).mono ?_); rintro e z11 ⟨g11, rfl, hR11, hb11, hB11⟩; have HT11 := Lib.hid hR11; have HP11 := Lib.hid hb11; have HQ11 := Lib.hid hB11; clear hR11 hb11 hB11)
              | (go_at_call 20; (with_reducible refine (SameWords_true _ _ _ _ _ _ _ _ hk65 ((HT9.out.on HP10.out).on HQ11.out) HT11.out cv_two).mono ?_); rintro e z ⟨rfl, d7, rfl⟩))
            go_ret
            exact ⟨rfl, below_drewN (HBW.out.trans ((HQ10.out.trans (HQ11.out.mono HQ10.out.size)).mono HBW.out.size)) _⟩

theorem shuffles_walk (n1 c1 n2 c2 n3 c3 : Nat) (A B C : Option Addr) (f x y : Nat → Int) (w : World) (hc1 : n1 ≤ c1) (hm1 : c1 ≤ 9223372036854775807) (hc2 : n2 ≤ c2) (hm2 : c2 ≤ 9223372036854775807) (hc3 : n3 ≤ c3) (hm3 : c3 ≤ 9223372036854775807)
    (hr : RF w w.heap.size .i32 A n1 f) (hx : RF w w.heap.size .i32 B n2 x) (hy : RF w w.heap.size .i32 C n3 y) (hf : ∀ j, I32 (f j)) (hxi : ∀ j, I32 (x j)) (hyi : ∀ j, I32 (y j)) :
    Calls Try.prog 6 #[.slice A n1 c1, .slice B n2 c2, .slice C n3 c3] w fun e w' => e = .returned (.bool true) ∧ Below w.heap.size w w' := by
  by_cases h : nOf n1 n2 n3 = 0
  · exact shuffles_zero n1 c1 n2 c2 n3 c3 A B C f x y w hc1 hm1 hc2 hm2 hc3 hm3 hr hx hy hf hxi hyi h
  · exact shuffles_pos n1 c1 n2 c2 n3 c3 A B C f x y w hc1 hm1 hc2 hm2 hc3 hm3 hr hx hy hf hxi hyi h
end Go.Proofs.Ytjknmancnfeifaa
