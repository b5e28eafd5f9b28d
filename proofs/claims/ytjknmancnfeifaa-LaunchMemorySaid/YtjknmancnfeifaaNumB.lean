/-
  Contracts of counted, Check, Id, id.
-/
import Derived.Test.YtjknmancnfeifaaNum
set_option linter.unusedVariables false
set_option linter.unusedSimpArgs false
namespace Go.Proofs.Ytjknmancnfeifaa
open Go.ChangeShapes Go.WideShapes Go.ChangeAt Go.RowKit

def countedB (size groups : Int) : Bool := decide (1 ≤ groups) && decide (groups ≤ 4096 / size)
theorem counted_any (size groups : Int) (w : World) (hs : 1 ≤ size) :
    Calls Try.prog 32 #[.int .i64 size, .int .i64 groups] w fun e w' => e = .returned (.bool (countedB size groups)) ∧ w = w' := by
  unfold countedB
  have h0 : ¬ size = 0 := by omega
  by_cases h1 : 1 ≤ groups
  · simp only [decide_eq_true h1, Bool.true_and]
    go_enter Try.func32, Try.ntmps32
    go_wp2
    go_ret
    exact ⟨rfl, rfl⟩
  · simp only [decide_eq_false h1, Bool.false_and]
    go_enter Try.func32, Try.ntmps32
    go_wp2
    go_ret
    exact ⟨rfl, rfl⟩

section
variable (g s r sl p gr : Int) (n1 c1 n2 c2 n3 c3 na ca : Nat) (A1 A2 A3 AA : Option Addr)

theorem sized_pos {g s : Int} (h : sizedB g s = true) : 1 ≤ g ∧ g ≤ 256 ∧ 1 ≤ s ∧ s ≤ 32 := by
  unfold sizedB at h
  simp only [Bool.and_eq_true, decide_eq_true_eq] at h
  exact ⟨h.1, h.2.1, h.2.2.1, h.2.2.2.1⟩
/-- The launch fits to the code. -/
def chkB (g s p gr : Int) (na : Nat) : Bool := sizedB g s && (countedB g gr && (decide (p ≤ 8) && decide ((na : Int) = p)))
def chkV (g s p gr : Int) (na : Nat) : Int := match chkB g s p gr na with | true => 0 | false => 40
set_option maxRecDepth 100000 in
theorem Check_any (w : World) :
    Calls Try.prog 12 #[.agg #[.int .i64 g, .int .i64 s, .int .i64 r, .int .i64 sl, .int .i64 p, .slice A1 n1 c1, .slice A2 n2 c2, .slice A3 n3 c3], .agg #[.int .i64 gr, .slice AA na ca]] w fun e w' => e = .returned (.int .i64 (chkV g s p gr na)) ∧ Below w.heap.size w w' := by
  have hb2 : ∀ o o', Below w.heap.size w ((w.alloc o).alloc o') := fun o o' => ((Below.refl _ _).alloc (Nat.le_refl _) o).alloc (by simp) o'
  have HS := fun W => sized_any g s r sl p n1 c1 n2 c2 n3 c3 A1 A2 A3 W
  unfold chkV chkB
  cases h1 : sizedB g s
  · rw [h1] at HS
    rw [Bool.false_and]
    have HH := Lib.hid HS
    clear HS h1
    go_enter Try.func12, Try.ntmps12
    go_wp2_with (go_at_call 31; refine (HH.out _).mono ?_; rintro e w1 ⟨rfl, hb⟩; have HB := Lib.hid hb; clear hb)
    go_ret
    exact ⟨rfl, (hb2 _ _).trans (HB.out.mono (by simp; omega))⟩
  · rw [h1] at HS
    rw [Bool.true_and]
    have hg := (sized_pos h1).1
    have HH := Lib.hid HS
    have HC := fun W => counted_any g gr W hg
    clear HS h1
    cases h2 : countedB g gr
    · rw [h2] at HC
      rw [Bool.false_and]
      have HCC := Lib.hid HC
      clear HC h2
      go_enter Try.func12, Try.ntmps12
      go_wp2_with (first | (go_at_call 31; refine (HH.out _).mono ?_; rintro e w1 ⟨rfl, hb⟩; obtain ⟨hcel, _⟩ := bcell hb; have HB := Lib.hid hb; clear hb) | (go_at_call 32; refine (HCC.out _).mono ?_; rintro e w2 ⟨rfl, hw⟩; subst hw))
      go_ret
      exact ⟨rfl, (hb2 _ _).trans (HB.out.mono (by simp; omega))⟩
    · rw [h2] at HC
      rw [Bool.true_and]
      have HCC := Lib.hid HC
      clear HC h2
      by_cases h3 : p ≤ 8
      · simp only [decide_eq_true h3, Bool.true_and]
        by_cases h4 : (na : Int) = p
        · simp only [decide_eq_true h4]
          subst h4
          go_enter Try.func12, Try.ntmps12
          go_wp2_with (first | (go_at_call 31; refine (HH.out _).mono ?_; rintro e w1 ⟨rfl, hb⟩; obtain ⟨hcel, _⟩ := bcell hb; have HB := Lib.hid hb; clear hb) | (go_at_call 32; refine (HCC.out _).mono ?_; rintro e w2 ⟨rfl, hw⟩; subst hw))
          go_ret
          exact ⟨rfl, (hb2 _ _).trans (HB.out.mono (by simp; omega))⟩
        · simp only [decide_eq_false h4]
          have h5 : ((na : Int) != p) = true := by simpa using h4
          clear h4
          go_enter Try.func12, Try.ntmps12
          go_wp2_with (first | (go_at_call 31; refine (HH.out _).mono ?_; rintro e w1 ⟨rfl, hb⟩; obtain ⟨hcel, _⟩ := bcell hb; have HB := Lib.hid hb; clear hb) | (go_at_call 32; refine (HCC.out _).mono ?_; rintro e w2 ⟨rfl, hw⟩; subst hw))
          go_ret
          exact ⟨rfl, (hb2 _ _).trans (HB.out.mono (by simp; omega))⟩
      · simp only [decide_eq_false h3, Bool.false_and]
        go_enter Try.func12, Try.ntmps12
        go_wp2_with (first | (go_at_call 31; refine (HH.out _).mono ?_; rintro e w1 ⟨rfl, hb⟩; obtain ⟨hcel, _⟩ := bcell hb; have HB := Lib.hid hb; clear hb) | (go_at_call 32; refine (HCC.out _).mono ?_; rintro e w2 ⟨rfl, hw⟩; subst hw))
        go_ret
        exact ⟨rfl, (hb2 _ _).trans (HB.out.mono (by simp; omega))⟩

/-- The numbers of an item. -/
def idN (g s gr item op : Int) : Int :=
  if op = 1 then item else if op = 2 then item % g else if op = 3 then item / g else if op = 4 then gr * g else if op = 5 then g else if op = 6 then item % g % s else item % g / s
theorem chk_pos {g s p gr : Int} {na : Nat} (h : chkB g s p gr na = true) : 1 ≤ g ∧ g ≤ 256 ∧ 1 ≤ s ∧ s ≤ 32 ∧ 1 ≤ gr ∧ 1 ≤ gr * g ∧ gr * g ≤ 4096 ∧ gr ≤ 4096 := by
  unfold chkB countedB at h
  simp only [Bool.and_eq_true, decide_eq_true_eq] at h
  obtain ⟨h1, ⟨h2, h3⟩, _⟩ := h
  obtain ⟨a, b, c, d⟩ := sized_pos h1
  have h4 : gr * g ≤ 4096 := by
    have := Int.mul_le_mul_of_nonneg_right h3 (show 0 ≤ g by omega)
    have h5 := Int.ediv_mul_le 4096 (show g ≠ 0 by omega)
    omega
  have h6 : 1 * 1 ≤ gr * g := Int.mul_le_mul h2 a (by omega) (by omega)
  have h7 : gr * 1 ≤ gr * g := Int.mul_le_mul_of_nonneg_left a (by omega)
  omega

set_option maxRecDepth 100000 in
set_option maxHeartbeats 1600000 in
theorem Id_yes (item op : Int) (w : World) (hk : chkB g s p gr na = true) (ho1 : 1 ≤ op) (ho7 : op ≤ 7) (hi0 : 0 ≤ item) (hi1 : item < gr * g) :
    Calls Try.prog 33 #[.agg #[.int .i64 g, .int .i64 s, .int .i64 r, .int .i64 sl, .int .i64 p, .slice A1 n1 c1, .slice A2 n2 c2, .slice A3 n3 c3], .agg #[.int .i64 gr, .slice AA na ca], .int .i64 item, .int .i64 op] w fun e w' => e = .returned (.tuple #[.int .i32 (idN g s gr item op), .int .i64 0]) ∧ Below w.heap.size w w' := by
  have hb2 : ∀ o o', Below w.heap.size w ((w.alloc o).alloc o') := fun o o' => ((Below.refl _ _).alloc (Nat.le_refl _) o).alloc (by simp) o'
  obtain ⟨a1, a2, a3, a4, a5, a6, a7, a8⟩ := chk_pos hk
  have HC := fun W => Check_any g s r sl p gr n1 c1 n2 c2 n3 c3 na ca A1 A2 A3 AA W
  have hk0 : chkV g s p gr na = 0 := by unfold chkV; rw [hk]
  rw [hk0] at HC
  have HO := fun W => Of_any g s r sl p n1 c1 n2 c2 n3 c3 A1 A2 A3 item W a1 hi0 (by omega)
  have HCC := Lib.hid HC
  have HOO := Lib.hid HO
  have hop : op = 1 ∨ op = 2 ∨ op = 3 ∨ op = 4 ∨ op = 5 ∨ op = 6 ∨ op = 7 := by omega
  have h0 : ¬ g = 0 := by omega
  have hs0 : ¬ s = 0 := by omega
  have q1 : 0 ≤ item / g := Int.ediv_nonneg hi0 (by omega)
  have q2 : item / g ≤ item := Int.ediv_le_self _ hi0
  have m1 : 0 ≤ item % g := Int.emod_nonneg _ h0
  have m2 : item % g < g := Int.emod_lt_of_pos _ (by omega)
  have r1 : 0 ≤ item % g % s := Int.emod_nonneg _ hs0
  have r2 : item % g % s < s := Int.emod_lt_of_pos _ (by omega)
  have u1 : 0 ≤ item % g / s := Int.ediv_nonneg m1 (by omega)
  have u2 : item % g / s ≤ item % g := Int.ediv_le_self _ m1
  clear HC HO hk hk0 hop
  go_enter Try.func33, Try.ntmps33
  go_wp2_with (first | (go_at_call 12; refine (HCC.out _).mono ?_; rintro e w1 ⟨rfl, hb⟩; obtain ⟨hcel, _⟩ := bcell hb; have hz1 : w.heap.size + 1 < w1.heap.size := (by have := hb.size; simp at this; omega); have HB := Lib.hid hb; clear hb) | (go_at_call 16; refine (HOO.out _).mono ?_; rintro e w2 ⟨rfl, hb⟩; obtain ⟨hcel2, _⟩ := bcell hb; have HB2 := Lib.hid hb; clear hb))
  have d0 : w2.cell? ⟨w.heap.size, 0, none⟩ = some (.int .i64 g) := by
    rw [hcel2 _ _ (by omega), hcel _ _ (by simp; omega), World.cell?_alloc_lt _ _ _ (by simp), World.cell?_alloc_at _ _ _ _ rfl]; rfl
  have d1 : w2.cell? ⟨w.heap.size, 1, none⟩ = some (.int .i64 s) := by
    rw [hcel2 _ _ (by omega), hcel _ _ (by simp; omega), World.cell?_alloc_lt _ _ _ (by simp), World.cell?_alloc_at _ _ _ _ rfl]; rfl
  have hb1 := Lib.hid ((hb2 _ _).trans ((HB.out.mono (by simp; omega)).trans (HB2.out.mono (by omega))))
  have hz2 : w.heap.size + 1 < w2.heap.size := by have := HB2.out.size; omega
  clear hcel hcel2 HB HB2 hz1
  have := World.new_ne w2 ⟨w.heap.size, 0, none⟩ d0
  have := World.new_ne w2 ⟨w.heap.size, 1, none⟩ d1
  go_region_held3 (fun w' => w'.cell? ⟨w.heap.size, 0, none⟩ = some (.int .i64 g) ∧ w'.cell? ⟨w.heap.size, 1, none⟩ = some (.int .i64 s)) (go_keep) (fail)
  have hcl : (w2.alloc (.cells #[.int .i64 0, .int .i64 item, .int .i64 (item % g), .int .i64 (item / g), .int .i64 (gr * g), .int .i64 g, .int .i64 (item % g % s), .int .i64 (item % g / s)] 92)).cell? ⟨w2.heap.size, op.toNat, none⟩ = some (.int .i64 (idN g s gr item op)) := by
    rw [World.cell?_alloc_at _ _ _ _ rfl]
    have hop : op = 1 ∨ op = 2 ∨ op = 3 ∨ op = 4 ∨ op = 5 ∨ op = 6 ∨ op = 7 := by omega
    rcases hop with rfl | rfl | rfl | rfl | rfl | rfl | rfl <;> rfl
  have hid1 : -2147483648 ≤ idN g s gr item op ∧ idN g s gr item op ≤ 2147483647 := by
    unfold idN
    repeat' split
    all_goals omega
  obtain ⟨hid1, hid2⟩ := hid1
  all_goals go_wp2
  all_goals go_ret2
  all_goals exact ⟨rfl, (hb1.out.alloc (by omega) _).drew⟩

/-- id of the law. -/
theorem id_yes (item op : Int) (w : World) (hk : chkB g s p gr na = true) (ho1 : 1 ≤ op) (ho7 : op ≤ 7) (hi0 : 0 ≤ item) (hi1 : item < gr * g) :
    Calls Try.prog 14 #[.agg #[.int .i64 g, .int .i64 s, .int .i64 r, .int .i64 sl, .int .i64 p, .slice A1 n1 c1, .slice A2 n2 c2, .slice A3 n3 c3], .agg #[.int .i64 gr, .slice AA na ca], .agg #[.int .i64 item, .int .i64 op]] w fun e w' => e = .returned (.agg #[.int .i32 (idN g s gr item op), .int .i64 0]) ∧ Below w.heap.size w w' := by
  have HS := Lib.hid fun W => Id_yes g s r sl p gr n1 c1 n2 c2 n3 c3 na ca A1 A2 A3 AA item op W hk ho1 ho7 hi0 hi1
  clear hk ho1 ho7 hi0 hi1
  go_enter Try.func14, Try.ntmps14
  go_wp2_with (go_at_call 33; refine (HS.out _).mono ?_; rintro e w1 ⟨rfl, hb⟩; obtain ⟨hc, hf⟩ := bcell hb; have hz : w.heap.size + 3 < w1.heap.size := (by have := hb.size; simp at this; omega); have HB := Lib.hid hb; clear hb)
  exact bodyPost_ret (v := .agg #[.int .i32 (idN g s gr item op), .int .i64 0]) (by simp [results, Try.results14, go_sem, hc]) rfl ⟨rfl, ((((((((Below.refl _ _).alloc (Nat.le_refl _) _).alloc (by simp) _).alloc (by simp; omega) _).alloc (by simp; omega) _).trans (HB.out.mono (by simp; omega))).setCell (by simp; omega) _).setCell (by simp; omega) _)⟩

theorem Id_no (item op : Int) (w : World) (hk : chkB g s p gr na = true) (h : ¬ (1 ≤ op ∧ op ≤ 7 ∧ 0 ≤ item ∧ item < gr * g)) :
    Calls Try.prog 33 #[.agg #[.int .i64 g, .int .i64 s, .int .i64 r, .int .i64 sl, .int .i64 p, .slice A1 n1 c1, .slice A2 n2 c2, .slice A3 n3 c3], .agg #[.int .i64 gr, .slice AA na ca], .int .i64 item, .int .i64 op] w fun e w' => e = .returned (.tuple #[.int .i32 0, .int .i64 1]) ∧ Below w.heap.size w w' := by
  have hb2 : ∀ o o', Below w.heap.size w ((w.alloc o).alloc o') := fun o o' => ((Below.refl _ _).alloc (Nat.le_refl _) o).alloc (by simp) o'
  obtain ⟨a1, a2, a3, a4, a5, a6, a7, a8⟩ := chk_pos hk
  have HC := fun W => Check_any g s r sl p gr n1 c1 n2 c2 n3 c3 na ca A1 A2 A3 AA W
  have hk0 : chkV g s p gr na = 0 := by unfold chkV; rw [hk]
  rw [hk0] at HC
  have HCC := Lib.hid HC
  have hcs : op < 1 ∨ 7 < op ∨ (1 ≤ op ∧ op ≤ 7 ∧ item < 0) ∨ (1 ≤ op ∧ op ≤ 7 ∧ gr * g ≤ item) := by omega
  clear HC hk0 hk h
  rcases hcs with h | h | ⟨h1, h2, h⟩ | ⟨h1, h2, h⟩
  all_goals
    go_enter Try.func33, Try.ntmps33
    go_wp2_with (go_at_call 12; refine (HCC.out _).mono ?_; rintro e w1 ⟨rfl, hb⟩; obtain ⟨hcel, _⟩ := bcell hb; have hz1 : w.heap.size + 1 < w1.heap.size := (by have := hb.size; simp at this; omega); have HB := Lib.hid hb; clear hb)
    go_ret2
    first | exact ⟨rfl, hb2 _ _⟩ | exact ⟨rfl, (hb2 _ _).trans (HB.out.mono (by simp; omega))⟩
theorem id_no (item op : Int) (w : World) (hk : chkB g s p gr na = true) (h : ¬ (1 ≤ op ∧ op ≤ 7 ∧ 0 ≤ item ∧ item < gr * g)) :
    Calls Try.prog 14 #[.agg #[.int .i64 g, .int .i64 s, .int .i64 r, .int .i64 sl, .int .i64 p, .slice A1 n1 c1, .slice A2 n2 c2, .slice A3 n3 c3], .agg #[.int .i64 gr, .slice AA na ca], .agg #[.int .i64 item, .int .i64 op]] w fun e w' => e = .returned (.agg #[.int .i32 0, .int .i64 1]) ∧ Below w.heap.size w w' := by
  have HS := Lib.hid fun W => Id_no g s r sl p gr n1 c1 n2 c2 n3 c3 na ca A1 A2 A3 AA item op W hk h
  clear hk h
  go_enter Try.func14, Try.ntmps14
  go_wp2_with (go_at_call 33; refine (HS.out _).mono ?_; rintro e w1 ⟨rfl, hb⟩; obtain ⟨hc, hf⟩ := bcell hb; have hz : w.heap.size + 3 < w1.heap.size := (by have := hb.size; simp at this; omega); have HB := Lib.hid hb; clear hb)
  exact bodyPost_ret (v := .agg #[.int .i32 0, .int .i64 1]) (by simp [results, Try.results14, go_sem, hc]) rfl ⟨rfl, ((((((((Below.refl _ _).alloc (Nat.le_refl _) _).alloc (by simp) _).alloc (by simp; omega) _).alloc (by simp; omega) _).trans (HB.out.mono (by simp; omega))).setCell (by simp; omega) _).setCell (by simp; omega) _)⟩
end
end Go.Proofs.Ytjknmancnfeifaa
