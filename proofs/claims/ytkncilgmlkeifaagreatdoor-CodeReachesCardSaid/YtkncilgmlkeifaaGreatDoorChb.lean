import Derived.Test.YtkncilgmlkeifaaGreatDoorTkp
import Derived.Test.YtkncilgmlkeifaaGreatDoorGrd
import Derived.Test.YtkncilgmlkeifaaGreatDoorExw
import Derived.Deep.Upon
/-
  CodeReaches: which blocks are reached (plain facts): the search marks just what can be reached; the rounds of the law.
-/
set_option linter.unusedVariables false
set_option linter.unusedSimpArgs false
namespace Go.Proofs.YtkncilgmlkeifaaGreatDoor

/-- Block b leads to block x. -/
def Edge (n : Nat) (T : Nat → TermV) (b x : Nat) : Prop := b < n ∧ x < n ∧ (x : Int) ∈ succL (T b)
/-- Block x is reached in at most k steps. -/
def Within (n : Nat) (T : Nat → TermV) : Nat → Nat → Prop
  | 0, x => x = 0
  | k + 1, x => Within n T k x ∨ ∃ b, Within n T k b ∧ Edge n T b x
theorem within_mono {n : Nat} {T : Nat → TermV} {k m x : Nat} (h : Within n T k x) (hk : k ≤ m) : Within n T m x := by
  induction hk with
  | refl => exact h
  | step _ ih => exact .inl ih
/-- What the search keeps: everything marked can be reached; what a marked block leads to is marked or still to be done. -/
theorem reachF_spec {n : Nat} {T : Nat → TermV} (h0 : 0 < n) (ht : ∀ j, j < n → ∀ x, x ∈ succL (T j) → 0 ≤ x ∧ x < n) :
    ∀ (f : Nat) (R : Nat → Bool) (td : List Int), td.length + 3 * cu R n ≤ f →
      (∀ x, x ∈ td → 0 ≤ x ∧ x < n) → (∀ x, R x = true → x < n ∧ ∃ k, Within n T k x) → (∀ x, x ∈ td → ∃ k, Within n T k x.toNat) →
      (∀ b x, R b = true → Edge n T b x → R x = true ∨ (x : Int) ∈ td) →
      (∀ x, reachF n T f R td x = true → x < n ∧ ∃ k, Within n T k x) ∧ (∀ b x, reachF n T f R td b = true → Edge n T b x → reachF n T f R td x = true) ∧ (∀ x, R x = true → reachF n T f R td x = true) ∧ (∀ x, x ∈ td → reachF n T f R td x.toNat = true)
  | 0, R, td, hm, hx, hR, hT, hE => by
    have : td = [] := List.eq_nil_of_length_eq_zero (by omega)
    subst this
    rw [reachF_nil]
    exact ⟨hR, fun b x hb he => (hE b x hb he).resolve_right (by simp), fun x hx => hx, fun x hx => by simp at hx⟩
  | f + 1, R, td, hm, hx, hR, hT, hE => by
    rcases List.eq_nil_or_concat td with rfl | ⟨t0, b, rfl⟩
    · rw [reachF_nil]
      exact ⟨hR, fun b x hb he => (hE b x hb he).resolve_right (by simp), fun x hx => hx, fun x hx => by simp at hx⟩
    · have hb := hx b (by simp)
      have hq : ∀ x, x ∈ t0 → 0 ≤ x ∧ x < n := fun x hx' => hx x (by simp [hx'])
      simp only [List.concat_eq_append, List.length_append, List.length_cons, List.length_nil] at hm hT hE hx ⊢
      have w1 : wthB b 0 ((n : Int) - 1) = true := by unfold wthB; simp only [Bool.and_eq_true, decide_eq_true_eq]; omega
      have hbn : b.toNat < n := by omega
      cases hRb : R b.toNat with
      | true =>
        rw [reachF_no _ _ _ _ _ _ (by rw [hRb, Bool.not_true, Bool.and_false])]
        have H := reachF_spec h0 ht f R t0 (by omega) hq hR (fun x hx => hT x (by simp [hx])) (fun b' x hb' he => by
          rcases hE b' x hb' he with h | h
          · exact .inl h
          · rcases List.mem_append.1 h with h | h
            · exact .inr h
            · rw [List.mem_singleton] at h
              left
              have : x = b.toNat := by omega
              rw [this]
              exact hRb)
        refine ⟨H.1, H.2.1, H.2.2.1, fun x hx => ?_⟩
        rcases List.mem_append.1 hx with hx | hx
        · exact H.2.2.2 x hx
        · rw [List.mem_singleton] at hx
          rw [hx]
          exact H.2.2.1 _ hRb
      | false =>
        rw [reachF_yes _ _ _ _ _ _ (by rw [hRb, w1]; rfl)]
        have hc := cu_set R b.toNat hRb n hbn
        have hl := succL_len (T b.toNat)
        obtain ⟨kb, hkb⟩ := hT b (by simp)
        have H := reachF_spec h0 ht f (setR R b.toNat) (t0 ++ succL (T b.toNat)) (by rw [List.length_append]; omega) (fun x hx' => by
            rcases List.mem_append.1 hx' with hx' | hx'
            · exact hq x hx'
            · exact ht _ hbn x hx') (fun x hx' => by
            unfold setR at hx'
            by_cases e : x = b.toNat
            · rw [e]
              exact ⟨hbn, kb, hkb⟩
            · rw [if_neg e] at hx'
              exact hR x hx') (fun x hx' => by
            rcases List.mem_append.1 hx' with hx' | hx'
            · exact hT x (by simp [hx'])
            · have := ht _ hbn x hx'
              exact ⟨kb + 1, .inr ⟨b.toNat, hkb, hbn, by omega, by rw [Int.toNat_of_nonneg this.1]; exact hx'⟩⟩) (fun b' x hb' he => by
            unfold setR at hb'
            by_cases e : b' = b.toNat
            · right
              rw [e] at he
              exact List.mem_append.2 (.inr he.2.2)
            · rw [if_neg e] at hb'
              rcases hE b' x hb' he with h | h
              · left
                unfold setR
                by_cases e2 : x = b.toNat
                · rw [if_pos e2]
                · rw [if_neg e2]
                  exact h
              · rcases List.mem_append.1 h with h | h
                · exact .inr (List.mem_append.2 (.inl h))
                · rw [List.mem_singleton] at h
                  left
                  unfold setR
                  rw [if_pos (by omega)])
        have hset : ∀ x, R x = true → setR R b.toNat x = true := fun x hx => by
          unfold setR
          by_cases e : x = b.toNat
          · rw [if_pos e]
          · rw [if_neg e]
            exact hx
        refine ⟨H.1, H.2.1, fun x hx => H.2.2.1 x (hset x hx), fun x hx => ?_⟩
        rcases List.mem_append.1 hx with hx | hx
        · exact H.2.2.2 x (List.mem_append.2 (.inl hx))
        · rw [List.mem_singleton] at hx
          rw [hx]
          exact H.2.2.1 _ (by unfold setR; rw [if_pos rfl])
theorem reachV_spec {n : Nat} {T : Nat → TermV} (h0 : 0 < n) (ht : ∀ j, j < n → ∀ x, x ∈ succL (T j) → 0 ≤ x ∧ x < n) :
    reachV n T 0 = true ∧ (∀ b x, reachV n T b = true → Edge n T b x → reachV n T x = true) ∧ (∀ x, reachV n T x = true → x < n ∧ ∃ k, Within n T k x) := by
  have hz : cu (fun _ => false) n ≤ n := cu_le _ _
  obtain ⟨h1, h2, h3, h4⟩ := reachF_spec h0 ht (3 * n + 1) (fun _ => false) [0] (by simp; omega) (fun x hx => by rw [List.mem_singleton] at hx; omega) (fun x hx => by cases hx) (fun x hx => by
    rw [List.mem_singleton] at hx
    subst hx
    exact ⟨0, rfl⟩) (fun b x hb => by cases hb)
  exact ⟨h4 0 (by simp), h2, h1⟩
theorem within_reach {n : Nat} {T : Nat → TermV} (h0 : 0 < n) (ht : ∀ j, j < n → ∀ x, x ∈ succL (T j) → 0 ≤ x ∧ x < n) : ∀ (k x : Nat), Within n T k x → reachV n T x = true
  | 0, x, h => by
    have : x = 0 := h
    rw [this]
    exact (reachV_spec h0 ht).1
  | k + 1, x, h => by
    rcases h with h | ⟨b, h, he⟩
    · exact within_reach h0 ht k x h
    · exact (reachV_spec h0 ht).2.1 b x (within_reach h0 ht k b h) he

open Classical in
/-- How many of the first n satisfy P. -/
noncomputable def cntP (P : Nat → Prop) : Nat → Nat
  | 0 => 0
  | n + 1 => cntP P n + if P n then 1 else 0
theorem cntP_le (P : Nat → Prop) : ∀ n, cntP P n ≤ n
  | 0 => Nat.le_refl _
  | n + 1 => by have := cntP_le P n; unfold cntP; split <;> omega
theorem cntP_mono {P Q : Nat → Prop} (h : ∀ x, P x → Q x) : ∀ n, cntP P n ≤ cntP Q n
  | 0 => Nat.le_refl _
  | n + 1 => by
    have := cntP_mono h n
    unfold cntP
    by_cases hp : P n
    · rw [if_pos hp, if_pos (h n hp)]
      omega
    · rw [if_neg hp]
      split <;> omega
theorem cntP_lt {P Q : Nat → Prop} (h : ∀ x, P x → Q x) {y : Nat} (hq : Q y) (hp : ¬ P y) : ∀ n, y < n → cntP P n < cntP Q n
  | n + 1, hy => by
    unfold cntP
    by_cases e : y = n
    · subst e
      have := cntP_mono h y
      rw [if_neg hp, if_pos hq]
      omega
    · have := cntP_lt h hq hp n (by omega)
      by_cases hp' : P n
      · rw [if_pos hp', if_pos (h n hp')]
        omega
      · rw [if_neg hp']
        split <;> omega
theorem within_lt {n : Nat} {T : Nat → TermV} (h0 : 0 < n) : ∀ (k x : Nat), Within n T k x → x < n
  | 0, x, h => by
    have : x = 0 := h
    omega
  | k + 1, x, h => by
    rcases h with h | ⟨b, _, he⟩
    · exact within_lt h0 k x h
    · exact he.2.1
theorem within_stop {n : Nat} {T : Nat → TermV} {k : Nat} (h : ∀ x, Within n T (k + 1) x → Within n T k x) : ∀ (m x : Nat), Within n T m x → Within n T (max m k) x → Within n T k x
  | 0, x, hm, _ => within_mono hm (Nat.zero_le _)
  | m + 1, x, hm, _ => by
    rcases hm with hm | ⟨b, hb, he⟩
    · exact within_stop h m x hm (within_mono hm (Nat.le_max_left _ _))
    · exact h x (.inr ⟨b, within_stop h m b hb (within_mono hb (Nat.le_max_left _ _)), he⟩)
theorem within_all {n : Nat} {T : Nat → TermV} (h0 : 0 < n) {k x : Nat} (h : Within n T k x) : Within n T n x := by
  have key : ∀ j, (∃ i, i < j ∧ ∀ x, Within n T (i + 1) x → Within n T i x) ∨ j + 1 ≤ cntP (Within n T j) n := by
    intro j
    induction j with
    | zero =>
      right
      have := cntP_lt (P := fun _ => False) (Q := Within n T 0) (fun x hx => hx.elim) (y := 0) rfl (fun hx => hx) n h0
      omega
    | succ j ih =>
      rcases ih with ⟨i, hi, h⟩ | ih
      · exact .inl ⟨i, by omega, h⟩
      · by_cases hs : ∀ x, Within n T (j + 1) x → Within n T j x
        · exact .inl ⟨j, by omega, hs⟩
        · right
          obtain ⟨y, hy⟩ := Classical.not_forall.1 hs
          obtain ⟨h1, h2⟩ := Classical.not_imp.1 hy
          have := cntP_lt (P := Within n T j) (Q := Within n T (j + 1)) (fun x hx => .inl hx) h1 h2 n (within_lt h0 _ _ h1)
          omega
  rcases key n with ⟨i, hi, hs⟩ | hc
  · exact within_mono (within_stop hs k x h (within_mono h (Nat.le_max_left _ _))) (Nat.le_of_lt hi)
  · have := cntP_le (Within n T n) n
    omega
/-- The law's rounds: what holds in round m when the blocks below b have been done. -/
structure StI (n : Nat) (T : Nat → TermV) (m b : Nat) (s : Nat → Nat) : Prop where
  zero : s 0 = 0
  some : ∀ x, s x ≠ 0 → (s x < m ∧ Within n T (m - 1) x) ∨ (s x = m ∧ Within n T m x)
  old : ∀ x, Within n T (m - 1) x → x = 0 ∨ (s x ≠ 0 ∧ s x < m)
  done : ∀ b', b' < b → Within n T (m - 1) b' → ∀ x, Edge n T b' x → x = 0 ∨ s x ≠ 0
theorem StI.first (n : Nat) (T : Nat → TermV) : StI n T 1 0 (fun _ => 0) :=
  ⟨rfl, fun x hx => absurd rfl hx, fun x hx => .inl hx, fun b' hb => absurd hb (Nat.not_lt_zero _)⟩
theorem StI.next {n : Nat} {T : Nat → TermV} {m : Nat} {s : Nat → Nat} (hm : 1 ≤ m) (h : StI n T m n s) : StI n T (m + 1) 0 s := by
  obtain ⟨k, rfl⟩ : ∃ k, m = k + 1 := ⟨m - 1, by omega⟩
  refine ⟨h.zero, fun x hx => .inl ?_, fun x hx => ?_, fun b' hb => absurd hb (Nat.not_lt_zero _)⟩
  · rcases h.some x hx with ⟨h1, h2⟩ | ⟨h1, h2⟩
    · exact ⟨by omega, within_mono h2 (by omega)⟩
    · exact ⟨by omega, h2⟩
  · have hx' : Within n T (k + 1) x := hx
    rcases hx' with hx' | ⟨b', hb, he⟩
    · rcases h.old x hx' with h1 | h1
      · exact .inl h1
      · exact .inr ⟨h1.1, by omega⟩
    · rcases h.done b' he.1 hb x he with h1 | h1
      · exact .inl h1
      · right
        refine ⟨h1, ?_⟩
        rcases h.some x h1 with h2 | h2 <;> omega
theorem StI.skip {n : Nat} {T : Nat → TermV} {m b : Nat} {s : Nat → Nat} (h : StI n T m b s) (hs : (b ≠ 0 ∧ s b = 0) ∨ s b = m) (hm : 1 ≤ m) : StI n T m (b + 1) s := by
  refine ⟨h.zero, h.some, h.old, fun b' hb hw x he => ?_⟩
  by_cases e : b' = b
  · subst e
    rcases h.old b' hw with h1 | h1
    · subst h1
      rcases hs with hs | hs
      · exact absurd rfl hs.1
      · have := h.zero
        omega
    · rcases hs with hs | hs <;> omega
  · exact h.done b' (by omega) hw x he
theorem StI.go {n : Nat} {T : Nat → TermV} {m b : Nat} {s : Nat → Nat} (h : StI n T m b s) (hb : b = 0 ∨ s b ≠ 0) (hs : s b ≠ m) : Within n T (m - 1) b := by
  rcases hb with rfl | hb
  · exact within_mono (k := 0) (show Within n T 0 0 from rfl) (Nat.zero_le _)
  · rcases h.some b hb with h1 | h1
    · exact h1.2
    · exact absurd h1.1 hs
/-- One target is set. -/
def setS (s : Nat → Nat) (x m : Nat) : Nat → Nat := fun j => if j = x then m else s j
theorem StI.set {n : Nat} {T : Nat → TermV} {m b x : Nat} {s : Nat → Nat} (h : StI n T m b s) (hm : 1 ≤ m) (hw : Within n T (m - 1) b) (he : Edge n T b x) (hx : x ≠ 0) (hs : s x = 0) : StI n T m b (setS s x m) := by
  have hxw : Within n T m x := by
    obtain ⟨k, rfl⟩ : ∃ k, m = k + 1 := ⟨m - 1, by omega⟩
    exact .inr ⟨b, hw, he⟩
  have hne : ¬ Within n T (m - 1) x := fun hx2 => by
    rcases h.old x hx2 with h1 | h1
    · exact hx h1
    · exact h1.1 hs
  refine ⟨by unfold setS; rw [if_neg (fun e => hx e.symm)]; exact h.zero, fun y hy => ?_, fun y hy => ?_, fun b' hb' hw' y he' => ?_⟩
  · unfold setS at hy ⊢
    by_cases e : y = x
    · subst e
      rw [if_pos rfl]
      exact .inr ⟨rfl, hxw⟩
    · rw [if_neg e] at hy ⊢
      exact h.some y hy
  · unfold setS
    rw [if_neg (fun e => hne (by rw [← e]; exact hy))]
    exact h.old y hy
  · unfold setS
    by_cases e : y = x
    · rw [if_pos e]
      exact .inr (by omega)
    · rw [if_neg e]
      exact h.done b' hb' hw' y he'
/-- All targets of block b have been seen. -/
theorem StI.over {n : Nat} {T : Nat → TermV} {m b : Nat} {s : Nat → Nat} (h : StI n T m b s) (ha : ∀ x, Edge n T b x → x = 0 ∨ s x ≠ 0) : StI n T m (b + 1) s :=
  ⟨h.zero, h.some, h.old, fun b' hb hw x he => by
    by_cases e : b' = b
    · subst e
      exact ha x he
    · exact h.done b' (by omega) hw x he⟩
theorem StI.last {n : Nat} {T : Nat → TermV} {s : Nat → Nat} (h0 : 0 < n) (ht : ∀ j, j < n → ∀ x, x ∈ succL (T j) → 0 ≤ x ∧ x < n) (h : StI n T (n + 1) 0 s) {b : Nat} (hb : 1 ≤ b) : reachV n T b = true ↔ s b ≠ 0 := by
  constructor
  · intro hr
    obtain ⟨_, k, hk⟩ := (reachV_spec h0 ht).2.2 b hr
    rcases h.old b (within_all h0 hk) with h1 | h1
    · omega
    · exact h1.1
  · intro hs
    rcases h.some b hs with h1 | h1
    · exact within_reach h0 ht _ _ h1.2
    · exact within_reach h0 ht _ _ h1.2
end Go.Proofs.YtkncilgmlkeifaaGreatDoor
/-
  CodeReaches: the contract of changedTerm for the two changes that the law makes.
-/
set_option linter.unusedVariables false
set_option linter.unusedSimpArgs false
namespace Go.Proofs.YtkncilgmlkeifaaGreatDoor
open Go.ChangeShapes Go.WideShapes Go.ChangeAt Go.RowKit Go.Shelf

/-- The end of a block with another kind, or another first target. -/
def chT (pt y : Int) (t : TermV) : TermV := if pt = 12 then { t with kind := y } else { t with t0 := y }
set_option maxRecDepth 100000 in
set_option maxHeartbeats 4000000 in
theorem chT_any (t : TermV) (pt a0 a1 y ok on ov : Int) (nm : ByteArray) (w : World) (hp : pt = 12 ∨ pt = 92) :
    Calls Tryz.prog 44 #[t.val, .agg #[.int .u8 pt, .int .u8 a0, .int .u8 a1, .int .i64 y, .string nm, .int .i64 ok, .int .i64 on, .int .i32 ov]] w fun e w' => e = .returned (chT pt y t).val ∧ Below w.heap.size w w' := by
  obtain ⟨k, sb, ⟨dk, dn, dv⟩, ⟨ak, an, av⟩, ⟨bk, bn, bv⟩, t0, t1⟩ := t
  simp only [TermV.val]
  rcases hp with rfl | rfl
  · go_enter Tryz.func44, Tryz.ntmps44
    go_wp2
    exact bodyPost_ret (v := .agg #[.int .i64 y, .int .i64 sb, .int .i64 dk, .int .i64 dn, .int .i32 dv, .int .i64 ak, .int .i64 an, .int .i32 av, .int .i64 bk, .int .i64 bn, .int .i32 bv, .int .i64 t0, .int .i64 t1]) (by simp [results, Tryz.results44, go_sem]) rfl ⟨rfl, (((Below.refl _ _).alloc (Nat.le_refl _) _).alloc (by simp) _).alloc (by simp; omega) _⟩
  · go_enter Tryz.func44, Tryz.ntmps44
    go_wp2
    exact bodyPost_ret (v := .agg #[.int .i64 k, .int .i64 sb, .int .i64 dk, .int .i64 dn, .int .i32 dv, .int .i64 ak, .int .i64 an, .int .i32 av, .int .i64 bk, .int .i64 bn, .int .i32 bv, .int .i64 y, .int .i64 t1]) (by simp [results, Tryz.results44, go_sem]) rfl ⟨rfl, (((Below.refl _ _).alloc (Nat.le_refl _) _).alloc (by simp) _).alloc (by simp; omega) _⟩
end Go.Proofs.YtkncilgmlkeifaaGreatDoor
/-
  CodeReaches: the contract of changed for the two changes that the law makes.
-/
set_option linter.unusedVariables false
set_option linter.unusedSimpArgs false
namespace Go.Proofs.YtkncilgmlkeifaaGreatDoor
open Go.ChangeShapes Go.WideShapes Go.ChangeAt Go.RowKit Go.Shelf

/-- The code with another end of block b. -/
def chC (c : CdV) (b : Nat) (pt y : Int) : CdV := ⟨c.q, c.l, c.b.set b ((c.b.getD b noB).1, chT pt y (c.b.getD b noB).2), c.n⟩
theorem box8 {W : World} {b : Nat} {u0 u1 u2 u3 u4 u5 u6 u7 : Value} (v0 v1 v2 v3 v4 v5 v6 v7 : Value) (h : W.heap[b]? = some (.cells #[u0, u1, u2, u3, u4, u5, u6, u7] 36 (0, 0))) :
    ((((((((W.setCell ⟨b, 0, none⟩ v0).setCell ⟨b, 1, none⟩ v1).setCell ⟨b, 2, none⟩ v2).setCell ⟨b, 3, none⟩ v3).setCell ⟨b, 4, none⟩ v4).setCell ⟨b, 5, none⟩ v5).setCell ⟨b, 6, none⟩ v6).setCell ⟨b, 7, none⟩ v7).heap[b]? = some (.cells #[v0, v1, v2, v3, v4, v5, v6, v7] 36 (0, 0)) := by
  have e0 := heap_setCell_same _ b 0 _ 36 v0 h
  simp only [List.setIfInBounds_toArray, List.set_cons_zero, List.set_cons_succ] at e0
  have e1 := heap_setCell_same _ b 1 _ 36 v1 e0
  simp only [List.setIfInBounds_toArray, List.set_cons_zero, List.set_cons_succ] at e1
  have e2 := heap_setCell_same _ b 2 _ 36 v2 e1
  simp only [List.setIfInBounds_toArray, List.set_cons_zero, List.set_cons_succ] at e2
  have e3 := heap_setCell_same _ b 3 _ 36 v3 e2
  simp only [List.setIfInBounds_toArray, List.set_cons_zero, List.set_cons_succ] at e3
  have e4 := heap_setCell_same _ b 4 _ 36 v4 e3
  simp only [List.setIfInBounds_toArray, List.set_cons_zero, List.set_cons_succ] at e4
  have e5 := heap_setCell_same _ b 5 _ 36 v5 e4
  simp only [List.setIfInBounds_toArray, List.set_cons_zero, List.set_cons_succ] at e5
  have e6 := heap_setCell_same _ b 6 _ 36 v6 e5
  simp only [List.setIfInBounds_toArray, List.set_cons_zero, List.set_cons_succ] at e6
  have e7 := heap_setCell_same _ b 7 _ 36 v7 e6
  simp only [List.setIfInBounds_toArray, List.set_cons_zero, List.set_cons_succ] at e7
  exact e7
theorem eight_other {W : World} {b k : Nat} (v0 v1 v2 v3 v4 v5 v6 v7 : Value) (h : k ≠ b) : ((((((((W.setCell ⟨b, 0, none⟩ v0).setCell ⟨b, 1, none⟩ v1).setCell ⟨b, 2, none⟩ v2).setCell ⟨b, 3, none⟩ v3).setCell ⟨b, 4, none⟩ v4).setCell ⟨b, 5, none⟩ v5).setCell ⟨b, 6, none⟩ v6).setCell ⟨b, 7, none⟩ v7).heap[k]? = W.heap[k]? := by
  rw [heap_setCell_other _ _ _ _ h, heap_setCell_other _ _ _ _ h, heap_setCell_other _ _ _ _ h, heap_setCell_other _ _ _ _ h, heap_setCell_other _ _ _ _ h, heap_setCell_other _ _ _ _ h, heap_setCell_other _ _ _ _ h, heap_setCell_other _ _ _ _ h]
abbrev trmA (t : TermV) : Array Value := #[.int .i64 t.kind, .int .i64 t.sub, .int .i64 t.d.k, .int .i64 t.d.n, .int .i32 t.d.v, .int .i64 t.a.k, .int .i64 t.a.n, .int .i32 t.a.v, .int .i64 t.b.k, .int .i64 t.b.n, .int .i32 t.b.v, .int .i64 t.t0, .int .i64 t.t1]
theorem trmA_one (t : TermV) : (trmA t).all (·.oneCell') = true := by
  rw [Array.all_eq_true_iff_forall_mem]
  intro v hv
  simp only [List.mem_toArray, List.mem_cons, List.not_mem_nil, or_false] at hv
  rcases hv with rfl | rfl | rfl | rfl | rfl | rfl | rfl | rfl | rfl | rfl | rfl | rfl | rfl <;> rfl
/-- The cells of the end of a block. -/
theorem LX.tcells {w W : World} {b n0 gB cB nb : Nat} {g s r sl p : Int} {v5 v6 : Value} {qs : List ArV} {ls : List LoV} {es1 es2 : List BlE} {e : BlE} (h : LX w b n0 g s r sl p v5 v6 (.slice (some ⟨gB, 0, none⟩) nb cB) qs ls (es1 ++ e :: es2) W)
    (hl : (es1 ++ e :: es2).length = nb) (j : Nat) (hj : j < 13) : W.cell? ⟨gB, es1.length * 14 + (j + 1), none⟩ = e.2.2.cells[j]? := by
  have hb := h.rows.blocks
  rw [hl] at hb
  have hlt : es1.length < (es1 ++ e :: es2).length := by simp
  rw [hb.cellAt _ (by rw [← hl, List.length_append, List.length_cons]; omega)]
  have := flat_get blC 14 (fun _ => rfl) (es1 ++ e :: es2) es1.length (j + 1) hlt (by omega)
  unfold flatB
  rw [this, List.getElem_append_right (Nat.le_refl _)]
  simp [blC]
set_option maxRecDepth 100000 in
set_option maxHeartbeats 8000000 in
theorem changed_any (c : CdV) (a : CdA) (w : World) (pt a0 a1 y ok on ov : Int) (nm : ByteArray) (hm : CdM c a w) (hf : c.Fits) (hqs : ∀ x, x ∈ c.q → x.1.size ≤ 9223372036854775807) (hil : ∀ e, e ∈ c.b → e.1.length ≤ 65536) (hb0 : 0 < c.b.length) (hq0 : 0 < c.q.length) (h0 : 0 ≤ a0 ∧ a0 ≤ 255) (h1 : 0 ≤ a1 ∧ a1 ≤ 255) (hp : pt = 12 ∨ pt = 92) :
    Calls Tryz.prog 13 #[cdval c a, .agg #[.int .u8 pt, .int .u8 a0, .int .u8 a1, .int .i64 y, .string nm, .int .i64 ok, .int .i64 on, .int .i32 ov]] w fun e w' => ∃ a', e = .returned (cdval (chC c (Int.tmod a0 c.b.length).toNat pt y) a') ∧ CdK (chC c (Int.tmod a0 c.b.length).toNat pt y) a' w' ∧ Below w.heap.size w w' := by
  obtain ⟨nb, hnb⟩ : ∃ n, c.b.length = n := ⟨_, rfl⟩
  obtain ⟨nq, hnq⟩ : ∃ n, c.q.length = n := ⟨_, rfl⟩
  rw [hnb] at hb0 ⊢
  rw [hnq] at hq0
  obtain ⟨b, hbm, hbn⟩ : ∃ b : Nat, Int.tmod a0 nb = (b : Int) ∧ b < nb := ⟨(Int.tmod a0 nb).toNat, by
    have := Int.tmod_nonneg (nb : Int) h0.1
    omega, by
    have := Int.tmod_lt_of_pos a0 (show (0 : Int) < nb by omega)
    have := Int.tmod_nonneg (nb : Int) h0.1
    omega⟩
  obtain ⟨a9, ham, han⟩ : ∃ b : Nat, Int.tmod a1 nq = (b : Int) ∧ b < nq := ⟨(Int.tmod a1 nq).toNat, by
    have := Int.tmod_nonneg (nq : Int) h1.1
    omega, by
    have := Int.tmod_lt_of_pos a1 (show (0 : Int) < nq by omega)
    have := Int.tmod_nonneg (nq : Int) h1.1
    omega⟩
  have hbt : (Int.tmod a0 nb).toNat = b := by rw [hbm]; rfl
  rw [hbt]
  obtain ⟨C', hC'⟩ : ∃ C', chC c b pt y = C' := ⟨_, rfl⟩
  have HCC := Lib.hid hC'
  rw [hC']
  have hi0 : IntKind.i64.wrap a0 = a0 := IntWalk.i64_in _ (by omega)
  have hi1 : IntKind.i64.wrap a1 = a1 := IntWalk.i64_in _ (by omega)
  have hwb : IntKind.i64.wrap (b : Int) = (b : Int) := IntWalk.i64_in _ (by have := hf.2.2; omega)
  have hwa : IntKind.i64.wrap (a9 : Int) = (a9 : Int) := IntWalk.i64_in _ (by have := hf.1; omega)
  have hnb0 : ((nb : Int) == 0) = false := by simp; omega
  have hnq0 : ((nq : Int) == 0) = false := by simp; omega
  have hnb1 : ¬ (nb : Int) = 0 := by omega
  have hnq1 : ¬ (nq : Int) = 0 := by omega
  have hbi : (b : Int) < (nb : Int) := by omega
  have HHT := Lib.hid (fun (W : World) (t : TermV) => chT_any t pt a0 a1 y ok on ov nm W hp)
  have HB0 := Lib.hid (show Below w.heap.size w (((w.alloc (.cells #[.int .i64 (c.n 0), .int .i64 (c.n 1), .int .i64 (c.n 2), .int .i64 (c.n 3), .int .i64 (c.n 4), .slice a.a1 nq a.c1, .slice a.a2 c.l.length a.c2, .slice a.a3 nb a.c3] 36)).alloc (.cells #[.int .u8 pt, .int .u8 a0, .int .u8 a1, .int .i64 y, .string nm, .int .i64 ok, .int .i64 on, .int .i32 ov] 29)).alloc (.cells #[.int .i64 0, .int .i64 0, .int .i64 0, .int .i64 0, .int .i64 0, .slice none 0 0, .slice none 0 0, .slice none 0 0] 36)) from (((Below.refl _ _).alloc (Nat.le_refl _) _).alloc (by simp) _).alloc (by simp; omega) _)
  have K2 := Lib.hid (show (((w.alloc (.cells #[.int .i64 (c.n 0), .int .i64 (c.n 1), .int .i64 (c.n 2), .int .i64 (c.n 3), .int .i64 (c.n 4), .slice a.a1 nq a.c1, .slice a.a2 c.l.length a.c2, .slice a.a3 nb a.c3] 36)).alloc (.cells #[.int .u8 pt, .int .u8 a0, .int .u8 a1, .int .i64 y, .string nm, .int .i64 ok, .int .i64 on, .int .i32 ov] 29)).alloc (.cells #[.int .i64 0, .int .i64 0, .int .i64 0, .int .i64 0, .int .i64 0, .slice none 0 0, .slice none 0 0, .slice none 0 0] 36)).heap[w.heap.size]? = some (.cells #[.int .i64 (c.n 0), .int .i64 (c.n 1), .int .i64 (c.n 2), .int .i64 (c.n 3), .int .i64 (c.n 4), .slice a.a1 nq a.c1, .slice a.a2 c.l.length a.c2, .slice a.a3 nb a.c3] 36 (0, 0)) from (Below.heap_alloc _ _ _ (by simp; omega)).trans ((Below.heap_alloc _ _ _ (by simp)).trans (heap_alloc_new _ _)))
  have K3 := Lib.hid (show (((w.alloc (.cells #[.int .i64 (c.n 0), .int .i64 (c.n 1), .int .i64 (c.n 2), .int .i64 (c.n 3), .int .i64 (c.n 4), .slice a.a1 nq a.c1, .slice a.a2 c.l.length a.c2, .slice a.a3 nb a.c3] 36)).alloc (.cells #[.int .u8 pt, .int .u8 a0, .int .u8 a1, .int .i64 y, .string nm, .int .i64 ok, .int .i64 on, .int .i32 ov] 29)).alloc (.cells #[.int .i64 0, .int .i64 0, .int .i64 0, .int .i64 0, .int .i64 0, .slice none 0 0, .slice none 0 0, .slice none 0 0] 36)).heap[w.heap.size + 1]? = some (.cells #[.int .u8 pt, .int .u8 a0, .int .u8 a1, .int .i64 y, .string nm, .int .i64 ok, .int .i64 on, .int .i32 ov] 29 (0, 0)) from by
    have := heap_alloc_new (w.alloc (.cells #[.int .i64 (c.n 0), .int .i64 (c.n 1), .int .i64 (c.n 2), .int .i64 (c.n 3), .int .i64 (c.n 4), .slice a.a1 nq a.c1, .slice a.a2 c.l.length a.c2, .slice a.a3 nb a.c3] 36)) (.cells #[.int .u8 pt, .int .u8 a0, .int .u8 a1, .int .i64 y, .string nm, .int .i64 ok, .int .i64 on, .int .i32 ov] 29)
    rw [World.size_alloc] at this
    exact (Below.heap_alloc _ _ _ (by simp)).trans this)
  have K4 := Lib.hid (show (((w.alloc (.cells #[.int .i64 (c.n 0), .int .i64 (c.n 1), .int .i64 (c.n 2), .int .i64 (c.n 3), .int .i64 (c.n 4), .slice a.a1 nq a.c1, .slice a.a2 c.l.length a.c2, .slice a.a3 nb a.c3] 36)).alloc (.cells #[.int .u8 pt, .int .u8 a0, .int .u8 a1, .int .i64 y, .string nm, .int .i64 ok, .int .i64 on, .int .i32 ov] 29)).alloc (.cells #[.int .i64 0, .int .i64 0, .int .i64 0, .int .i64 0, .int .i64 0, .slice none 0 0, .slice none 0 0, .slice none 0 0] 36)).heap[w.heap.size + 1 + 1]? = some (.cells #[.int .i64 0, .int .i64 0, .int .i64 0, .int .i64 0, .int .i64 0, .slice none 0 0, .slice none 0 0, .slice none 0 0] 36 (0, 0)) from by
    have := heap_alloc_new ((w.alloc (.cells #[.int .i64 (c.n 0), .int .i64 (c.n 1), .int .i64 (c.n 2), .int .i64 (c.n 3), .int .i64 (c.n 4), .slice a.a1 nq a.c1, .slice a.a2 c.l.length a.c2, .slice a.a3 nb a.c3] 36)).alloc (.cells #[.int .u8 pt, .int .u8 a0, .int .u8 a1, .int .i64 y, .string nm, .int .i64 ok, .int .i64 on, .int .i32 ov] 29)) (.cells #[.int .i64 0, .int .i64 0, .int .i64 0, .int .i64 0, .int .i64 0, .slice none 0 0, .slice none 0 0, .slice none 0 0] 36)
    rwa [World.size_alloc, World.size_alloc] at this)
  have HCP := Lib.hid (show ∀ V, Below w.heap.size w V → Calls Tryz.prog 38 #[.agg #[.int .i64 (c.n 0), .int .i64 (c.n 1), .int .i64 (c.n 2), .int .i64 (c.n 3), .int .i64 (c.n 4), .slice a.a1 nq a.c1, .slice a.a2 c.l.length a.c2, .slice a.a3 nb a.c3]] V fun e w' => ∃ A5 q5 A6 q6 g7 q7 es, e = .returned (.agg #[.int .i64 (c.n 0), .int .i64 (c.n 1), .int .i64 (c.n 2), .int .i64 (c.n 3), .int .i64 (c.n 4), .slice A5 nq q5, .slice A6 c.l.length q6, .slice (some ⟨g7, 0, none⟩) nb q7]) ∧ (RC V.heap.size (.slice A5 nq q5) (.slice A6 c.l.length q6) (.slice (some ⟨g7, 0, none⟩) nb q7) c.q c.l es w' ∧ es.map (·.2) = c.b ∧ es.length = nb) ∧ Below V.heap.size V w' from fun V hV => by
    have H := Copy_cd c a V (hm.on hV) hf
    unfold cdval at H
    rw [hnb, hnq] at H
    refine H.mono ?_
    rintro e w' ⟨v5, v6, v7, es, rfl, hr, hes, hbw, hd⟩
    have hel : es.length = nb := by rw [← hnb, ← hes, List.length_map]
    obtain ⟨A5, p5, rfl, _⟩ := own_cells hr.arr
    obtain ⟨A6, p6, rfl, _⟩ := own_cells hr.loops
    obtain ⟨g7, p7, rfl, _, _⟩ := hr.blocks.form (by omega)
    rw [hel] at hr ⊢
    rw [hnq] at hr ⊢
    exact ⟨A5, p5, A6, p6, g7, p7, es, rfl, ⟨hr, hes, hel⟩, hbw⟩)
  have HQS := Lib.hid hqs
  have HIL := Lib.hid hil
  have HNB := Lib.hid hnb
  have HNQ := Lib.hid hnq
  have HP := Lib.hid hp
  unfold cdval
  rw [hnb, hnq]
  clear hC' hqs hil hnb hnq hp hm hf hbt h0 h1
  go_enter Tryz.func13, Tryz.ntmps13
  go_upto_region 2 with (first
    | (go_at_call 38; (with_reducible refine (HCP.out _ HB0.out).mono ?_); rintro e w1 ⟨A5, q5, A6, q6, g7, q7, es, rfl, hr, hb1⟩; have HR := Lib.hid hr; have HB1 := Lib.hid hb1; clear hr hb1; have hk2 := (HB1.out.block _ (Array.getElem?_eq_some_iff.1 K2.out).1).trans K2.out; have rf := fun o => frozen_of_row _ _ o _ _ hk2; have k2_0 := cell_blk hk2 (i := 0) rfl; have k2_1 := cell_blk hk2 (i := 1) rfl; have k2_2 := cell_blk hk2 (i := 2) rfl; have k2_3 := cell_blk hk2 (i := 3) rfl; have k2_4 := cell_blk hk2 (i := 4) rfl; have k2_5 := cell_blk hk2 (i := 5) rfl; have k2_6 := cell_blk hk2 (i := 6) rfl; have k2_7 := cell_blk hk2 (i := 7) rfl; have HK2 := Lib.hid hk2; clear hk2))
  have h2 : ((((((((w1.setCell ⟨w.heap.size, 0, none⟩ (.int .i64 (c.n 0))).setCell ⟨w.heap.size, 1, none⟩ (.int .i64 (c.n 1))).setCell ⟨w.heap.size, 2, none⟩ (.int .i64 (c.n 2))).setCell ⟨w.heap.size, 3, none⟩ (.int .i64 (c.n 3))).setCell ⟨w.heap.size, 4, none⟩ (.int .i64 (c.n 4))).setCell ⟨w.heap.size, 5, none⟩ (.slice A5 nq q5)).setCell ⟨w.heap.size, 6, none⟩ (.slice A6 c.l.length q6)).setCell ⟨w.heap.size, 7, none⟩ (.slice (some ⟨g7, 0, none⟩) nb q7)).heap[w.heap.size]? = some (.cells #[.int .i64 (c.n 0), .int .i64 (c.n 1), .int .i64 (c.n 2), .int .i64 (c.n 3), .int .i64 (c.n 4), .slice A5 nq q5, .slice A6 c.l.length q6, .slice (some ⟨g7, 0, none⟩) nb q7] 36 (0, 0)) := box8 _ _ _ _ _ _ _ _ HK2.out
  have hlt3 : w.heap.size + 1 ≠ w.heap.size := by omega
  have hlt4 : w.heap.size + 1 + 1 ≠ w.heap.size := by omega
  have H3 := Lib.hid (show ((((((((w1.setCell ⟨w.heap.size, 0, none⟩ (.int .i64 (c.n 0))).setCell ⟨w.heap.size, 1, none⟩ (.int .i64 (c.n 1))).setCell ⟨w.heap.size, 2, none⟩ (.int .i64 (c.n 2))).setCell ⟨w.heap.size, 3, none⟩ (.int .i64 (c.n 3))).setCell ⟨w.heap.size, 4, none⟩ (.int .i64 (c.n 4))).setCell ⟨w.heap.size, 5, none⟩ (.slice A5 nq q5)).setCell ⟨w.heap.size, 6, none⟩ (.slice A6 c.l.length q6)).setCell ⟨w.heap.size, 7, none⟩ (.slice (some ⟨g7, 0, none⟩) nb q7)).heap[w.heap.size + 1]? = some (.cells #[.int .u8 pt, .int .u8 a0, .int .u8 a1, .int .i64 y, .string nm, .int .i64 ok, .int .i64 on, .int .i32 ov] 29 (0, 0)) from (eight_other _ _ _ _ _ _ _ _ hlt3).trans ((HB1.out.block _ (Array.getElem?_eq_some_iff.1 K3.out).1).trans K3.out))
  have H4 := Lib.hid (show ((((((((w1.setCell ⟨w.heap.size, 0, none⟩ (.int .i64 (c.n 0))).setCell ⟨w.heap.size, 1, none⟩ (.int .i64 (c.n 1))).setCell ⟨w.heap.size, 2, none⟩ (.int .i64 (c.n 2))).setCell ⟨w.heap.size, 3, none⟩ (.int .i64 (c.n 3))).setCell ⟨w.heap.size, 4, none⟩ (.int .i64 (c.n 4))).setCell ⟨w.heap.size, 5, none⟩ (.slice A5 nq q5)).setCell ⟨w.heap.size, 6, none⟩ (.slice A6 c.l.length q6)).setCell ⟨w.heap.size, 7, none⟩ (.slice (some ⟨g7, 0, none⟩) nb q7)).heap[w.heap.size + 1 + 1]? = some (.cells #[.int .i64 0, .int .i64 0, .int .i64 0, .int .i64 0, .int .i64 0, .slice none 0 0, .slice none 0 0, .slice none 0 0] 36 (0, 0)) from (eight_other _ _ _ _ _ _ _ _ hlt4).trans ((HB1.out.block _ (Array.getElem?_eq_some_iff.1 K4.out).1).trans K4.out))
  have HL1 := Lib.hid (show LX w w.heap.size (((w.alloc (.cells #[.int .i64 (c.n 0), .int .i64 (c.n 1), .int .i64 (c.n 2), .int .i64 (c.n 3), .int .i64 (c.n 4), .slice a.a1 nq a.c1, .slice a.a2 c.l.length a.c2, .slice a.a3 nb a.c3] 36)).alloc (.cells #[.int .u8 pt, .int .u8 a0, .int .u8 a1, .int .i64 y, .string nm, .int .i64 ok, .int .i64 on, .int .i32 ov] 29)).alloc (.cells #[.int .i64 0, .int .i64 0, .int .i64 0, .int .i64 0, .int .i64 0, .slice none 0 0, .slice none 0 0, .slice none 0 0] 36)).heap.size (c.n 0) (c.n 1) (c.n 2) (c.n 3) (c.n 4) (.slice A5 nq q5) (.slice A6 c.l.length q6) (.slice (some ⟨g7, 0, none⟩) nb q7) c.q c.l es ((((((((w1.setCell ⟨w.heap.size, 0, none⟩ (.int .i64 (c.n 0))).setCell ⟨w.heap.size, 1, none⟩ (.int .i64 (c.n 1))).setCell ⟨w.heap.size, 2, none⟩ (.int .i64 (c.n 2))).setCell ⟨w.heap.size, 3, none⟩ (.int .i64 (c.n 3))).setCell ⟨w.heap.size, 4, none⟩ (.int .i64 (c.n 4))).setCell ⟨w.heap.size, 5, none⟩ (.slice A5 nq q5)).setCell ⟨w.heap.size, 6, none⟩ (.slice A6 c.l.length q6)).setCell ⟨w.heap.size, 7, none⟩ (.slice (some ⟨g7, 0, none⟩) nb q7)) from
    ⟨h2, HR.out.1.k36 (k36_store HK2.out _ _ _ _ _ _ _ _), ((((((((HB0.out.trans (HB1.out.mono HB0.out.size)).setCell (Nat.le_refl _) _).setCell (Nat.le_refl _) _).setCell (Nat.le_refl _) _).setCell (Nat.le_refl _) _).setCell (Nat.le_refl _) _).setCell (Nat.le_refl _) _).setCell (Nat.le_refl _) _).setCell (Nat.le_refl _) _, HB0.out.size, Nat.le_refl _, by have := HB1.out.size; simp only [World.setCell, Array.size_modify]; exact this⟩)
  obtain ⟨n0, hn0⟩ : ∃ n0, (((w.alloc (.cells #[.int .i64 (c.n 0), .int .i64 (c.n 1), .int .i64 (c.n 2), .int .i64 (c.n 3), .int .i64 (c.n 4), .slice a.a1 nq a.c1, .slice a.a2 c.l.length a.c2, .slice a.a3 nb a.c3] 36)).alloc (.cells #[.int .u8 pt, .int .u8 a0, .int .u8 a1, .int .i64 y, .string nm, .int .i64 ok, .int .i64 on, .int .i32 ov] 29)).alloc (.cells #[.int .i64 0, .int .i64 0, .int .i64 0, .int .i64 0, .int .i64 0, .slice none 0 0, .slice none 0 0, .slice none 0 0] 36)).heap.size = n0 := ⟨_, rfl⟩
  have HES := Lib.hid HR.out.2
  rw [hn0] at HL1
  have HN0X := Lib.hid (show w.heap.size + 1 + 1 < n0 from by rw [← hn0]; simp)
  clear h2 hlt3 hlt4 hn0 k2_0 k2_1 k2_2 k2_3 k2_4 k2_5 k2_6 k2_7 rf HK2 HR HB1 K2 K3 K4 HB0 HCP
  generalize ((((((((w1.setCell ⟨w.heap.size, 0, none⟩ (.int .i64 (c.n 0))).setCell ⟨w.heap.size, 1, none⟩ (.int .i64 (c.n 1))).setCell ⟨w.heap.size, 2, none⟩ (.int .i64 (c.n 2))).setCell ⟨w.heap.size, 3, none⟩ (.int .i64 (c.n 3))).setCell ⟨w.heap.size, 4, none⟩ (.int .i64 (c.n 4))).setCell ⟨w.heap.size, 5, none⟩ (.slice A5 nq q5)).setCell ⟨w.heap.size, 6, none⟩ (.slice A6 c.l.length q6)).setCell ⟨w.heap.size, 7, none⟩ (.slice (some ⟨g7, 0, none⟩) nb q7)) = W1 at *
  obtain ⟨es1, e0, es2, hse, hsl⟩ := split_at es (b := b) (by rw [HES.out.2]; exact hbn)
  subst hse
  have HSL := Lib.hid hsl
  obtain ⟨t, ht⟩ : ∃ t, e0.2.2 = t := ⟨_, rfl⟩
  have HT := Lib.hid ht
  have c5 := HL1.out.c5
  have c7 := HL1.out.c7
  have h3 := H3.out
  have y0 := cell_blk h3 (i := 0) rfl
  have y1 := cell_blk h3 (i := 1) rfl
  have y2 := cell_blk h3 (i := 2) rfl
  have y3 := cell_blk h3 (i := 3) rfl
  have y4 := cell_blk h3 (i := 4) rfl
  have y5 := cell_blk h3 (i := 5) rfl
  have y6 := cell_blk h3 (i := 6) rfl
  have y7 := cell_blk h3 (i := 7) rfl
  clear h3 hsl ht
  rcases HP.out with rfl | rfl
  · go_upto_region 36 with (fail)
    have HCELL := fun j hj => HL1.out.tcells HES.out.2 j hj
    rw [HSL.out, HT.out] at HCELL
    have x0 := HCELL 0 (by decide)
    have x1 := HCELL 1 (by decide)
    have x2 := HCELL 2 (by decide)
    have x3 := HCELL 3 (by decide)
    have x4 := HCELL 4 (by decide)
    have x5 := HCELL 5 (by decide)
    have x6 := HCELL 6 (by decide)
    have x7 := HCELL 7 (by decide)
    have x8 := HCELL 8 (by decide)
    have x9 := HCELL 9 (by decide)
    have x10 := HCELL 10 (by decide)
    have x11 := HCELL 11 (by decide)
    have x12 := HCELL 12 (by decide)
    simp only [TermV.cells, List.getElem?_cons_succ, List.getElem?_cons_zero, Nat.zero_add] at x0 x1 x2 x3 x4 x5 x6 x7 x8 x9 x10 x11 x12
    have HTS := Lib.hid (show ∀ V, Below W1.heap.size W1 V → (fun w' => w'.cell? ⟨w.heap.size, 7, none⟩ = some (.slice (some ⟨g7, 0, none⟩) nb q7) ∧ w'.cell? ⟨w.heap.size + 1, 0, none⟩ = some (.int .u8 12) ∧ w'.cell? ⟨w.heap.size + 1, 1, none⟩ = some (.int .u8 a0) ∧ w'.cell? ⟨w.heap.size + 1, 2, none⟩ = some (.int .u8 a1) ∧ w'.cell? ⟨w.heap.size + 1, 3, none⟩ = some (.int .i64 y) ∧ w'.cell? ⟨w.heap.size + 1, 4, none⟩ = some (.string nm) ∧ w'.cell? ⟨w.heap.size + 1, 5, none⟩ = some (.int .i64 ok) ∧ w'.cell? ⟨w.heap.size + 1, 6, none⟩ = some (.int .i64 on) ∧ w'.cell? ⟨w.heap.size + 1, 7, none⟩ = some (.int .i32 ov)) V from fun V hV => by
      have q := (hV.block _ (Array.getElem?_eq_some_iff.1 H3.out).1).trans H3.out
      exact ⟨(HL1.out.on hV).c7, cell_blk q (i := 0) rfl, cell_blk q (i := 1) rfl, cell_blk q (i := 2) rfl, cell_blk q (i := 3) rfl, cell_blk q (i := 4) rfl, cell_blk q (i := 5) rfl, cell_blk q (i := 6) rfl, cell_blk q (i := 7) rfl⟩)
    obtain ⟨t', ht'⟩ : ∃ t', chT 12 y t = t' := ⟨_, rfl⟩
    replace HHT := Lib.hid (fun W => HHT.out W t)
    have HT' := Lib.hid ht'
    have HGN := Lib.hid (show ∀ k, k < n0 → k ≠ g7 from fun k hk e => by
      have hr := HL1.out.rows.blocks
      rw [HES.out.2] at hr
      have h1 := (hr.lt g7 rfl).1
      omega)
    have HN0 := Lib.hid (show w.heap.size + 1 + 1 < n0 from HN0X.out)
    have H4Z := Lib.hid (HGN.out _ HN0.out)
    have HTHR := Lib.hid (show ∀ V, Below W1.heap.size W1 V → V.there g7 (b * 14 + 1) 13 from fun V hV j hj => by
      have hr := (HL1.out.on hV).rows.blocks
      rw [HES.out.2] at hr
      have hlt2 : b * 14 + 1 + j < (flatB (es1 ++ e0 :: es2)).length := by rw [flatB_len, HES.out.2]; omega
      exact ⟨by rw [hr.cellAt _ (by omega), List.getElem?_eq_getElem hlt2]; rfl, hr.frozenAt _⟩)
    have HKPR := Lib.hid (show ∀ V, Below W1.heap.size W1 V → (fun w' => w'.cell? ⟨w.heap.size, 7, none⟩ = some (.slice (some ⟨g7, 0, none⟩) nb q7) ∧ w'.cell? ⟨w.heap.size + 1, 0, none⟩ = some (.int .u8 12) ∧ w'.cell? ⟨w.heap.size + 1, 1, none⟩ = some (.int .u8 a0) ∧ w'.cell? ⟨w.heap.size + 1, 2, none⟩ = some (.int .u8 a1) ∧ w'.cell? ⟨w.heap.size + 1, 3, none⟩ = some (.int .i64 y) ∧ w'.cell? ⟨w.heap.size + 1, 4, none⟩ = some (.string nm) ∧ w'.cell? ⟨w.heap.size + 1, 5, none⟩ = some (.int .i64 ok) ∧ w'.cell? ⟨w.heap.size + 1, 6, none⟩ = some (.int .i64 on) ∧ w'.cell? ⟨w.heap.size + 1, 7, none⟩ = some (.int .i32 ov)) (V.setCells g7 (b * 14 + 1) (trmA t').toList) from fun V hV => by
      have key : ∀ x : Addr, x.block ≠ g7 → (V.setCells g7 (b * 14 + 1) (trmA t').toList).cell? x = V.cell? x := fun x hx => World.cell?_setCells_out g7 _ _ _ x (fun e => absurd e hx)
      have h1 := HGN.out w.heap.size (by have := HN0.out; omega)
      have h2 := HGN.out (w.heap.size + 1) (by have := HN0.out; omega)
      obtain ⟨s0, s1, s2, s3, s4, s5, s6, s7, s8⟩ := HTS.out V hV
      exact ⟨(key _ h1).trans s0, (key _ h2).trans s1, (key _ h2).trans s2, (key _ h2).trans s3, (key _ h2).trans s4, (key _ h2).trans s5, (key _ h2).trans s6, (key _ h2).trans s7, (key _ h2).trans s8⟩)
    rw [ht'] at HHT
    clear ht' HCELL
    have HBc := Lib.hid (show Below W1.heap.size W1 W1.drew from below_drewS (Below.refl _ W1))
    refine wp_region_held_drew (S := (fun w' => w'.cell? ⟨w.heap.size, 7, none⟩ = some (.slice (some ⟨g7, 0, none⟩) nb q7) ∧ w'.cell? ⟨w.heap.size + 1, 0, none⟩ = some (.int .u8 12) ∧ w'.cell? ⟨w.heap.size + 1, 1, none⟩ = some (.int .u8 a0) ∧ w'.cell? ⟨w.heap.size + 1, 2, none⟩ = some (.int .u8 a1) ∧ w'.cell? ⟨w.heap.size + 1, 3, none⟩ = some (.int .i64 y) ∧ w'.cell? ⟨w.heap.size + 1, 4, none⟩ = some (.string nm) ∧ w'.cell? ⟨w.heap.size + 1, 5, none⟩ = some (.int .i64 ok) ∧ w'.cell? ⟨w.heap.size + 1, 6, none⟩ = some (.int .i64 on) ∧ w'.cell? ⟨w.heap.size + 1, 7, none⟩ = some (.int .i32 ov))) (by kernel_rfl) ?_ (fun hHeld => ?_)
    · (try dsimp only); exact HTS.out _ HBc.out
    refine tk 0 ⟨some 179, .fieldAddr 36 (.tmp 2) 7, 0, "law.go:123", #[], none⟩ (v := ?_) ?_ (by assumption) ?_
    rotate_left
    · (intro w hSw; (try dsimp only at hSw); go_simp; (try with_reducible rfl))
    try simp only [pe]
    refine tk 1 ⟨some 180, .load 34 (.tmp 179), 34, "law.go:123", #[⟨0, .data⟩], none⟩ (v := ?_) ?_ (by assumption) ?_
    rotate_left
    · (intro w hSw; (try dsimp only at hSw); go_simp; (try with_reducible rfl))
    try simp only [pe]
    refine tk 2 ⟨some 181, .move (.tmp 5), 3, "law.go:123", #[], none⟩ (v := ?_) ?_ (by assumption) ?_
    rotate_left
    · (intro w hSw; (try dsimp only at hSw); go_simp; (try with_reducible rfl))
    try simp only [pe]
    refine tk 3 ⟨some 182, .fieldAddr 36 (.tmp 2) 7, 0, "law.go:123", #[], none⟩ (v := ?_) ?_ (by assumption) ?_
    rotate_left
    · (intro w hSw; (try dsimp only at hSw); go_simp; (try with_reducible rfl))
    try simp only [pe]
    refine tk 4 ⟨some 183, .load 34 (.tmp 182), 34, "law.go:123", #[⟨3, .data⟩], none⟩ (v := ?_) ?_ (by assumption) ?_
    rotate_left
    · (intro w hSw; (try dsimp only at hSw); go_simp; (try with_reducible rfl))
    try simp only [pe]
    refine tk 5 ⟨some 184, .move (.tmp 5), 3, "law.go:123", #[], none⟩ (v := ?_) ?_ (by assumption) ?_
    rotate_left
    · (intro w hSw; (try dsimp only at hSw); go_simp; (try with_reducible rfl))
    try simp only [pe]
    refine tk 6 ⟨some 185, .indexAddr 34 (.tmp 183) (.tmp 184), 0, "law.go:123", #[⟨4, .data⟩, ⟨5, .data⟩], none⟩ (v := ?_) ?_ (by assumption) ?_
    rotate_left
    · (intro w hSw; (try dsimp only at hSw); go_simp; (try with_reducible rfl))
    try simp only [pe]
    refine tk 7 ⟨some 186, .fieldAddr 55 (.tmp 185) 1, 0, "law.go:123", #[⟨6, .data⟩], none⟩ (v := ?_) ?_ (by assumption) ?_
    rotate_left
    · (intro w hSw; (try dsimp only at hSw); go_simp; (try with_reducible rfl))
    try simp only [pe]
    refine tk 9 ⟨some 188, .load 29 (.tmp 3), 29, "law.go:123", #[], none⟩ (v := ?_) ?_ (by assumption) ?_
    rotate_left
    · (intro w hSw; (try dsimp only at hSw); go_simp; (try with_reducible rfl))
    try simp only [pe]
    refine wpAnyH_ready (rs := [8]) (by kernel_rfl) (by simp) ?_
    refine AllReadyH.cons (o := ⟨some 187, .load 53 (.tmp 186), 53, "law.go:123", #[⟨7, .data⟩], none⟩) rfl (fun K hK => ?_) ?_
    · go_simp
      refine hK.out _ _ ?_ (fun hHeld => ?_)
      · (try dsimp only); exact HTS.out _ HBc.out
      clear hK K
      try simp only [pe]
      refine wpAnyH_ready (rs := [10]) (by kernel_rfl) (by simp) ?_
      refine AllReadyH.cons (o := ⟨some 189, .call { callee := .value (.func 44), args := #[.tmp 187, .tmp 188], argTypes := #[53, 29] }, 53, "law.go:123", #[⟨8, .data⟩, ⟨9, .data⟩], none⟩) rfl (fun K hK => ?_) ?_
      · (go_simp; go_at_call 44; refine (HHT.out _).mono ?_; rintro e wv ⟨rfl, hbx⟩; have HBc2 := Lib.hid (HBc.out.trans (hbx.mono HBc.out.size)); clear hbx; have HL2 := Lib.hid (HL1.out.on HBc2.out); have HTH := Lib.hid (show wv.there g7 (b * 14 + 1) 13 from HTHR.out _ HBc2.out); have HKP := Lib.hid (HKPR.out _ HBc2.out); try go_wp2_with fail)
        refine hK.out _ _ ?_ (fun hHeld => ?_)
        · (try dsimp only); exact HTS.out _ HBc2.out
        clear hK K
        try simp only [pe]
        refine tk 11 ⟨some 190, .indexAddr 34 (.tmp 180) (.tmp 181), 0, "law.go:123", #[⟨1, .data⟩, ⟨2, .data⟩, ⟨0, .phase⟩, ⟨1, .phase⟩, ⟨2, .phase⟩, ⟨3, .phase⟩, ⟨4, .phase⟩, ⟨5, .phase⟩, ⟨6, .phase⟩, ⟨7, .phase⟩, ⟨8, .phase⟩, ⟨9, .phase⟩, ⟨10, .phase⟩], none⟩ (v := ?_) ?_ (by assumption) ?_
        rotate_left
        · (intro w hSw; (try dsimp only at hSw); go_simp; (try with_reducible rfl))
        try simp only [pe]
        refine tk 12 ⟨some 191, .fieldAddr 55 (.tmp 190) 1, 0, "law.go:123", #[⟨11, .data⟩, ⟨0, .phase⟩, ⟨1, .phase⟩, ⟨2, .phase⟩, ⟨3, .phase⟩, ⟨4, .phase⟩, ⟨5, .phase⟩, ⟨6, .phase⟩, ⟨7, .phase⟩, ⟨8, .phase⟩, ⟨9, .phase⟩, ⟨10, .phase⟩], none⟩ (v := ?_) ?_ (by assumption) ?_
        rotate_left
        · (intro w hSw; (try dsimp only at hSw); go_simp; (try with_reducible rfl))
        try simp only [pe]
        refine wpAnyH_ready (rs := [13]) (by kernel_rfl) (by simp) ?_
        refine AllReadyH.cons (o := ⟨none, .store 53 (.tmp 191) (.tmp 189), 0, "law.go:123", #[⟨12, .data⟩, ⟨10, .data⟩, ⟨10, .chain⟩, ⟨0, .phase⟩, ⟨1, .phase⟩, ⟨2, .phase⟩, ⟨3, .phase⟩, ⟨4, .phase⟩, ⟨5, .phase⟩, ⟨6, .phase⟩, ⟨7, .phase⟩, ⟨8, .phase⟩, ⟨9, .phase⟩, ⟨10, .phase⟩], none⟩) rfl (fun K hK => ?_) ?_
        · (refine step_store_mid rfl 53 (.tmp 191) (.tmp 189) rfl g7 (b * 14 + 1) (trmA t') (by kernel_rfl) (by kernel_rfl) (fun j hj => HTH.out j hj) (by kernel_rfl) (trmA_one _) ?_)
          refine hK.out _ _ ?_ (fun hHeld => ?_)
          · (try dsimp only); exact HKP.out
          clear hK K
          try simp only [pe]
          refine wpAnyH_done (by kernel_rfl) ?_ _
          clear hHeld HKP HTH
          have HL3 := Lib.hid (show LX w w.heap.size n0 (c.n 0) (c.n 1) (c.n 2) (c.n 3) (c.n 4) (.slice A5 nq q5) (.slice A6 c.l.length q6) (.slice (some ⟨g7, 0, none⟩) nb q7) c.q c.l (es1 ++ (e0.1, e0.2.1, t') :: es2) (wv.setCells g7 (b * 14 + 1) (trmA t').toList) from by
            have h := HL2.out.storeT t' HES.out.2
            rw [HSL.out] at h
            exact h)
          have hz4 := H4Z.out
          have h4 := (HBc2.out.block _ (Array.getElem?_eq_some_iff.1 H4.out).1).trans H4.out
          have H4b := Lib.hid (show (wv.setCells g7 (b * 14 + 1) (trmA t').toList).heap[w.heap.size + 1 + 1]? = some (.cells #[.int .i64 0, .int .i64 0, .int .i64 0, .int .i64 0, .int .i64 0, .slice none 0 0, .slice none 0 0, .slice none 0 0] 36 (0, 0)) from (World.heap_setCells_other wv g7 _ _ (Array.getElem?_eq_some_iff.1 h4).1 hz4).trans h4)
          clear h4 hz4
          generalize (wv.setCells g7 (b * 14 + 1) (trmA t').toList) = W5 at *
          have d0 := HL3.out.c0
          have d1 := HL3.out.c1
          have d2 := HL3.out.c2
          have d3 := HL3.out.c3
          have d4 := HL3.out.c4
          have d5 := HL3.out.c5
          have d6 := HL3.out.c6
          have d7 := HL3.out.c7
          have h4 := H4b.out
          have rf4 := fun o => frozen_of_row _ _ o _ _ h4
          have z0 := cell_blk h4 (i := 0) rfl
          have z1 := cell_blk h4 (i := 1) rfl
          have z2 := cell_blk h4 (i := 2) rfl
          have z3 := cell_blk h4 (i := 3) rfl
          have z4 := cell_blk h4 (i := 4) rfl
          have z5 := cell_blk h4 (i := 5) rfl
          have z6 := cell_blk h4 (i := 6) rfl
          have z7 := cell_blk h4 (i := 7) rfl
          clear h4
          go_wp2
          have hx := box8 (.int .i64 (c.n 0)) (.int .i64 (c.n 1)) (.int .i64 (c.n 2)) (.int .i64 (c.n 3)) (.int .i64 (c.n 4)) (.slice A5 nq q5) (.slice A6 c.l.length q6) (.slice (some ⟨g7, 0, none⟩) nb q7) H4b.out
          have r0 := cell_blk hx (i := 0) rfl
          have r1 := cell_blk hx (i := 1) rfl
          have r2 := cell_blk hx (i := 2) rfl
          have r3 := cell_blk hx (i := 3) rfl
          have r4 := cell_blk hx (i := 4) rfl
          have r5 := cell_blk hx (i := 5) rfl
          have r6 := cell_blk hx (i := 6) rfl
          have r7 := cell_blk hx (i := 7) rfl
          refine bodyPost_ret (v := .agg #[.int .i64 (c.n 0), .int .i64 (c.n 1), .int .i64 (c.n 2), .int .i64 (c.n 3), .int .i64 (c.n 4), .slice A5 nq q5, .slice A6 c.l.length q6, .slice (some ⟨g7, 0, none⟩) nb q7]) (by simp [results, Tryz.results13, go_sem, r0, r1, r2, r3, r4, r5, r6, r7]) rfl ?_
          have hlen : (es1 ++ (e0.1, e0.2.1, t') :: es2).length = nb := by
            have h := HES.out.2
            rw [List.length_append, List.length_cons] at h ⊢
            exact h
          have hg : c.b.getD b noB = e0.2 := by
            rw [← HES.out.1, ← HSL.out, List.getD_eq_getElem?_getD]
            simp
          have hm2 : (es1 ++ (e0.1, e0.2.1, t') :: es2).map (·.2) = (chC c b 12 y).b := by
            rw [set_mid es1 es2 e0, HES.out.1, HSL.out]
            show c.b.set b (e0.2.1, t') = c.b.set b ((c.b.getD b noB).1, chT 12 y (c.b.getD b noB).2)
            rw [hg, HT.out, HT'.out]
          obtain ⟨ad, e5, e6, e7, hk⟩ := (HL3.out.rows.k36 (k36_store H4b.out (.int .i64 (c.n 0)) (.int .i64 (c.n 1)) (.int .i64 (c.n 2)) (.int .i64 (c.n 3)) (.int .i64 (c.n 4)) (.slice A5 nq q5) (.slice A6 c.l.length q6) (.slice (some ⟨g7, 0, none⟩) nb q7))).cdk c.n HQS.out (fun e he => by
            rcases List.mem_append.1 he with he | he
            · exact HIL.out e.2 (by rw [← HES.out.1]; exact List.mem_map.2 ⟨e, List.mem_append.2 (.inl he), rfl⟩)
            · rcases List.mem_cons.1 he with rfl | he
              · exact HIL.out e0.2 (by rw [← HES.out.1]; exact List.mem_map.2 ⟨e0, List.mem_append.2 (.inr List.mem_cons_self), rfl⟩)
              · exact HIL.out e.2 (by rw [← HES.out.1]; exact List.mem_map.2 ⟨e, List.mem_append.2 (.inr (List.mem_cons_of_mem _ he)), rfl⟩))
          have hc : (⟨c.q, c.l, (es1 ++ (e0.1, e0.2.1, t') :: es2).map (·.2), c.n⟩ : CdV) = C' := by
            rw [hm2]
            exact HCC.out
          rw [hc] at hk
          have hbl : C'.b.length = (es1 ++ (e0.1, e0.2.1, t') :: es2).length := by rw [← hc]; exact List.length_map ..
          have hle : w.heap.size ≤ w.heap.size + 1 + 1 := by omega
          refine ⟨ad, ?_, hk, ((((((((HL3.out.below.setCell hle _).setCell hle _).setCell hle _).setCell hle _).setCell hle _).setCell hle _).setCell hle _).setCell hle _)⟩
          rw [hbl, ← e7, ← hc]
          show Ending.returned (.agg #[.int .i64 (c.n 0), .int .i64 (c.n 1), .int .i64 (c.n 2), .int .i64 (c.n 3), .int .i64 (c.n 4), .slice A5 nq q5, .slice A6 c.l.length q6, .slice (some ⟨g7, 0, none⟩) nb q7]) = Ending.returned (.agg #[.int .i64 (c.n 0), .int .i64 (c.n 1), .int .i64 (c.n 2), .int .i64 (c.n 3), .int .i64 (c.n 4), .slice ad.a1 c.q.length ad.c1, .slice ad.a2 c.l.length ad.c2, .slice (some ⟨g7, 0, none⟩) nb q7])
          rw [← e5, ← e6]
        exact AllReadyH.nil
      exact AllReadyH.nil
    exact AllReadyH.nil
  · go_upto_region 36 with (fail)
    have HCELL := fun j hj => HL1.out.tcells HES.out.2 j hj
    rw [HSL.out, HT.out] at HCELL
    have x0 := HCELL 0 (by decide)
    have x1 := HCELL 1 (by decide)
    have x2 := HCELL 2 (by decide)
    have x3 := HCELL 3 (by decide)
    have x4 := HCELL 4 (by decide)
    have x5 := HCELL 5 (by decide)
    have x6 := HCELL 6 (by decide)
    have x7 := HCELL 7 (by decide)
    have x8 := HCELL 8 (by decide)
    have x9 := HCELL 9 (by decide)
    have x10 := HCELL 10 (by decide)
    have x11 := HCELL 11 (by decide)
    have x12 := HCELL 12 (by decide)
    simp only [TermV.cells, List.getElem?_cons_succ, List.getElem?_cons_zero, Nat.zero_add] at x0 x1 x2 x3 x4 x5 x6 x7 x8 x9 x10 x11 x12
    have HTS := Lib.hid (show ∀ V, Below W1.heap.size W1 V → (fun w' => w'.cell? ⟨w.heap.size, 7, none⟩ = some (.slice (some ⟨g7, 0, none⟩) nb q7) ∧ w'.cell? ⟨w.heap.size + 1, 0, none⟩ = some (.int .u8 92) ∧ w'.cell? ⟨w.heap.size + 1, 1, none⟩ = some (.int .u8 a0) ∧ w'.cell? ⟨w.heap.size + 1, 2, none⟩ = some (.int .u8 a1) ∧ w'.cell? ⟨w.heap.size + 1, 3, none⟩ = some (.int .i64 y) ∧ w'.cell? ⟨w.heap.size + 1, 4, none⟩ = some (.string nm) ∧ w'.cell? ⟨w.heap.size + 1, 5, none⟩ = some (.int .i64 ok) ∧ w'.cell? ⟨w.heap.size + 1, 6, none⟩ = some (.int .i64 on) ∧ w'.cell? ⟨w.heap.size + 1, 7, none⟩ = some (.int .i32 ov)) V from fun V hV => by
      have q := (hV.block _ (Array.getElem?_eq_some_iff.1 H3.out).1).trans H3.out
      exact ⟨(HL1.out.on hV).c7, cell_blk q (i := 0) rfl, cell_blk q (i := 1) rfl, cell_blk q (i := 2) rfl, cell_blk q (i := 3) rfl, cell_blk q (i := 4) rfl, cell_blk q (i := 5) rfl, cell_blk q (i := 6) rfl, cell_blk q (i := 7) rfl⟩)
    obtain ⟨t', ht'⟩ : ∃ t', chT 92 y t = t' := ⟨_, rfl⟩
    replace HHT := Lib.hid (fun W => HHT.out W t)
    have HT' := Lib.hid ht'
    have HGN := Lib.hid (show ∀ k, k < n0 → k ≠ g7 from fun k hk e => by
      have hr := HL1.out.rows.blocks
      rw [HES.out.2] at hr
      have h1 := (hr.lt g7 rfl).1
      omega)
    have HN0 := Lib.hid (show w.heap.size + 1 + 1 < n0 from HN0X.out)
    have H4Z := Lib.hid (HGN.out _ HN0.out)
    have HTHR := Lib.hid (show ∀ V, Below W1.heap.size W1 V → V.there g7 (b * 14 + 1) 13 from fun V hV j hj => by
      have hr := (HL1.out.on hV).rows.blocks
      rw [HES.out.2] at hr
      have hlt2 : b * 14 + 1 + j < (flatB (es1 ++ e0 :: es2)).length := by rw [flatB_len, HES.out.2]; omega
      exact ⟨by rw [hr.cellAt _ (by omega), List.getElem?_eq_getElem hlt2]; rfl, hr.frozenAt _⟩)
    have HKPR := Lib.hid (show ∀ V, Below W1.heap.size W1 V → (fun w' => w'.cell? ⟨w.heap.size, 7, none⟩ = some (.slice (some ⟨g7, 0, none⟩) nb q7) ∧ w'.cell? ⟨w.heap.size + 1, 0, none⟩ = some (.int .u8 92) ∧ w'.cell? ⟨w.heap.size + 1, 1, none⟩ = some (.int .u8 a0) ∧ w'.cell? ⟨w.heap.size + 1, 2, none⟩ = some (.int .u8 a1) ∧ w'.cell? ⟨w.heap.size + 1, 3, none⟩ = some (.int .i64 y) ∧ w'.cell? ⟨w.heap.size + 1, 4, none⟩ = some (.string nm) ∧ w'.cell? ⟨w.heap.size + 1, 5, none⟩ = some (.int .i64 ok) ∧ w'.cell? ⟨w.heap.size + 1, 6, none⟩ = some (.int .i64 on) ∧ w'.cell? ⟨w.heap.size + 1, 7, none⟩ = some (.int .i32 ov)) (V.setCells g7 (b * 14 + 1) (trmA t').toList) from fun V hV => by
      have key : ∀ x : Addr, x.block ≠ g7 → (V.setCells g7 (b * 14 + 1) (trmA t').toList).cell? x = V.cell? x := fun x hx => World.cell?_setCells_out g7 _ _ _ x (fun e => absurd e hx)
      have h1 := HGN.out w.heap.size (by have := HN0.out; omega)
      have h2 := HGN.out (w.heap.size + 1) (by have := HN0.out; omega)
      obtain ⟨s0, s1, s2, s3, s4, s5, s6, s7, s8⟩ := HTS.out V hV
      exact ⟨(key _ h1).trans s0, (key _ h2).trans s1, (key _ h2).trans s2, (key _ h2).trans s3, (key _ h2).trans s4, (key _ h2).trans s5, (key _ h2).trans s6, (key _ h2).trans s7, (key _ h2).trans s8⟩)
    rw [ht'] at HHT
    clear ht' HCELL
    have HBc := Lib.hid (show Below W1.heap.size W1 W1.drew from below_drewS (Below.refl _ W1))
    refine wp_region_held_drew (S := (fun w' => w'.cell? ⟨w.heap.size, 7, none⟩ = some (.slice (some ⟨g7, 0, none⟩) nb q7) ∧ w'.cell? ⟨w.heap.size + 1, 0, none⟩ = some (.int .u8 92) ∧ w'.cell? ⟨w.heap.size + 1, 1, none⟩ = some (.int .u8 a0) ∧ w'.cell? ⟨w.heap.size + 1, 2, none⟩ = some (.int .u8 a1) ∧ w'.cell? ⟨w.heap.size + 1, 3, none⟩ = some (.int .i64 y) ∧ w'.cell? ⟨w.heap.size + 1, 4, none⟩ = some (.string nm) ∧ w'.cell? ⟨w.heap.size + 1, 5, none⟩ = some (.int .i64 ok) ∧ w'.cell? ⟨w.heap.size + 1, 6, none⟩ = some (.int .i64 on) ∧ w'.cell? ⟨w.heap.size + 1, 7, none⟩ = some (.int .i32 ov))) (by kernel_rfl) ?_ (fun hHeld => ?_)
    · (try dsimp only); exact HTS.out _ HBc.out
    refine tk 0 ⟨some 179, .fieldAddr 36 (.tmp 2) 7, 0, "law.go:123", #[], none⟩ (v := ?_) ?_ (by assumption) ?_
    rotate_left
    · (intro w hSw; (try dsimp only at hSw); go_simp; (try with_reducible rfl))
    try simp only [pe]
    refine tk 1 ⟨some 180, .load 34 (.tmp 179), 34, "law.go:123", #[⟨0, .data⟩], none⟩ (v := ?_) ?_ (by assumption) ?_
    rotate_left
    · (intro w hSw; (try dsimp only at hSw); go_simp; (try with_reducible rfl))
    try simp only [pe]
    refine tk 2 ⟨some 181, .move (.tmp 5), 3, "law.go:123", #[], none⟩ (v := ?_) ?_ (by assumption) ?_
    rotate_left
    · (intro w hSw; (try dsimp only at hSw); go_simp; (try with_reducible rfl))
    try simp only [pe]
    refine tk 3 ⟨some 182, .fieldAddr 36 (.tmp 2) 7, 0, "law.go:123", #[], none⟩ (v := ?_) ?_ (by assumption) ?_
    rotate_left
    · (intro w hSw; (try dsimp only at hSw); go_simp; (try with_reducible rfl))
    try simp only [pe]
    refine tk 4 ⟨some 183, .load 34 (.tmp 182), 34, "law.go:123", #[⟨3, .data⟩], none⟩ (v := ?_) ?_ (by assumption) ?_
    rotate_left
    · (intro w hSw; (try dsimp only at hSw); go_simp; (try with_reducible rfl))
    try simp only [pe]
    refine tk 5 ⟨some 184, .move (.tmp 5), 3, "law.go:123", #[], none⟩ (v := ?_) ?_ (by assumption) ?_
    rotate_left
    · (intro w hSw; (try dsimp only at hSw); go_simp; (try with_reducible rfl))
    try simp only [pe]
    refine tk 6 ⟨some 185, .indexAddr 34 (.tmp 183) (.tmp 184), 0, "law.go:123", #[⟨4, .data⟩, ⟨5, .data⟩], none⟩ (v := ?_) ?_ (by assumption) ?_
    rotate_left
    · (intro w hSw; (try dsimp only at hSw); go_simp; (try with_reducible rfl))
    try simp only [pe]
    refine tk 7 ⟨some 186, .fieldAddr 55 (.tmp 185) 1, 0, "law.go:123", #[⟨6, .data⟩], none⟩ (v := ?_) ?_ (by assumption) ?_
    rotate_left
    · (intro w hSw; (try dsimp only at hSw); go_simp; (try with_reducible rfl))
    try simp only [pe]
    refine tk 9 ⟨some 188, .load 29 (.tmp 3), 29, "law.go:123", #[], none⟩ (v := ?_) ?_ (by assumption) ?_
    rotate_left
    · (intro w hSw; (try dsimp only at hSw); go_simp; (try with_reducible rfl))
    try simp only [pe]
    refine wpAnyH_ready (rs := [8]) (by kernel_rfl) (by simp) ?_
    refine AllReadyH.cons (o := ⟨some 187, .load 53 (.tmp 186), 53, "law.go:123", #[⟨7, .data⟩], none⟩) rfl (fun K hK => ?_) ?_
    · go_simp
      refine hK.out _ _ ?_ (fun hHeld => ?_)
      · (try dsimp only); exact HTS.out _ HBc.out
      clear hK K
      try simp only [pe]
      refine wpAnyH_ready (rs := [10]) (by kernel_rfl) (by simp) ?_
      refine AllReadyH.cons (o := ⟨some 189, .call { callee := .value (.func 44), args := #[.tmp 187, .tmp 188], argTypes := #[53, 29] }, 53, "law.go:123", #[⟨8, .data⟩, ⟨9, .data⟩], none⟩) rfl (fun K hK => ?_) ?_
      · (go_simp; go_at_call 44; refine (HHT.out _).mono ?_; rintro e wv ⟨rfl, hbx⟩; have HBc2 := Lib.hid (HBc.out.trans (hbx.mono HBc.out.size)); clear hbx; have HL2 := Lib.hid (HL1.out.on HBc2.out); have HTH := Lib.hid (show wv.there g7 (b * 14 + 1) 13 from HTHR.out _ HBc2.out); have HKP := Lib.hid (HKPR.out _ HBc2.out); try go_wp2_with fail)
        refine hK.out _ _ ?_ (fun hHeld => ?_)
        · (try dsimp only); exact HTS.out _ HBc2.out
        clear hK K
        try simp only [pe]
        refine tk 11 ⟨some 190, .indexAddr 34 (.tmp 180) (.tmp 181), 0, "law.go:123", #[⟨1, .data⟩, ⟨2, .data⟩, ⟨0, .phase⟩, ⟨1, .phase⟩, ⟨2, .phase⟩, ⟨3, .phase⟩, ⟨4, .phase⟩, ⟨5, .phase⟩, ⟨6, .phase⟩, ⟨7, .phase⟩, ⟨8, .phase⟩, ⟨9, .phase⟩, ⟨10, .phase⟩], none⟩ (v := ?_) ?_ (by assumption) ?_
        rotate_left
        · (intro w hSw; (try dsimp only at hSw); go_simp; (try with_reducible rfl))
        try simp only [pe]
        refine tk 12 ⟨some 191, .fieldAddr 55 (.tmp 190) 1, 0, "law.go:123", #[⟨11, .data⟩, ⟨0, .phase⟩, ⟨1, .phase⟩, ⟨2, .phase⟩, ⟨3, .phase⟩, ⟨4, .phase⟩, ⟨5, .phase⟩, ⟨6, .phase⟩, ⟨7, .phase⟩, ⟨8, .phase⟩, ⟨9, .phase⟩, ⟨10, .phase⟩], none⟩ (v := ?_) ?_ (by assumption) ?_
        rotate_left
        · (intro w hSw; (try dsimp only at hSw); go_simp; (try with_reducible rfl))
        try simp only [pe]
        refine wpAnyH_ready (rs := [13]) (by kernel_rfl) (by simp) ?_
        refine AllReadyH.cons (o := ⟨none, .store 53 (.tmp 191) (.tmp 189), 0, "law.go:123", #[⟨12, .data⟩, ⟨10, .data⟩, ⟨10, .chain⟩, ⟨0, .phase⟩, ⟨1, .phase⟩, ⟨2, .phase⟩, ⟨3, .phase⟩, ⟨4, .phase⟩, ⟨5, .phase⟩, ⟨6, .phase⟩, ⟨7, .phase⟩, ⟨8, .phase⟩, ⟨9, .phase⟩, ⟨10, .phase⟩], none⟩) rfl (fun K hK => ?_) ?_
        · (refine step_store_mid rfl 53 (.tmp 191) (.tmp 189) rfl g7 (b * 14 + 1) (trmA t') (by kernel_rfl) (by kernel_rfl) (fun j hj => HTH.out j hj) (by kernel_rfl) (trmA_one _) ?_)
          refine hK.out _ _ ?_ (fun hHeld => ?_)
          · (try dsimp only); exact HKP.out
          clear hK K
          try simp only [pe]
          refine wpAnyH_done (by kernel_rfl) ?_ _
          clear hHeld HKP HTH
          have HL3 := Lib.hid (show LX w w.heap.size n0 (c.n 0) (c.n 1) (c.n 2) (c.n 3) (c.n 4) (.slice A5 nq q5) (.slice A6 c.l.length q6) (.slice (some ⟨g7, 0, none⟩) nb q7) c.q c.l (es1 ++ (e0.1, e0.2.1, t') :: es2) (wv.setCells g7 (b * 14 + 1) (trmA t').toList) from by
            have h := HL2.out.storeT t' HES.out.2
            rw [HSL.out] at h
            exact h)
          have hz4 := H4Z.out
          have h4 := (HBc2.out.block _ (Array.getElem?_eq_some_iff.1 H4.out).1).trans H4.out
          have H4b := Lib.hid (show (wv.setCells g7 (b * 14 + 1) (trmA t').toList).heap[w.heap.size + 1 + 1]? = some (.cells #[.int .i64 0, .int .i64 0, .int .i64 0, .int .i64 0, .int .i64 0, .slice none 0 0, .slice none 0 0, .slice none 0 0] 36 (0, 0)) from (World.heap_setCells_other wv g7 _ _ (Array.getElem?_eq_some_iff.1 h4).1 hz4).trans h4)
          clear h4 hz4
          generalize (wv.setCells g7 (b * 14 + 1) (trmA t').toList) = W5 at *
          have d0 := HL3.out.c0
          have d1 := HL3.out.c1
          have d2 := HL3.out.c2
          have d3 := HL3.out.c3
          have d4 := HL3.out.c4
          have d5 := HL3.out.c5
          have d6 := HL3.out.c6
          have d7 := HL3.out.c7
          have h4 := H4b.out
          have rf4 := fun o => frozen_of_row _ _ o _ _ h4
          have z0 := cell_blk h4 (i := 0) rfl
          have z1 := cell_blk h4 (i := 1) rfl
          have z2 := cell_blk h4 (i := 2) rfl
          have z3 := cell_blk h4 (i := 3) rfl
          have z4 := cell_blk h4 (i := 4) rfl
          have z5 := cell_blk h4 (i := 5) rfl
          have z6 := cell_blk h4 (i := 6) rfl
          have z7 := cell_blk h4 (i := 7) rfl
          clear h4
          go_wp2
          have hx := box8 (.int .i64 (c.n 0)) (.int .i64 (c.n 1)) (.int .i64 (c.n 2)) (.int .i64 (c.n 3)) (.int .i64 (c.n 4)) (.slice A5 nq q5) (.slice A6 c.l.length q6) (.slice (some ⟨g7, 0, none⟩) nb q7) H4b.out
          have r0 := cell_blk hx (i := 0) rfl
          have r1 := cell_blk hx (i := 1) rfl
          have r2 := cell_blk hx (i := 2) rfl
          have r3 := cell_blk hx (i := 3) rfl
          have r4 := cell_blk hx (i := 4) rfl
          have r5 := cell_blk hx (i := 5) rfl
          have r6 := cell_blk hx (i := 6) rfl
          have r7 := cell_blk hx (i := 7) rfl
          refine bodyPost_ret (v := .agg #[.int .i64 (c.n 0), .int .i64 (c.n 1), .int .i64 (c.n 2), .int .i64 (c.n 3), .int .i64 (c.n 4), .slice A5 nq q5, .slice A6 c.l.length q6, .slice (some ⟨g7, 0, none⟩) nb q7]) (by simp [results, Tryz.results13, go_sem, r0, r1, r2, r3, r4, r5, r6, r7]) rfl ?_
          have hlen : (es1 ++ (e0.1, e0.2.1, t') :: es2).length = nb := by
            have h := HES.out.2
            rw [List.length_append, List.length_cons] at h ⊢
            exact h
          have hg : c.b.getD b noB = e0.2 := by
            rw [← HES.out.1, ← HSL.out, List.getD_eq_getElem?_getD]
            simp
          have hm2 : (es1 ++ (e0.1, e0.2.1, t') :: es2).map (·.2) = (chC c b 92 y).b := by
            rw [set_mid es1 es2 e0, HES.out.1, HSL.out]
            show c.b.set b (e0.2.1, t') = c.b.set b ((c.b.getD b noB).1, chT 92 y (c.b.getD b noB).2)
            rw [hg, HT.out, HT'.out]
          obtain ⟨ad, e5, e6, e7, hk⟩ := (HL3.out.rows.k36 (k36_store H4b.out (.int .i64 (c.n 0)) (.int .i64 (c.n 1)) (.int .i64 (c.n 2)) (.int .i64 (c.n 3)) (.int .i64 (c.n 4)) (.slice A5 nq q5) (.slice A6 c.l.length q6) (.slice (some ⟨g7, 0, none⟩) nb q7))).cdk c.n HQS.out (fun e he => by
            rcases List.mem_append.1 he with he | he
            · exact HIL.out e.2 (by rw [← HES.out.1]; exact List.mem_map.2 ⟨e, List.mem_append.2 (.inl he), rfl⟩)
            · rcases List.mem_cons.1 he with rfl | he
              · exact HIL.out e0.2 (by rw [← HES.out.1]; exact List.mem_map.2 ⟨e0, List.mem_append.2 (.inr List.mem_cons_self), rfl⟩)
              · exact HIL.out e.2 (by rw [← HES.out.1]; exact List.mem_map.2 ⟨e, List.mem_append.2 (.inr (List.mem_cons_of_mem _ he)), rfl⟩))
          have hc : (⟨c.q, c.l, (es1 ++ (e0.1, e0.2.1, t') :: es2).map (·.2), c.n⟩ : CdV) = C' := by
            rw [hm2]
            exact HCC.out
          rw [hc] at hk
          have hbl : C'.b.length = (es1 ++ (e0.1, e0.2.1, t') :: es2).length := by rw [← hc]; exact List.length_map ..
          have hle : w.heap.size ≤ w.heap.size + 1 + 1 := by omega
          refine ⟨ad, ?_, hk, ((((((((HL3.out.below.setCell hle _).setCell hle _).setCell hle _).setCell hle _).setCell hle _).setCell hle _).setCell hle _).setCell hle _)⟩
          rw [hbl, ← e7, ← hc]
          show Ending.returned (.agg #[.int .i64 (c.n 0), .int .i64 (c.n 1), .int .i64 (c.n 2), .int .i64 (c.n 3), .int .i64 (c.n 4), .slice A5 nq q5, .slice A6 c.l.length q6, .slice (some ⟨g7, 0, none⟩) nb q7]) = Ending.returned (.agg #[.int .i64 (c.n 0), .int .i64 (c.n 1), .int .i64 (c.n 2), .int .i64 (c.n 3), .int .i64 (c.n 4), .slice ad.a1 c.q.length ad.c1, .slice ad.a2 c.l.length ad.c2, .slice (some ⟨g7, 0, none⟩) nb q7])
          rw [← e5, ← e6]
        exact AllReadyH.nil
      exact AllReadyH.nil
    exact AllReadyH.nil
end Go.Proofs.YtkncilgmlkeifaaGreatDoor
