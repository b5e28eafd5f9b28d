import Derived.Test.YtkncilgmlkeifaaGreatDoorTkp
import Derived.Test.YtkncilgmlkeifaaGreatDoorGrd
import Derived.Test.YtkncilgmlkeifaaGreatDoorExw
import Derived.Deep.Upon
/-
  CodeReaches: which blocks are reached (plain facts): the search marks just what can be reached; the rounds of the law.
-/
set_option linter.unusedVariables false
set_option linter.unusedSimpArgs false
namespace Go.Proofs.YtkncilgmlkeifaaGreatDoor
def Edge (n : Nat) (T : Nat -> TermV) (b x : Nat) : Prop := b < n /\ x < n /\ (x : Int) ∈ succL (T b)
def Within (n : Nat) (T : Nat -> TermV) : Nat -> Nat -> Prop
 | 0, x => x = 0
 | k + 1, x => Within n T k x \/ ∃ b, Within n T k b /\ Edge n T b x
theorem within_mono {n : Nat} {T : Nat -> TermV} {k m x : Nat} (h : Within n T k x) (hk : k <= m) : Within n T m x := by
 induction hk with
 | refl => exact h
 | step _ ih => exact .inl ih
theorem reachF_spec {n : Nat} {T : Nat -> TermV} (h0 : 0 < n) (ht : ∀ j, j < n -> ∀ x, x ∈ succL (T j) -> 0 <= x /\ x < n) :
 ∀ (f : Nat) (R : Nat -> Bool) (td : List Int), td.length + 3 * cu R n <= f ->
  (∀ x, x ∈ td -> 0 <= x /\ x < n) -> (∀ x, R x = true -> x < n /\ ∃ k, Within n T k x) -> (∀ x, x ∈ td -> ∃ k, Within n T k x.toNat) ->
  (∀ b x, R b = true -> Edge n T b x -> R x = true \/ (x : Int) ∈ td) ->
  (∀ x, reachF n T f R td x = true -> x < n /\ ∃ k, Within n T k x) /\ (∀ b x, reachF n T f R td b = true -> Edge n T b x -> reachF n T f R td x = true) /\ (∀ x, R x = true -> reachF n T f R td x = true) /\ (∀ x, x ∈ td -> reachF n T f R td x.toNat = true)
 | 0, R, td, hm, hx, hR, hT, hE => by
  have : td = [] := List.eq_nil_of_length_eq_zero (by omega)
  subst this
  rw [reachF_nil]
  exact ⟨hR, fun b x hb he => (hE b x hb he).resolve_right (by simp), fun x hx => hx, fun x hx => by simp at hx⟩
 | f + 1, R, td, hm, hx, hR, hT, hE => by
  rcases List.eq_nil_or_concat td with rfl | ⟨t0, b, rfl⟩
  . rw [reachF_nil]
    exact ⟨hR, fun b x hb he => (hE b x hb he).resolve_right (by simp), fun x hx => hx, fun x hx => by simp at hx⟩
  . have hb := hx b (by simp)
    have hq : ∀ x, x ∈ t0 -> 0 <= x /\ x < n := fun x hx' => hx x (by simp [hx'])
    simp only [List.concat_eq_append, List.length_append, List.length_cons, List.length_nil] at hm hT hE hx ⊢
    have w1 : wthB b 0 ((n : Int) - 1) = true := by unfold wthB; simp only [Bool.and_eq_true, decide_eq_true_eq]; omega
    have hbn : b.toNat < n := by omega
    cases hRb : R b.toNat with
    | true =>
     rw [reachF_no _ _ _ _ _ _ (by rw [hRb, Bool.not_true, Bool.and_false])]
     have H := reachF_spec h0 ht f R t0 (by omega) hq hR (fun x hx => hT x (by simp [hx])) (fun b' x hb' he => by
      rcases hE b' x hb' he with h | h
      . exact .inl h
      . rcases List.mem_append.1 h with h | h
        . exact .inr h
        . rw [List.mem_singleton] at h
          left
          have : x = b.toNat := by omega
          rw [this]
          exact hRb)
     refine ⟨H.1, H.2.1, H.2.2.1, fun x hx => ?_⟩
     rcases List.mem_append.1 hx with hx | hx
     . exact H.2.2.2 x hx
     . rw [List.mem_singleton] at hx
       rw [hx]
       exact H.2.2.1 _ hRb
    | false =>
     rw [reachF_yes _ _ _ _ _ _ (by rw [hRb, w1]; rfl)]
     have hc := cu_set R b.toNat hRb n hbn
     have hl := succL_len (T b.toNat)
     obtain ⟨kb, hkb⟩ := hT b (by simp)
     have H := reachF_spec h0 ht f (setR R b.toNat) (t0 ++ succL (T b.toNat)) (by rw [List.length_append]; omega) (fun x hx' => by
      rcases List.mem_append.1 hx' with hx' | hx'
      . exact hq x hx'
      . exact ht _ hbn x hx') (fun x hx' => by
      unfold setR at hx'
      by_cases e : x = b.toNat
      . rw [e]
        exact ⟨hbn, kb, hkb⟩
      . rw [if_neg e] at hx'
        exact hR x hx') (fun x hx' => by
      rcases List.mem_append.1 hx' with hx' | hx'
      . exact hT x (by simp [hx'])
      . have := ht _ hbn x hx'
        exact ⟨kb + 1, .inr ⟨b.toNat, hkb, hbn, by omega, by rw [Int.toNat_of_nonneg this.1]; exact hx'⟩⟩) (fun b' x hb' he => by
      unfold setR at hb'
      by_cases e : b' = b.toNat
      . right
        rw [e] at he
        exact List.mem_append.2 (.inr he.2.2)
      . rw [if_neg e] at hb'
        rcases hE b' x hb' he with h | h
        . left
          unfold setR
          by_cases e2 : x = b.toNat
          . rw [if_pos e2]
          . rw [if_neg e2]
            exact h
        . rcases List.mem_append.1 h with h | h
          . exact .inr (List.mem_append.2 (.inl h))
          . rw [List.mem_singleton] at h
            left
            unfold setR
            rw [if_pos (by omega)])
     have hset : ∀ x, R x = true -> setR R b.toNat x = true := fun x hx => by
      unfold setR
      by_cases e : x = b.toNat
      . rw [if_pos e]
      . rw [if_neg e]
        exact hx
     refine ⟨H.1, H.2.1, fun x hx => H.2.2.1 x (hset x hx), fun x hx => ?_⟩
     rcases List.mem_append.1 hx with hx | hx
     . exact H.2.2.2 x (List.mem_append.2 (.inl hx))
     . rw [List.mem_singleton] at hx
       rw [hx]
       exact H.2.2.1 _ (by unfold setR; rw [if_pos rfl])
theorem reachV_spec {n : Nat} {T : Nat -> TermV} (h0 : 0 < n) (ht : ∀ j, j < n -> ∀ x, x ∈ succL (T j) -> 0 <= x /\ x < n) :
 reachV n T 0 = true /\ (∀ b x, reachV n T b = true -> Edge n T b x -> reachV n T x = true) /\ (∀ x, reachV n T x = true -> x < n /\ ∃ k, Within n T k x) := by
 have hz : cu (fun _ => false) n <= n := cu_le _ _
 obtain ⟨h1, h2, h3, h4⟩ := reachF_spec h0 ht (3 * n + 1) (fun _ => false) [0] (by simp; omega) (fun x hx => by rw [List.mem_singleton] at hx; omega) (fun x hx => by cases hx) (fun x hx => by
  rw [List.mem_singleton] at hx
  subst hx
  exact ⟨0, rfl⟩) (fun b x hb => by cases hb)
 exact ⟨h4 0 (by simp), h2, h1⟩
theorem within_reach {n : Nat} {T : Nat -> TermV} (h0 : 0 < n) (ht : ∀ j, j < n -> ∀ x, x ∈ succL (T j) -> 0 <= x /\ x < n) : ∀ (k x : Nat), Within n T k x -> reachV n T x = true
 | 0, x, h => by
  have : x = 0 := h
  rw [this]
  exact (reachV_spec h0 ht).1
 | k + 1, x, h => by
  rcases h with h | ⟨b, h, he⟩
  . exact within_reach h0 ht k x h
  . exact (reachV_spec h0 ht).2.1 b x (within_reach h0 ht k b h) he
open Classical in
noncomputable def cntP (P : Nat -> Prop) : Nat -> Nat
 | 0 => 0
 | n + 1 => cntP P n + if P n then 1 else 0
theorem cntP_le (P : Nat -> Prop) : ∀ n, cntP P n <= n
 | 0 => Nat.le_refl _
 | n + 1 => by have := cntP_le P n; unfold cntP; split <;> omega
theorem cntP_mono {P Q : Nat -> Prop} (h : ∀ x, P x -> Q x) : ∀ n, cntP P n <= cntP Q n
 | 0 => Nat.le_refl _
 | n + 1 => by
  have := cntP_mono h n
  unfold cntP
  by_cases hp : P n
  . rw [if_pos hp, if_pos (h n hp)]
    omega
  . rw [if_neg hp]
    split <;> omega
theorem cntP_lt {P Q : Nat -> Prop} (h : ∀ x, P x -> Q x) {y : Nat} (hq : Q y) (hp : ¬ P y) : ∀ n, y < n -> cntP P n < cntP Q n
 | n + 1, hy => by
  unfold cntP
  by_cases e : y = n
  . subst e
    have := cntP_mono h y
    rw [if_neg hp, if_pos hq]
    omega
  . have := cntP_lt h hq hp n (by omega)
    by_cases hp' : P n
    . rw [if_pos hp', if_pos (h n hp')]
      omega
    . rw [if_neg hp']
      split <;> omega
theorem within_lt {n : Nat} {T : Nat -> TermV} (h0 : 0 < n) : ∀ (k x : Nat), Within n T k x -> x < n
 | 0, x, h => by
  have : x = 0 := h
  omega
 | k + 1, x, h => by
  rcases h with h | ⟨b, _, he⟩
  . exact within_lt h0 k x h
  . exact he.2.1
theorem within_stop {n : Nat} {T : Nat -> TermV} {k : Nat} (h : ∀ x, Within n T (k + 1) x -> Within n T k x) : ∀ (m x : Nat), Within n T m x -> Within n T (max m k) x -> Within n T k x
 | 0, x, hm, _ => within_mono hm (Nat.zero_le _)
 | m + 1, x, hm, _ => by
  rcases hm with hm | ⟨b, hb, he⟩
  . exact within_stop h m x hm (within_mono hm (Nat.le_max_left _ _))
  . exact h x (.inr ⟨b, within_stop h m b hb (within_mono hb (Nat.le_max_left _ _)), he⟩)
theorem within_all {n : Nat} {T : Nat -> TermV} (h0 : 0 < n) {k x : Nat} (h : Within n T k x) : Within n T n x := by
 have key : ∀ j, (∃ i, i < j /\ ∀ x, Within n T (i + 1) x -> Within n T i x) \/ j + 1 <= cntP (Within n T j) n := by
  intro j
  induction j with
  | zero =>
   right
   have := cntP_lt (P := fun _ => False) (Q := Within n T 0) (fun x hx => hx.elim) (y := 0) rfl (fun hx => hx) n h0
   omega
  | succ j ih =>
   rcases ih with ⟨i, hi, h⟩ | ih
   . exact .inl ⟨i, by omega, h⟩
   . by_cases hs : ∀ x, Within n T (j + 1) x -> Within n T j x
     . exact .inl ⟨j, by omega, hs⟩
     . right
       obtain ⟨y, hy⟩ := Classical.not_forall.1 hs
       obtain ⟨h1, h2⟩ := Classical.not_imp.1 hy
       have := cntP_lt (P := Within n T j) (Q := Within n T (j + 1)) (fun x hx => .inl hx) h1 h2 n (within_lt h0 _ _ h1)
       omega
 rcases key n with ⟨i, hi, hs⟩ | hc
 . exact within_mono (within_stop hs k x h (within_mono h (Nat.le_max_left _ _))) (Nat.le_of_lt hi)
 . have := cntP_le (Within n T n) n
   omega
structure StI (n : Nat) (T : Nat -> TermV) (m b : Nat) (s : Nat -> Nat) : Prop where
 zero : s 0 = 0
 some : ∀ x, s x ≠ 0 -> (s x < m /\ Within n T (m - 1) x) \/ (s x = m /\ Within n T m x)
 old : ∀ x, Within n T (m - 1) x -> x = 0 \/ (s x ≠ 0 /\ s x < m)
 done : ∀ b', b' < b -> Within n T (m - 1) b' -> ∀ x, Edge n T b' x -> x = 0 \/ s x ≠ 0
theorem StI.first (n : Nat) (T : Nat -> TermV) : StI n T 1 0 (fun _ => 0) :=
 ⟨rfl, fun x hx => absurd rfl hx, fun x hx => .inl hx, fun b' hb => absurd hb (Nat.not_lt_zero _)⟩
theorem StI.next {n : Nat} {T : Nat -> TermV} {m : Nat} {s : Nat -> Nat} (hm : 1 <= m) (h : StI n T m n s) : StI n T (m + 1) 0 s := by
 obtain ⟨k, rfl⟩ : ∃ k, m = k + 1 := ⟨m - 1, by omega⟩
 refine ⟨h.zero, fun x hx => .inl ?_, fun x hx => ?_, fun b' hb => absurd hb (Nat.not_lt_zero _)⟩
 . rcases h.some x hx with ⟨h1, h2⟩ | ⟨h1, h2⟩
   . exact ⟨by omega, within_mono h2 (by omega)⟩
   . exact ⟨by omega, h2⟩
 . have hx' : Within n T (k + 1) x := hx
   rcases hx' with hx' | ⟨b', hb, he⟩
   . rcases h.old x hx' with h1 | h1
     . exact .inl h1
     . exact .inr ⟨h1.1, by omega⟩
   . rcases h.done b' he.1 hb x he with h1 | h1
     . exact .inl h1
     . right
       refine ⟨h1, ?_⟩
       rcases h.some x h1 with h2 | h2 <;> omega
theorem StI.skip {n : Nat} {T : Nat -> TermV} {m b : Nat} {s : Nat -> Nat} (h : StI n T m b s) (hs : (b ≠ 0 /\ s b = 0) \/ s b = m) (hm : 1 <= m) : StI n T m (b + 1) s := by
 refine ⟨h.zero, h.some, h.old, fun b' hb hw x he => ?_⟩
 by_cases e : b' = b
 . subst e
   rcases h.old b' hw with h1 | h1
   . subst h1
     rcases hs with hs | hs
     . exact absurd rfl hs.1
     . have := h.zero
       omega
   . rcases hs with hs | hs <;> omega
 . exact h.done b' (by omega) hw x he
theorem StI.go {n : Nat} {T : Nat -> TermV} {m b : Nat} {s : Nat -> Nat} (h : StI n T m b s) (hb : b = 0 \/ s b ≠ 0) (hs : s b ≠ m) : Within n T (m - 1) b := by
 rcases hb with rfl | hb
 . exact within_mono (k := 0) (show Within n T 0 0 from rfl) (Nat.zero_le _)
 . rcases h.some b hb with h1 | h1
   . exact h1.2
   . exact absurd h1.1 hs
def setS (s : Nat -> Nat) (x m : Nat) : Nat -> Nat := fun j => if j = x then m else s j
theorem StI.set {n : Nat} {T : Nat -> TermV} {m b x : Nat} {s : Nat -> Nat} (h : StI n T m b s) (hm : 1 <= m) (hw : Within n T (m - 1) b) (he : Edge n T b x) (hx : x ≠ 0) (hs : s x = 0) : StI n T m b (setS s x m) := by
 have hxw : Within n T m x := by
  obtain ⟨k, rfl⟩ : ∃ k, m = k + 1 := ⟨m - 1, by omega⟩
  exact .inr ⟨b, hw, he⟩
 have hne : ¬ Within n T (m - 1) x := fun hx2 => by
  rcases h.old x hx2 with h1 | h1
  . exact hx h1
  . exact h1.1 hs
 refine ⟨by unfold setS; rw [if_neg (fun e => hx e.symm)]; exact h.zero, fun y hy => ?_, fun y hy => ?_, fun b' hb' hw' y he' => ?_⟩
 . unfold setS at hy ⊢
   by_cases e : y = x
   . subst e
     rw [if_pos rfl]
     exact .inr ⟨rfl, hxw⟩
   . rw [if_neg e] at hy ⊢
     exact h.some y hy
 . unfold setS
   rw [if_neg (fun e => hne (by rw [<- e]; exact hy))]
   exact h.old y hy
 . unfold setS
   by_cases e : y = x
   . rw [if_pos e]
     exact .inr (by omega)
   . rw [if_neg e]
     exact h.done b' hb' hw' y he'
theorem StI.over {n : Nat} {T : Nat -> TermV} {m b : Nat} {s : Nat -> Nat} (h : StI n T m b s) (ha : ∀ x, Edge n T b x -> x = 0 \/ s x ≠ 0) : StI n T m (b + 1) s :=
 ⟨h.zero, h.some, h.old, fun b' hb hw x he => by
  by_cases e : b' = b
  . subst e
    exact ha x he
  . exact h.done b' (by omega) hw x he⟩
theorem StI.last {n : Nat} {T : Nat -> TermV} {s : Nat -> Nat} (h0 : 0 < n) (ht : ∀ j, j < n -> ∀ x, x ∈ succL (T j) -> 0 <= x /\ x < n) (h : StI n T (n + 1) 0 s) {b : Nat} (hb : 1 <= b) : reachV n T b = true ↔ s b ≠ 0 := by
 constructor
 . intro hr
   obtain ⟨_, k, hk⟩ := (reachV_spec h0 ht).2.2 b hr
   rcases h.old b (within_all h0 hk) with h1 | h1
   . omega
   . exact h1.1
 . intro hs
   rcases h.some b hs with h1 | h1
   . exact within_reach h0 ht _ _ h1.2
   . exact within_reach h0 ht _ _ h1.2
end Go.Proofs.YtkncilgmlkeifaaGreatDoor
/-
  CodeReaches: the contract of changedTerm for the two changes that the law makes.
-/
namespace Go.Proofs.YtkncilgmlkeifaaGreatDoor
open Go.ChangeShapes Go.WideShapes Go.ChangeAt Go.RowKit Go.Shelf
end Go.Proofs.YtkncilgmlkeifaaGreatDoor
/-
  CodeReaches: the contract of changed for the two changes that the law makes.
-/
namespace Go.Proofs.YtkncilgmlkeifaaGreatDoor
open Go.ChangeShapes Go.WideShapes Go.ChangeAt Go.RowKit Go.Shelf
end Go.Proofs.YtkncilgmlkeifaaGreatDoor
