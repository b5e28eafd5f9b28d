import Derived.Test.YtkncilgmlkeifaaGreatDoorGrd
/-
  The lists of registers and of targets that the reference makes are those that the program makes (plain facts).
-/
set_option linter.unusedVariables false
set_option linter.unusedSimpArgs false
namespace Go.Proofs.YtkncilgmlkeifaaGreatDoor
open Go.ChangeShapes Go.WideShapes Go.ChangeAt Go.RowKit
def addL (l : List Int) (n : Int) : List Int := if n ∈ l then l else l.takeWhile (fun x => decide (x < n)) ++ n :: l.dropWhile (fun x => decide (x < n))
abbrev Incr (l : List Int) : Prop := l.Pairwise (. < ·)
theorem incr_ext : ∀ {a b : List Int}, Incr a -> Incr b -> (∀ x, x ∈ a ↔ x ∈ b) -> a = b
 | [], [], _, _, _ => rfl
 | [], y :: b, _, _, h => absurd ((h y).2 (by simp)) (by simp)
 | x :: a, [], _, _, h => absurd ((h x).1 (by simp)) (by simp)
 | x :: a, y :: b, ha, hb, h => by
  have a1 := List.pairwise_cons.1 ha
  have b1 := List.pairwise_cons.1 hb
  have e : x = y := by
   have hx := (h x).1 (by simp)
   have hy := (h y).2 (by simp)
   rcases List.mem_cons.1 hx with hx | hx
   . exact hx
   rcases List.mem_cons.1 hy with hy | hy
   . exact hy.symm
   have := a1.1 y hy
   have := b1.1 x hx
   omega
  subst e
  rw [incr_ext a1.2 b1.2]
  intro z
  constructor
  . intro hz
    rcases List.mem_cons.1 ((h z).1 (by simp [hz])) with hz' | hz'
    . have := a1.1 z hz; omega
    . exact hz'
  . intro hz
    rcases List.mem_cons.1 ((h z).2 (by simp [hz])) with hz' | hz'
    . have := b1.1 z hz; omega
    . exact hz'
theorem add_mem {l : List Int} {n x : Int} : x ∈ addL l n ↔ x ∈ l \/ x = n := by
 unfold addL
 split
 . constructor
   . exact .inl
   . rintro (h | rfl)
     . exact h
     . assumption
 . have e := List.takeWhile_append_dropWhile (p := fun x => decide (x < n)) (l := l)
   constructor
   . intro h
     rcases List.mem_append.1 h with h | h
     . exact .inl (by rw [<- e]; exact List.mem_append_left _ h)
     . rcases List.mem_cons.1 h with h | h
       . exact .inr h
       . exact .inl (by rw [<- e]; exact List.mem_append_right _ h)
   . rintro (h | rfl)
     . rw [<- e] at h
       rcases List.mem_append.1 h with h | h
       . exact List.mem_append_left _ h
       . exact List.mem_append_right _ (List.mem_cons_of_mem _ h)
     . exact List.mem_append_right _ (by simp)
theorem dropW_ge : ∀ {l : List Int} {n : Int}, Incr l -> ∀ x, x ∈ l.dropWhile (fun x => decide (x < n)) -> n <= x
 | [], _, _, x, h => by simp at h
 | y :: l, n, hl, x, h => by
  have h1 := List.pairwise_cons.1 hl
  rw [List.dropWhile_cons] at h
  split at h
  . exact dropW_ge h1.2 x h
  . next hy =>
    have hy' : ¬ y < n := by simpa using hy
    rcases List.mem_cons.1 h with rfl | h
    . omega
    . have := h1.1 x h; omega
theorem takeW_lt : ∀ {l : List Int} {n : Int}, ∀ x, x ∈ l.takeWhile (fun x => decide (x < n)) -> x < n
 | [], _, x, h => by simp at h
 | y :: l, n, x, h => by
  rw [List.takeWhile_cons] at h
  split at h
  . next hy =>
    have hy' : y < n := by simpa using hy
    rcases List.mem_cons.1 h with rfl | h
    . exact hy'
    . exact takeW_lt x h
  . simp at h
theorem add_incr {l : List Int} {n : Int} (h : Incr l) : Incr (addL l n) := by
 unfold addL
 split
 . exact h
 . next hn =>
   have e := List.takeWhile_append_dropWhile (p := fun x => decide (x < n)) (l := l)
   have h' := h
   rw [<- e] at h'
   obtain ⟨h1, h2, h3⟩ := List.pairwise_append.1 h'
   refine List.pairwise_append.2 ⟨h1, List.pairwise_cons.2 ⟨fun x hx => ?_, h2⟩, fun x hx y hy => ?_⟩
   . have := dropW_ge h x hx
     have hne : x ≠ n := by
      rintro rfl
      exact hn (by rw [<- e]; exact List.mem_append_right _ hx)
     omega
   . have hx' := takeW_lt x hx
     rcases List.mem_cons.1 hy with rfl | hy
     . exact hx'
     . exact h3 x hx y hy
def addAll (zs : List Int) : List Int := zs.foldl addL []
theorem fold_add : ∀ (zs l : List Int), Incr l -> Incr (zs.foldl addL l) /\ ∀ x, x ∈ zs.foldl addL l ↔ x ∈ l \/ x ∈ zs
 | [], l, h => ⟨h, fun x => by simp⟩
 | z :: zs, l, h => by
  have := fold_add zs (addL l z) (add_incr h)
  refine ⟨this.1, fun x => ?_⟩
  rw [List.foldl_cons, this.2 x, add_mem, List.mem_cons, or_assoc]
theorem compact_incr {l : List Int} (h : l.Pairwise (. <= ·)) : ∀ m, m <= l.length -> Incr (Lib.compactUpTo l.toArray m) /\ ∀ x, x ∈ Lib.compactUpTo l.toArray m ↔ ∃ j, j < m /\ l.toArray[j]! = x
 | 0, _ => ⟨by simp [Lib.compactUpTo], fun x => by simp [Lib.compactUpTo]⟩
 | m + 1, hm => by
  obtain ⟨h1, h2⟩ := compact_incr h m (by omega)
  have mono : ∀ i j, i <= j -> j < l.length -> l.toArray[i]! <= l.toArray[j]! := fun i j hij hj => by
   rcases Nat.lt_or_ge i j with hlt | hge
   . have := List.pairwise_iff_getElem.1 h i j (by omega) hj hlt
     simpa [getElem!_pos, hj, show i < l.length by omega] using this
   . obtain rfl : i = j := by omega
     exact Int.le_refl _
  rw [Lib.compactUpTo_succ]
  by_cases hk : Lib.keeps l.toArray m = true
  . rw [if_pos hk]
    refine ⟨List.pairwise_append.2 ⟨h1, by simp, fun x hx y hy => ?_⟩, fun x => ?_⟩
    . rw [List.mem_singleton] at hy
      subst hy
      obtain ⟨j, hj, rfl⟩ := (h2 x).1 hx
      have hne : m = 0 \/ l.toArray[m]! ≠ l.toArray[m - 1]! := by simpa [Lib.keeps] using hk
      have a := mono j (m - 1) (by omega) (by omega)
      have b := mono (m - 1) m (by omega) (by omega)
      rcases hne with hne | hne
      . omega
      . omega
    . rw [List.mem_append, List.mem_singleton, h2 x]
      constructor
      . rintro (⟨j, hj, rfl⟩ | rfl)
        . exact ⟨j, by omega, rfl⟩
        . exact ⟨m, by omega, rfl⟩
      . rintro ⟨j, hj, rfl⟩
        rcases Nat.lt_or_ge j m with hlt | hge
        . exact .inl ⟨j, hlt, rfl⟩
        . obtain rfl : j = m := by omega
          exact .inr rfl
  . rw [if_neg hk, List.append_nil]
    have hne : m ≠ 0 /\ l.toArray[m]! = l.toArray[m - 1]! := by simpa [Lib.keeps, not_or] using hk
    refine ⟨h1, fun x => ?_⟩
    rw [h2 x]
    constructor
    . rintro ⟨j, hj, rfl⟩
      exact ⟨j, by omega, rfl⟩
    . rintro ⟨j, hj, rfl⟩
      rcases Nat.lt_or_ge j m with hlt | hge
      . exact ⟨j, hlt, rfl⟩
      . obtain rfl : j = m := by omega
        exact ⟨j - 1, by omega, hne.2.symm⟩
theorem compact_add (zs : List Int) : Lib.compact (srt zs) = addAll zs := by
 have hs : (srt zs).Pairwise (. <= ·) := by
  have := List.pairwise_mergeSort (le := fun x y : Int => decide (x <= y)) (fun a b c h1 h2 => by simp at h1 h2 ⊢; omega) (fun a b => by simp; omega) zs
  exact this.imp (fun h => by simpa using h)
 obtain ⟨h1, h2⟩ := compact_incr hs (srt zs).length (Nat.le_refl _)
 obtain ⟨h3, h4⟩ := fold_add zs [] List.Pairwise.nil
 refine incr_ext h1 h3 (fun x => ?_)
 rw [show Lib.compact (srt zs) = Lib.compactUpTo (srt zs).toArray (srt zs).length from rfl, show addAll zs = zs.foldl addL [] from rfl, h2 x, h4 x]
 have hp : ∀ x, x ∈ srt zs ↔ x ∈ zs := fun x => by simp [srt]
 rw [<- hp x]
 constructor
 . rintro ⟨j, hj, rfl⟩
   refine .inr ?_
   rw [getElem!_pos _ _ (by simpa using hj)]
   simp
 . rintro (h | h)
   . cases h
   . obtain ⟨j, hj, rfl⟩ := List.mem_iff_getElem.1 h
     exact ⟨j, hj, by rw [getElem!_pos _ _ (by simpa using hj)]; simp⟩
def succR (t : TermV) : List Int := if t.kind = 5 then [] else if t.kind = 2 /\ t.t0 ≠ t.t1 then [t.t0, t.t1] else [t.t0]
end Go.Proofs.YtkncilgmlkeifaaGreatDoor
