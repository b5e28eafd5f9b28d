/-
  Packing as plain mathematics: which item is in which lane.
-/
import Derived.Test.YtjknmancnfeifaaPack
set_option linter.unusedVariables false
set_option linter.unusedSimpArgs false
namespace Go.Proofs.Ytjknmancnfeifaa

theorem livL_at {d : Int} {m j : Nat} (hj : j < m) (ha : alive d j = true) : (livL d j).length < (livL d m).length ∧ (livL d m).getD (livL d j).length 0 = j := by
  induction m with
  | zero => omega
  | succ m ih =>
    by_cases hjm : j = m
    · subst hjm
      rw [livL_succ_yes ha]
      simp [List.getD_eq_getElem?_getD]
    · obtain ⟨h1, h2⟩ := ih (by omega)
      cases hm : alive d m
      · rw [livL_succ_no hm]; exact ⟨h1, h2⟩
      · rw [livL_succ_yes hm]
        refine ⟨by simp; omega, ?_⟩
        rw [List.getD_eq_getElem?_getD, List.getElem?_append_left h1, ← List.getD_eq_getElem?_getD]
        exact h2
theorem livL_mem {d : Int} {m p : Nat} (hp : p < (livL d m).length) : (livL d m).getD p 0 < m ∧ alive d ((livL d m).getD p 0) = true := by
  have : (livL d m).getD p 0 ∈ livL d m := by simp [List.getD_eq_getElem?_getD, List.getElem?_eq_getElem hp]
  have h := List.mem_filter.1 this
  exact ⟨by simpa using h.1, h.2⟩
theorem livL_nodup (d : Int) (m : Nat) : (livL d m).Nodup := List.Pairwise.filter _ List.nodup_range
theorem livL_inj {d : Int} {m p q : Nat} (hp : p < (livL d m).length) (hq : q < (livL d m).length) (h : (livL d m).getD p 0 = (livL d m).getD q 0) : p = q := by
  have h2 : (livL d m)[p] = (livL d m)[q] := by
    simpa [List.getD_eq_getElem?_getD, List.getElem?_eq_getElem hp, List.getElem?_eq_getElem hq] using h
  exact (List.getElem_inj (livL_nodup d m)).1 h2
/-- The number of living lanes below lane k. -/
def cntL (d : Int) (k : Nat) : Nat := (livL d k).length
theorem cntL_yes {d : Int} {k : Nat} (h : alive d k = true) : cntL d (k + 1) = cntL d k + 1 := by unfold cntL; rw [livL_succ_yes h]; simp
theorem cntL_no {d : Int} {k : Nat} (h : alive d k = false) : cntL d (k + 1) = cntL d k := by unfold cntL; rw [livL_succ_no h]
theorem fill_yes {d : Int} {m j p : Nat} {it : Nat → Int} (hj : j < m) (hp : p ≤ (livL d m).length) (ha : alive d j = true) (hc : cntL d j < p) : fill (livL d m) it p j = it (cntL d j) := by
  obtain ⟨h1, h2⟩ := livL_at hj ha
  induction p with
  | zero => omega
  | succ p ih =>
    show (if j = (livL d m).getD p 0 then it p else fill (livL d m) it p j) = _
    by_cases he : j = (livL d m).getD p 0
    · rw [if_pos he]
      have : cntL d j = p := livL_inj h1 (by omega) (h2.trans he)
      rw [this]
    · rw [if_neg he]
      refine ih (by omega) ?_
      have : cntL d j ≠ p := fun e => he (by rw [← e]; exact h2.symm)
      omega
theorem fill_no {d : Int} {m j p : Nat} {it : Nat → Int} (hj : j < m) (hp : p ≤ (livL d m).length) (h : alive d j = false ∨ p ≤ cntL d j) : fill (livL d m) it p j = -1 := by
  induction p with
  | zero => rfl
  | succ p ih =>
    show (if j = (livL d m).getD p 0 then it p else fill (livL d m) it p j) = _
    obtain ⟨hm, hal⟩ := livL_mem (d := d) (m := m) (p := p) (by omega)
    by_cases he : j = (livL d m).getD p 0
    · exfalso
      rcases h with h | h
      · rw [← he, h] at hal; cases hal
      · rw [← he] at hal
        obtain ⟨h1, h2⟩ := livL_at hj hal
        have : cntL d j = p := livL_inj h1 (by omega) (h2.trans he)
        omega
    · rw [if_neg he]
      refine ih (by omega) ?_
      rcases h with h | h
      · exact .inl h
      · exact .inr (by omega)
/-- The next item ahead of lane k of warp i. -/
def nxt (a n : Nat) (d : Int) (i k : Nat) : Nat := min n (i * a + cntL d k)
section
variable {a n m i k : Nat} {d : Int} {f : Nat → Int}
theorem nxt_zero : nxt a n d i 0 = min n (i * a) := by simp [nxt, cntL, livL]
theorem nxt_end (ha : (livL d m).length = a) : nxt a n d i m = nxt a n d (i + 1) 0 := by
  rw [nxt_zero, Nat.succ_mul]; unfold nxt cntL; rw [ha]
theorem nxt_lt (h1 : 1 ≤ a) (hi : i < chN n a) : nxt a n d i 0 < n := by
  rw [nxt_zero]; have := (chN_lt h1).1 hi; omega
theorem nxt_last (h1 : 1 ≤ a) (hi : i = chN n a) : nxt a n d i 0 = n := by
  rw [nxt_zero]; have := mt (chN_lt (len := n) (n := a) (r := i) h1).2 (by omega); omega
theorem nxt_le : nxt a n d i k ≤ n := Nat.min_le_left _ _
/-- A living lane gets the next item. -/
theorem nxt_yes (ha : (livL d m).length = a) (hk : k < m) (hal : alive d k = true) (hn : nxt a n d i k < n) : warpF (livL d m) n f i k = f (nxt a n d i k) ∧ nxt a n d i (k + 1) = nxt a n d i k + 1 := by
  obtain ⟨h1, _⟩ := livL_at hk hal
  have h1' : cntL d k < a := by unfold cntL; omega
  unfold nxt at hn ⊢
  have e : min n (i * a + cntL d k) = i * a + cntL d k := by omega
  rw [e] at hn ⊢
  refine ⟨?_, by rw [cntL_yes hal]; omega⟩
  unfold warpF
  rw [ha, fill_yes hk (by unfold chLen; omega) hal (by unfold chLen; omega)]
theorem nxt_full (ha : (livL d m).length = a) (hk : k < m) (hal : alive d k = true) (hn : ¬ nxt a n d i k < n) : warpF (livL d m) n f i k = -1 ∧ nxt a n d i (k + 1) = nxt a n d i k := by
  obtain ⟨h1, _⟩ := livL_at hk hal
  unfold nxt at hn ⊢
  refine ⟨?_, by rw [cntL_yes hal]; omega⟩
  unfold warpF
  rw [ha, fill_no hk (by unfold chLen; omega) (.inr (by unfold chLen; omega))]
theorem nxt_dead (ha : (livL d m).length = a) (hk : k < m) (hal : alive d k = false) : warpF (livL d m) n f i k = -1 ∧ nxt a n d i (k + 1) = nxt a n d i k := by
  refine ⟨?_, by unfold nxt; rw [cntL_no hal]⟩
  unfold warpF
  rw [ha, fill_no hk (by unfold chLen; omega) (.inl hal)]
end
end Go.Proofs.Ytjknmancnfeifaa
