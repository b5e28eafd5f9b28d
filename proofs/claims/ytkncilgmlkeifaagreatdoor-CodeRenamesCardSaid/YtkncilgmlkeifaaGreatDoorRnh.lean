import Derived.Test.YtkncilgmlkeifaaGreatDoorGrd
import Derived.Test.YtkncilgmlkeifaaGreatDoorSld
import Derived.Test.YtkncilgmlkeifaaGreatDoorNeq
import Derived.Test.YtkncilgmlkeifaaGreatDoorLin
import Derived.Test.YtkncilgmlkeifaaGreatDoorCpy
import Derived.Deep.MidRow
import Derived.Laws.AppendOwnNone
import Derived.Deep.RegionLaw
import Derived.Deep.RegionHeld3
import Derived.Test.YtkncilgmlkeifaaGreatDoorFrw
/-
  CodeRenames: what its walk needs.
-/
set_option linter.unusedVariables false
set_option linter.unusedSimpArgs false
namespace Go.Proofs.YtkncilgmlkeifaaGreatDoor
open Go.ChangeShapes Go.WideShapes Go.ChangeAt Go.RowKit Go.Shelf

theorem sorted_ext : ∀ (l m : List Int), l.Pairwise (· < ·) → m.Pairwise (· < ·) → (∀ x, x ∈ l ↔ x ∈ m) → l = m
  | [], [], _, _, _ => rfl
  | [], y :: m, _, _, h => absurd ((h y).2 (by simp)) (by simp)
  | x :: l, [], _, _, h => absurd ((h x).1 (by simp)) (by simp)
  | x :: l, y :: m, hl, hm, h => by
    have hx := List.pairwise_cons.1 hl
    have hy := List.pairwise_cons.1 hm
    have e : x = y := by
      rcases List.mem_cons.1 ((h x).1 (by simp)) with e | e
      · exact e
      · rcases List.mem_cons.1 ((h y).2 (by simp)) with e' | e'
        · exact e'.symm
        · have := hx.1 y e'
          have := hy.1 x e
          omega
    subst e
    have : l = m := sorted_ext l m hx.2 hy.2 (fun z => by
      constructor
      · intro hz
        have := hx.1 z hz
        rcases List.mem_cons.1 ((h z).1 (by simp [hz])) with e | e
        · omega
        · exact e
      · intro hz
        have := hy.1 z hz
        rcases List.mem_cons.1 ((h z).2 (by simp [hz])) with e | e
        · omega
        · exact e)
    rw [this]
theorem cut_sorted (d : Array Int) : ∀ m, (∀ i j, i ≤ j → j < m → d[i]! ≤ d[j]!) → (Lib.compactUpTo d m).Pairwise (· < ·) ∧ ∀ x, x ∈ Lib.compactUpTo d m ↔ ∃ j, j < m ∧ d[j]! = x
  | 0, _ => ⟨List.Pairwise.nil, fun x => by simp [Lib.compactUpTo]⟩
  | m + 1, h => by
    obtain ⟨i1, i2⟩ := cut_sorted d m (fun i j hi hj => h i j hi (by omega))
    rw [Lib.compactUpTo_succ]
    by_cases hk : Lib.keeps d m = true
    · rw [if_pos hk]
      constructor
      · refine List.pairwise_append.2 ⟨i1, List.pairwise_singleton _ _, fun a ha b hb => ?_⟩
        rw [List.mem_singleton] at hb
        subst hb
        obtain ⟨j, hj, rfl⟩ := (i2 a).1 ha
        have h1 := h j (m - 1) (by omega) (by omega)
        have h2 := h (m - 1) m (by omega) (by omega)
        have h3 : d[m]! ≠ d[m - 1]! := by
          unfold Lib.keeps at hk
          simp at hk
          rcases hk with hk | hk
          · omega
          · first | exact hk | exact fun e => hk e.symm
        omega
      · intro x
        rw [List.mem_append, i2 x, List.mem_singleton]
        constructor
        · rintro (⟨j, hj, e⟩ | e)
          · exact ⟨j, by omega, e⟩
          · exact ⟨m, by omega, e.symm⟩
        · rintro ⟨j, hj, e⟩
          by_cases hjm : j = m
          · subst hjm
            exact .inr e.symm
          · exact .inl ⟨j, by omega, e⟩
    · rw [if_neg hk, List.append_nil]
      refine ⟨i1, fun x => ?_⟩
      rw [i2 x]
      constructor
      · rintro ⟨j, hj, e⟩
        exact ⟨j, by omega, e⟩
      · rintro ⟨j, hj, e⟩
        by_cases hjm : j = m
        · subst hjm
          have h3 : 0 < j ∧ d[j]! = d[j - 1]! := by
            unfold Lib.keeps at hk
            simp at hk
            omega
          exact ⟨j - 1, by omega, by rw [← h3.2]; exact e⟩
        · exact ⟨j, by omega, e⟩
theorem uses_sorted (o : Nat → OpdV) (k : Nat) : (usesV o k).Pairwise (· < ·) ∧ ∀ x, x ∈ usesV o k ↔ x ∈ regsL o k := by
  have hs : (srt (regsL o k)).Pairwise fun x y => decide (x ≤ y) = true := List.pairwise_mergeSort (fun a b c h1 h2 => by simp at *; omega) (fun a b => by simp; omega) _
  have hle : ∀ i j, i ≤ j → j < (srt (regsL o k)).length → (srt (regsL o k)).toArray[i]! ≤ (srt (regsL o k)).toArray[j]! := by
    intro i j hi hj
    have e : ∀ i, i < (srt (regsL o k)).length → ∃ h : i < (srt (regsL o k)).length, (srt (regsL o k)).toArray[i]! = (srt (regsL o k))[i] := fun i hi => ⟨hi, by simp [hi]⟩
    obtain ⟨a1, a2⟩ := e i (by omega)
    obtain ⟨b1, b2⟩ := e j hj
    rw [a2, b2]
    by_cases hij : i = j
    · subst hij
      exact Int.le_refl _
    · have := List.pairwise_iff_getElem.1 hs i j a1 b1 (by omega)
      simpa using this
  obtain ⟨h1, h2⟩ := cut_sorted (srt (regsL o k)).toArray (srt (regsL o k)).length hle
  refine ⟨h1, fun x => ?_⟩
  have h3 : x ∈ srt (regsL o k) ↔ x ∈ regsL o k := List.mem_mergeSort
  show x ∈ Lib.compactUpTo (srt (regsL o k)).toArray (srt (regsL o k)).length ↔ _
  rw [h2 x, ← h3, List.mem_iff_getElem]
  constructor
  · rintro ⟨j, hj, e⟩
    exact ⟨j, hj, by rw [← e]; simp [hj]⟩
  · rintro ⟨j, hj, e⟩
    exact ⟨j, hj, by rw [← e]; simp [hj]⟩
def ren (p q : Int) (o : OpdV) : OpdV := if o.k = 2 ∧ o.n = p then ⟨2, q, 0⟩ else if o.k = 2 ∧ o.n = q then ⟨2, p, 0⟩ else o
theorem ren_k (p q : Int) (o : OpdV) : (ren p q o).k = 2 ↔ o.k = 2 := by
  unfold ren
  repeat' split
  all_goals simp_all
theorem ren_n (p q : Int) (o : OpdV) (h : o.k = 2) : (ren p q o).n = rn p q o.n := by
  unfold ren rn
  by_cases h1 : o.n = p
  · rw [if_pos ⟨h, h1⟩, if_pos h1]
  · rw [if_neg (fun hh => h1 hh.2), if_neg h1]
    by_cases h2 : o.n = q
    · rw [if_pos ⟨h, h2⟩, if_pos h2]
    · rw [if_neg (fun hh => h2 hh.2), if_neg h2]
theorem reg_ren (p q : Int) (x : Int) : (ren p q ⟨2, x, 0⟩).n = rn p q x := ren_n p q _ rfl
/-- Insertion into an increasing list. -/
def addI (l : List Int) (x : Int) : List Int := if x ∈ l then l else l.takeWhile (· < x) ++ x :: l.dropWhile (· < x)
theorem tw_lt : ∀ (l : List Int) (x : Int) (y : Int), y ∈ l.takeWhile (· < x) → y < x
  | [], x, y, hy => by simp at hy
  | z :: l, x, y, hy => by
    by_cases hz : z < x
    · rw [List.takeWhile_cons_of_pos (by simpa using hz)] at hy
      rcases List.mem_cons.1 hy with rfl | hy
      · exact hz
      · exact tw_lt l x y hy
    · rw [List.takeWhile_cons_of_neg (by simpa using hz)] at hy
      simp at hy
theorem dw_ge : ∀ (l : List Int) (x : Int), l.Pairwise (· < ·) → ∀ y, y ∈ l.dropWhile (· < x) → x ≤ y
  | [], x, _, y, hy => by simp at hy
  | z :: l, x, hl, y, hy => by
    obtain ⟨h1, h2⟩ := List.pairwise_cons.1 hl
    by_cases hz : z < x
    · rw [List.dropWhile_cons_of_pos (by simpa using hz)] at hy
      exact dw_ge l x h2 y hy
    · rw [List.dropWhile_cons_of_neg (by simpa using hz)] at hy
      rcases List.mem_cons.1 hy with rfl | hy
      · omega
      · have := h1 y hy
        omega
theorem add_sorted {l : List Int} (h : l.Pairwise (· < ·)) (x : Int) : (addI l x).Pairwise (· < ·) ∧ ∀ y, y ∈ addI l x ↔ y = x ∨ y ∈ l := by
  unfold addI
  by_cases hx : x ∈ l
  · rw [if_pos hx]
    refine ⟨h, fun y => ⟨.inr, ?_⟩⟩
    rintro (rfl | hy)
    · exact hx
    · exact hy
  · rw [if_neg hx]
    have e : l.takeWhile (· < x) ++ l.dropWhile (· < x) = l := List.takeWhile_append_dropWhile
    have hp := h
    rw [← e] at hp
    obtain ⟨p1, p2, p3⟩ := List.pairwise_append.1 hp
    have hne : ∀ y, y ∈ l.dropWhile (· < x) → x < y := fun y hy => by
      have h1 := dw_ge l x h y hy
      have h2 : y ≠ x := fun e2 => by
        have h4 : y ∈ l := by rw [← e]; exact List.mem_append.2 (.inr hy)
        rw [e2] at h4
        exact hx h4
      omega
    refine ⟨List.pairwise_append.2 ⟨p1, List.pairwise_cons.2 ⟨hne, p2⟩, fun a ha b hb => ?_⟩, fun y => ?_⟩
    · rcases List.mem_cons.1 hb with rfl | hb
      · exact tw_lt l _ _ ha
      · exact p3 a ha b hb
    · have hm : y ∈ l ↔ y ∈ l.takeWhile (· < x) ∨ y ∈ l.dropWhile (· < x) := by
        conv => lhs; rw [← e]
        exact List.mem_append
      rw [List.mem_append, List.mem_cons, hm]
      constructor
      · rintro (h | h | h)
        · exact .inr (.inl h)
        · exact .inl h
        · exact .inr (.inr h)
      · rintro (h | h | h)
        · exact .inr (.inl h)
        · exact .inl h
        · exact .inr (.inr h)
/-- The exchanged list of the law. -/
def exL (p q : Int) (l : List Int) : Nat → List Int
  | 0 => []
  | k + 1 => addI (exL p q l k) (rn p q (l.getD k 0))
theorem ex_sorted (p q : Int) (l : List Int) : ∀ k, k ≤ l.length → (exL p q l k).Pairwise (· < ·) ∧ ∀ y, y ∈ exL p q l k ↔ ∃ x, x ∈ l.take k ∧ y = rn p q x
  | 0, _ => ⟨List.Pairwise.nil, fun y => by simp [exL]⟩
  | k + 1, hk => by
    obtain ⟨h1, h2⟩ := ex_sorted p q l k (by omega)
    obtain ⟨h3, h4⟩ := add_sorted h1 (rn p q (l.getD k 0))
    have hg : l.getD k 0 = l[k] := by rw [List.getD_eq_getElem?_getD, List.getElem?_eq_getElem hk]; rfl
    refine ⟨h3, fun y => ?_⟩
    show y ∈ addI _ _ ↔ _
    rw [h4 y, h2 y, List.take_succ_eq_append_getElem hk, hg]
    constructor
    · rintro (e | ⟨x, hx, e⟩)
      · exact ⟨_, List.mem_append.2 (.inr (List.mem_singleton.2 rfl)), e⟩
      · exact ⟨x, List.mem_append.2 (.inl hx), e⟩
    · rintro ⟨x, hx, e⟩
      rcases List.mem_append.1 hx with hx | hx
      · exact .inr ⟨x, hx, e⟩
      · rw [List.mem_singleton] at hx
        subst hx
        exact .inl e
theorem regs_mem (o : Nat → OpdV) (k : Nat) (x : Int) : x ∈ regsL o k ↔ ∃ j, j < k ∧ (o j).k = 2 ∧ (o j).n = x := by
  unfold regsL
  simp only [List.mem_map, List.mem_filter, List.mem_range, decide_eq_true_eq]
  constructor
  · rintro ⟨j, ⟨h1, h2⟩, h3⟩
    exact ⟨j, h1, h2, h3⟩
  · rintro ⟨j, h1, h2, h3⟩
    exact ⟨j, ⟨h1, h2⟩, h3⟩
theorem uses_ren (p q : Int) (o : Nat → OpdV) (k : Nat) : usesV (fun j => ren p q (o j)) k = exL p q (usesV o k) (usesV o k).length := by
  obtain ⟨h1, h2⟩ := uses_sorted (fun j => ren p q (o j)) k
  obtain ⟨h3, h4⟩ := uses_sorted o k
  obtain ⟨h5, h6⟩ := ex_sorted p q (usesV o k) _ (Nat.le_refl _)
  refine sorted_ext _ _ h1 h5 (fun x => ?_)
  rw [h2 x, h6 x, List.take_length, regs_mem]
  constructor
  · rintro ⟨j, hj, hk, hn⟩
    have hk' := (ren_k p q (o j)).1 hk
    refine ⟨(o j).n, (h4 _).2 ((regs_mem o k _).2 ⟨j, hj, hk', rfl⟩), ?_⟩
    rw [← hn, ren_n p q _ hk']
  · rintro ⟨y, hy, e⟩
    obtain ⟨j, hj, hk, hn⟩ := (regs_mem o k y).1 ((h4 y).1 hy)
    exact ⟨j, hj, (ren_k p q (o j)).2 hk, by rw [ren_n p q _ hk, hn, e]⟩
def renI (p q : Int) (i : InstV) : InstV := { i with d := ren p q i.d, a := ren p q i.a, b := ren p q i.b, c := ren p q i.c }
def renT (p q : Int) (t : TermV) : TermV := { t with d := ren p q t.d, a := ren p q t.a, b := ren p q t.b }
theorem lst_ren (p q : Int) (l : List OpdV) : (fun j => ren p q (lstO l j)) = lstO (l.map (ren p q)) := by
  funext j
  unfold lstO
  rw [List.getD_eq_getElem?_getD, List.getD_eq_getElem?_getD, List.getElem?_map]
  cases l[j]? with
  | none =>
    show ren p q noOpd = noOpd
    unfold ren noOpd
    simp
  | some x => rfl
theorem usesI_ren (p q : Int) (i : InstV) : usesI (renI p q i) = exL p q (usesI i) (usesI i).length := by
  have h := uses_ren p q (lstO [i.a, i.b, i.c]) 3
  rw [lst_ren] at h
  exact h
theorem usesT_ren (p q : Int) (t : TermV) : usesT (renT p q t) = exL p q (usesT t) (usesT t).length := by
  have h := uses_ren p q (lstO [t.a, t.b]) 2
  rw [lst_ren] at h
  exact h
theorem regV_ren (p q : Int) (d : OpdV) : regV (ren p q d) = if d.k = 2 then rn p q d.n else -1 := by
  unfold regV
  by_cases h : d.k = 2
  · rw [if_pos ((ren_k p q d).2 h), if_pos h, ren_n p q d h]
  · rw [if_neg (fun hh => h ((ren_k p q d).1 hh)), if_neg h]
theorem succ_ren (p q : Int) (t : TermV) : succL (renT p q t) = succL t := rfl
theorem ren_zero {p q : Int} {o : OpdV} (h : o.k = 0) : ren p q o = o := by
  unfold ren
  rw [if_neg (by omega), if_neg (by omega)]
theorem rn_rng {p q r n : Int} (hp : 0 ≤ p ∧ p < r) (hq : 0 ≤ q ∧ q < r) (h : 0 ≤ n ∧ n < r) : 0 ≤ rn p q n ∧ rn p q n < r := by
  unfold rn
  repeat' split
  all_goals omega
theorem regB_ren {p q r : Int} {o : OpdV} (hp : 0 ≤ p ∧ p < r) (hq : 0 ≤ q ∧ q < r) (h : regB r o = true) : regB r (ren p q o) = true := by
  have mk : ∀ n : Int, 0 ≤ n ∧ n < r → regB r ⟨2, n, 0⟩ = true := fun n hn => by
    unfold regB wthB
    simp only [Bool.and_eq_true, decide_eq_true_eq]
    exact ⟨trivial, trivial, hn.1, by omega⟩
  unfold ren
  split
  · exact mk q hq
  · split
    · exact mk p hp
    · exact h
theorem valB_ren {p q r : Int} {o : OpdV} (hp : 0 ≤ p ∧ p < r) (hq : 0 ≤ q ∧ q < r) (h : valB r o = true) : valB r (ren p q o) = true := by
  unfold valB at h ⊢
  simp only [Bool.or_eq_true, Bool.and_eq_true, decide_eq_true_eq] at h ⊢
  rcases h with h | h
  · left
    unfold ren
    rw [if_neg (by omega), if_neg (by omega)]
    exact h
  · exact .inr (regB_ren hp hq h)
def renP (p q : Int) (x : PartV) : PartV := { x with d := ren p q x.d, a := ren p q x.a, b := ren p q x.b, c := ren p q x.c }
theorem oth_ren {p q : Int} {f : FormV} {x : PartV} (h : zeroP (othV f x) = true) : othV f (renP p q x) = othV f x := by
  unfold zeroP at h
  simp only [Bool.and_eq_true, beq_iff_eq] at h
  obtain ⟨z0, z1, z2, z3, z4, z5, z6, z7, z8, z9, z10, z11, z12, z13, z14, z15⟩ := h
  have key : ∀ (s : Nat) (o : OpdV), (if f.want s = true then noOpd else o).k = 0 → (if f.want s = true then noOpd else ren p q o) = (if f.want s = true then noOpd else o) := by
    intro s o ho
    cases hw : f.want s with
    | true => rfl
    | false =>
      rw [hw] at ho
      exact ren_zero ho
  show othV f ⟨x.sub, x.n, ren p q x.d, ren p q x.a, ren p q x.b, ren p q x.c, x.t0, x.t1⟩ = othV f x
  unfold othV
  rw [key 2 x.d z2, key 3 x.a z5, key 4 x.b z8, key 5 x.c z11]
theorem hasV_ren {P sl p q r : Int} {n1 n3 : Nat} {sp : Nat → Int} {f : FormV} {x : PartV} (hp : 0 ≤ p ∧ p < r) (hq : 0 ≤ q ∧ q < r) (h : hasV P sl r n1 n3 sp f x = true) : hasV P sl r n1 n3 sp f (renP p q x) = true := by
  unfold hasV at h ⊢
  simp only [Bool.and_eq_true] at h ⊢
  obtain ⟨hz, ⟨hs, hi⟩, ⟨hd, ha, hb, hc⟩, ht⟩ := h
  have or_imp : ∀ {u v v' : Bool}, (u || v) = true → (v = true → v' = true) → (u || v') = true := by
    intro u v v' h1 h2
    cases u
    · simpa using h2 (by simpa using h1)
    · rfl
  exact ⟨by rw [oth_ren hz]; exact hz, ⟨hs, hi⟩, ⟨or_imp hd (regB_ren hp hq), or_imp ha (valB_ren hp hq), or_imp hb (valB_ren hp hq), or_imp hc (valB_ren hp hq)⟩, ht⟩
theorem instB_ren {P sl p q r : Int} {n1 n3 : Nat} {sp : Nat → Int} {i : InstV} (hp : 0 ≤ p ∧ p < r) (hq : 0 ≤ q ∧ q < r) (h : instB P sl r n1 n3 sp i = true) : instB P sl r n1 n3 sp (renI p q i) = true := by
  unfold instB at h ⊢
  simp only [Bool.and_eq_true] at h ⊢
  exact ⟨h.1, hasV_ren (x := i.parts) hp hq h.2⟩
theorem endB_ren {P sl p q r : Int} {n1 n3 : Nat} {sp : Nat → Int} {t : TermV} (hp : 0 ≤ p ∧ p < r) (hq : 0 ≤ q ∧ q < r) (h : endB P sl r n1 n3 sp t = true) : endB P sl r n1 n3 sp (renT p q t) = true := by
  unfold endB at h ⊢
  simp only [Bool.and_eq_true] at h ⊢
  refine ⟨h.1, ?_⟩
  have e : (renT p q t).parts = renP p q t.parts := by
    have : ren p q noOpd = noOpd := ren_zero rfl
    show (⟨t.sub, 0, ren p q t.d, ren p q t.a, ren p q t.b, noOpd, t.t0, t.t1⟩ : PartV) = ⟨t.sub, 0, ren p q t.d, ren p q t.a, ren p q t.b, ren p q noOpd, t.t0, t.t1⟩
    rw [this]
  show hasV P sl r n1 n3 sp (endF t.kind) (renT p q t).parts = true
  rw [e]
  exact hasV_ren hp hq h.2
/-- The code with two registers exchanged everywhere. -/
def renC (p q : Int) (c : CdV) : CdV := ⟨c.q, c.l.map fun l => (l.1, rn p q l.2.1, l.2.2), c.b.map fun e => (e.1.map (renI p q), renT p q e.2), c.n⟩
theorem mk_e {c : CdV} (h : MdOk c) (z : Bool) : ∀ e, e ∈ (mkC z c).b → endB 3 ((mkC z c).n 3) ((mkC z c).n 2) 5 (mkC z c).b.length spA e.2 = true := by
  obtain ⟨g, s, hs, hg, hs8, hn⟩ := h.nums
  have e2 : c.n 2 = 6 + 2 * (c.l.length : Int) := by rw [hn]; rfl
  intro e he
  cases z with
  | false =>
    show endB 3 (c.n 3) (c.n 2) 5 c.b.length spA e.2 = true
    rw [e2]
    exact (h.bs e he).fin.ok _
  | true =>
    obtain ⟨b, hb, rfl⟩ := List.mem_mapIdx.1 (show e ∈ c.b.mapIdx slB from he)
    show endB 3 2 ((slC c).n 2) 5 (slC c).b.length spA (c.b[b]).2 = true
    have e2' : (slC c).n 2 = 6 + 2 * (c.l.length : Int) := by rw [← e2]; rfl
    rw [e2', slC_len]
    exact (h.bs _ (List.getElem_mem hb)).fin.ok 2
theorem ren_chk {c : CdV} (h : MdOk c) (z : Bool) {p q : Int} (hp : 0 ≤ p ∧ p < (mkC z c).n 2) (hq : 0 ≤ q ∧ q < (mkC z c).n 2) : chkC (renC p q (mkC z c)) = 0 := by
  obtain ⟨g, s, hs, hg, hs8, hn⟩ := h.nums
  obtain ⟨m1, m2, m3, m4, m5, m6, m7⟩ := mk_b h z
  have m8 := mk_e h z
  have l3 := h.l3
  have b18 := h.b18
  have n0 : (mkC z c).n 0 = g ∧ (mkC z c).n 1 = s ∧ (mkC z c).n 4 = 3 := by
    cases z
    · exact ⟨by show c.n 0 = g; rw [hn]; rfl, by show c.n 1 = s; rw [hn]; rfl, by show c.n 4 = 3; rw [hn]; rfl⟩
    · exact ⟨by show c.n 0 = g; rw [hn]; rfl, by show c.n 1 = s; rw [hn]; rfl, by show c.n 4 = 3; rw [hn]; rfl⟩
  unfold renC
  rw [m1, chk_blocks (g := g) (s := s) (r := (mkC z c).n 2) (sl := (mkC z c).n 3) (p := 3) ⟨n0.1, n0.2.1, rfl, rfl, n0.2.2⟩ hs (by omega) (by omega) (by omega) (by omega) (by decide) (by decide) (by rw [List.length_map]; omega) (by rw [List.length_map, m2]; omega) (fun l hl => by
    obtain ⟨l0, h0, rfl⟩ := List.mem_map.1 hl
    rw [m2] at h0
    have hk := h.ls l0 h0
    unfold LOk at hk
    rw [← m4] at hk
    rw [List.length_map, m3]
    exact ⟨hk.1, rn_rng hp hq hk.2.1, hk.2.2⟩) (fun e he => by
    obtain ⟨e0, h0, rfl⟩ := List.mem_map.1 he
    have := (m7 e0 h0).1
    show (e0.1.map (renI p q)).length ≤ 30
    rw [List.length_map]
    omega)]
  rw [if_pos]
  rw [List.all_eq_true]
  intro j hj
  rw [List.length_map] at hj ⊢
  have hj' : j < (mkC z c).b.length := by simpa using hj
  have hg2 : ((mkC z c).b.map fun e => (e.1.map (renI p q), renT p q e.2)).getD j noB = (((mkC z c).b[j]).1.map (renI p q), renT p q ((mkC z c).b[j]).2) := by
    rw [List.getD_eq_getElem?_getD, List.getElem?_map, List.getElem?_eq_getElem hj']
    rfl
  unfold CdV.il CdV.is CdV.te blockB
  rw [hg2]
  simp only [Bool.and_eq_true, List.all_eq_true, List.mem_range, List.length_map]
  refine ⟨fun k hk => ?_, endB_ren hp hq (m8 _ (List.getElem_mem hj'))⟩
  have hi : ((((mkC z c).b[j]).1.map (renI p q)).getD k noI) = renI p q (((mkC z c).b[j]).1[k]) := by
    rw [List.getD_eq_getElem?_getD, List.getElem?_map, List.getElem?_eq_getElem hk]
    rfl
  rw [hi]
  exact instB_ren hp hq ((m7 _ (List.getElem_mem hj')).2 _ (List.getElem_mem hk))
/-- The same blocks are reached. -/
theorem ren_te (p q : Int) (c : CdV) (j : Nat) : succL ((renC p q c).te j) = succL (c.te j) := by
  unfold CdV.te renC
  rw [List.getD_eq_getElem?_getD, List.getD_eq_getElem?_getD, List.getElem?_map]
  cases c.b[j]? <;> rfl
theorem reachF_congr {n : Nat} {T T' : Nat → TermV} (h : ∀ j, succL (T j) = succL (T' j)) : ∀ (f : Nat) (R : Nat → Bool) (td : List Int), reachF n T f R td = reachF n T' f R td
  | 0, R, td => by unfold reachF; rfl
  | f + 1, R, td => by
    unfold reachF
    split
    · rfl
    · rw [h, reachF_congr h f, reachF_congr h f]
theorem ren_reach (p q : Int) (c : CdV) : reachC (renC p q c) = reachC c := by
  have hl : (renC p q c).b.length = c.b.length := List.length_map ..
  unfold reachC reachV
  rw [hl]
  exact reachF_congr (ren_te p q c) _ _ _
theorem st3 {W : World} {b : Nat} {T : TypeId} {c0 c1 c2 : Value} (hb : W.heap[b]? = some (.cells #[c0, c1, c2] T (0, 0))) (v0 v1 v2 : Value) :
    (((W.setCell ⟨b, 0, none⟩ v0).setCell ⟨b, 1, none⟩ v1).setCell ⟨b, 2, none⟩ v2).heap[b]? = some (.cells #[v0, v1, v2] T (0, 0)) := by
  have k0 : (W.setCell ⟨b, 0, none⟩ v0).heap[b]? = some (.cells #[v0, c1, c2] T (0, 0)) := heap_setCell_same _ b 0 _ T v0 hb
  have k1 : ((W.setCell ⟨b, 0, none⟩ v0).setCell ⟨b, 1, none⟩ v1).heap[b]? = some (.cells #[v0, v1, c2] T (0, 0)) := heap_setCell_same _ b 1 _ T v1 k0
  exact heap_setCell_same _ b 2 _ T v2 k1
set_option maxRecDepth 100000 in
set_option maxHeartbeats 2000000 in
theorem hasX_any (A : Option Addr) (n c : Nat) (f : Nat → Int) (x : Int) (w : World) (h : RI w w.heap.size A n f) (hn : n ≤ 65536) :
    Calls Tryz.prog 114 #[.slice A n c, .int .i64 x] w fun e w' => e = .returned (.bool ((List.range n).any fun j => f j == x)) ∧ Below w.heap.size w w' := by
  have HN := Lib.hid (fun (k : Nat) (hk : k < n) (e : f k = x) => show ((List.range n).any fun j => f j == x) = true from List.any_eq_true.2 ⟨k, by simpa using hk, by simpa using e⟩)
  have HT := Lib.hid (fun (h1 : ∀ j, j < n → f j ≠ x) => show ((List.range n).any fun j => f j == x) = false from by
    rw [Bool.eq_false_iff]
    intro hh
    obtain ⟨j, hj, e⟩ := List.any_eq_true.1 hh
    exact h1 j (by simpa using hj) (by simpa using e))
  obtain ⟨res, hres⟩ : ∃ res, ((List.range n).any fun j => f j == x) = res := ⟨_, rfl⟩
  rw [hres] at HN HT ⊢
  have HH := Lib.hid h
  clear h hres
  go_enter Tryz.func114, Tryz.ntmps114
  go_wp2
  go_loopw [5] (fun i wr => ∃ k : Nat, k ≤ n ∧ i = .int .i64 k ∧ Hid (∀ j, j < k → f j ≠ x) ∧ Hid (Below w.heap.size w wr)) (fun i _ => n - (intOf i).toNat)
  case atStart => exact ⟨0, Nat.zero_le _, rfl, Lib.hid (fun j hj => absurd hj (by omega)), Lib.hid (Below.refl _ _)⟩
  case round =>
    obtain ⟨k, hk, rfl, HJ, HB⟩ := hrel
    by_cases hlt : k < n
    · obtain ⟨b, off, hA, hb, hc⟩ := (HH.out.below HB.out) (by omega)
      have m0 := hc k hlt
      subst hA
      have hki : (k : Int) < (n : Int) := by omega
      by_cases he : f k = x
      · have e1 : (f k == x) = true := by simpa using he
        have HR := Lib.hid (HN.out k hlt he)
        go_wp2
        go_ret
        exact ⟨by rw [HR.out]; rfl, HB.out⟩
      · have e1 : (f k == x) = false := by simpa using he
        have HE := Lib.hid he
        go_wp2
        go_roundw
        case rel => exact ⟨k + 1, by omega, by go_num, Lib.hid (fun j hj => by
          by_cases hjk : j = k
          · subst hjk
            exact HE.out
          · exact HJ.out j (by omega)), HB⟩
        case measure => simp [intOf]; omega
    · have HR := Lib.hid (HT.out (fun j hj => HJ.out j (by omega)))
      go_wp2
      go_ret
      exact ⟨by rw [HR.out]; rfl, HB.out⟩
set_option maxRecDepth 100000 in
set_option maxHeartbeats 2000000 in
theorem renamed_x (k n v p q : Int) (w : World) : Calls Tryz.prog 39 #[.agg #[.int .i64 k, .int .i64 n, .int .i32 v], .int .i64 p, .int .i64 q] w fun e w' => (∃ k' n' v', (k = 2 ∧ n = p → k' = 2 ∧ n' = q ∧ v' = 0) ∧ (k = 2 ∧ n ≠ p ∧ n = q → k' = 2 ∧ n' = p ∧ v' = 0) ∧ (¬ (k = 2 ∧ (n = p ∨ n = q)) → k' = k ∧ n' = n ∧ v' = v) ∧ e = .returned (.agg #[.int .i64 k', .int .i64 n', .int .i32 v'])) ∧ Below w.heap.size w w' := by
  have hB0 : Below w.heap.size w ((w.alloc (.cells #[.int .i64 k, .int .i64 n, .int .i32 v] 27)).alloc (.cells #[.int .i64 0, .int .i64 0, .int .i32 0] 27)) := ((Below.refl _ _).alloc (Nat.le_refl _) _).alloc (by simp) _
  have hr0 : ((w.alloc (.cells #[.int .i64 k, .int .i64 n, .int .i32 v] 27)).alloc (.cells #[.int .i64 0, .int .i64 0, .int .i32 0] 27)).heap[w.heap.size + 1]? = some (.cells #[.int .i64 0, .int .i64 0, .int .i32 0] 27 (0, 0)) := by
    have := heap_alloc_new (w.alloc (.cells #[.int .i64 k, .int .i64 n, .int .i32 v] 27)) (.cells #[.int .i64 0, .int .i64 0, .int .i32 0] 27)
    rwa [World.size_alloc] at this
  have HB0 := Lib.hid hB0
  have HR0 := Lib.hid hr0
  have HST := Lib.hid (fun (W : World) (k n v : Int) (hW : W.heap[w.heap.size + 1]? = some (.cells #[.int .i64 0, .int .i64 0, .int .i32 0] 27 (0, 0))) => st3 hW (.int .i64 k) (.int .i64 n) (.int .i32 v))
  clear hB0 hr0
  go_enter Tryz.func39, Tryz.ntmps39
  by_cases hk : k = 2
  · have e0 : (k == 2) = true := by simpa using hk
    by_cases hn : n = p
    · have e1 : (n == p) = true := by simpa using hn
      have HF := Lib.hid (And.intro hk hn)
      clear hk hn
      go_wp2_with (first
        | (go_at_call 40; (with_reducible refine (Reg_any _ _).mono ?_); rintro e w1 ⟨rfl, hb1⟩; have hr1 := (hb1.block _ (Array.getElem?_eq_some_iff.1 HR0.out).1).trans HR0.out; have HB1 := Lib.hid (HB0.out.trans (hb1.mono HB0.out.size)); have rf := fun o => frozen_of_row _ _ o _ _ hr1; have r0 := cell_blk hr1 (i := 0) rfl; have r1 := cell_blk hr1 (i := 1) rfl; have r2 := cell_blk hr1 (i := 2) rfl; have HS1 := Lib.hid (HST.out w1 2 q 0 hr1); clear hb1 hr1))
      have s0 := cell_blk HS1.out (i := 0) rfl
      have s1 := cell_blk HS1.out (i := 1) rfl
      have s2 := cell_blk HS1.out (i := 2) rfl
      refine bodyPost_ret (v := .agg #[.int .i64 2, .int .i64 q, .int .i32 0]) (by simp [results, Tryz.results39, go_sem, s0, s1, s2]) rfl ?_
      exact ⟨⟨2, q, 0, fun _ => ⟨rfl, rfl, rfl⟩, fun hh => absurd HF.out.2 hh.2.1, fun hh => absurd ⟨HF.out.1, .inl HF.out.2⟩ hh, rfl⟩, ((HB1.out.setCell (by simp) _).setCell (by simp) _).setCell (by simp) _⟩
    · have e1 : (n == p) = false := by simpa using hn
      by_cases hq : n = q
      · have e2 : (n == q) = true := by simpa using hq
        have HF := Lib.hid (And.intro hk (And.intro hn hq))
        clear hk hn hq
        go_wp2_with (first
          | (go_at_call 40; (with_reducible refine (Reg_any _ _).mono ?_); rintro e w1 ⟨rfl, hb1⟩; have hr1 := (hb1.block _ (Array.getElem?_eq_some_iff.1 HR0.out).1).trans HR0.out; have HB1 := Lib.hid (HB0.out.trans (hb1.mono HB0.out.size)); have rf := fun o => frozen_of_row _ _ o _ _ hr1; have r0 := cell_blk hr1 (i := 0) rfl; have r1 := cell_blk hr1 (i := 1) rfl; have r2 := cell_blk hr1 (i := 2) rfl; have HS1 := Lib.hid (HST.out w1 2 p 0 hr1); clear hb1 hr1))
        have s0 := cell_blk HS1.out (i := 0) rfl
        have s1 := cell_blk HS1.out (i := 1) rfl
        have s2 := cell_blk HS1.out (i := 2) rfl
        refine bodyPost_ret (v := .agg #[.int .i64 2, .int .i64 p, .int .i32 0]) (by simp [results, Tryz.results39, go_sem, s0, s1, s2]) rfl ?_
        exact ⟨⟨2, p, 0, fun hh => absurd hh.2 HF.out.2.1, fun _ => ⟨rfl, rfl, rfl⟩, fun hh => absurd ⟨HF.out.1, .inr HF.out.2.2⟩ hh, rfl⟩, ((HB1.out.setCell (by simp) _).setCell (by simp) _).setCell (by simp) _⟩
      · have e2 : (n == q) = false := by simpa using hq
        have HF := Lib.hid (And.intro hn hq)
        have HS1 := Lib.hid (HST.out _ k n v HR0.out)
        clear hk hn hq
        go_wp2
        have s0 := cell_blk HS1.out (i := 0) rfl
        have s1 := cell_blk HS1.out (i := 1) rfl
        have s2 := cell_blk HS1.out (i := 2) rfl
        refine bodyPost_ret (v := .agg #[.int .i64 k, .int .i64 n, .int .i32 v]) (by simp [results, Tryz.results39, go_sem, s0, s1, s2]) rfl ?_
        exact ⟨⟨k, n, v, fun hh => absurd hh.2 HF.out.1, fun hh => absurd hh.2.2 HF.out.2, fun _ => ⟨rfl, rfl, rfl⟩, rfl⟩, ((Below.refl _ _).alloc (Nat.le_refl _) _).alloc (by simp) _⟩
  · have e0 : (k == 2) = false := by simpa using hk
    have HF := Lib.hid hk
    have HS1 := Lib.hid (HST.out _ k n v HR0.out)
    clear hk
    go_wp2
    have s0 := cell_blk HS1.out (i := 0) rfl
    have s1 := cell_blk HS1.out (i := 1) rfl
    have s2 := cell_blk HS1.out (i := 2) rfl
    refine bodyPost_ret (v := .agg #[.int .i64 k, .int .i64 n, .int .i32 v]) (by simp [results, Tryz.results39, go_sem, s0, s1, s2]) rfl ?_
    exact ⟨⟨k, n, v, fun hh => absurd hh.1 HF.out, fun hh => absurd hh.1 HF.out, fun _ => ⟨rfl, rfl, rfl⟩, rfl⟩, ((Below.refl _ _).alloc (Nat.le_refl _) _).alloc (by simp) _⟩
theorem renamed_any (o : OpdV) (p q : Int) (w : World) : Calls Tryz.prog 39 #[.agg #[.int .i64 o.k, .int .i64 o.n, .int .i32 o.v], .int .i64 p, .int .i64 q] w fun e w' => e = .returned (.agg #[.int .i64 (ren p q o).k, .int .i64 (ren p q o).n, .int .i32 (ren p q o).v]) ∧ Below w.heap.size w w' := by
  refine (renamed_x o.k o.n o.v p q w).mono ?_
  rintro e w' ⟨⟨k', n', v', h1, h2, h3, rfl⟩, hb⟩
  refine ⟨?_, hb⟩
  unfold ren
  by_cases hp : o.k = 2 ∧ o.n = p
  · obtain ⟨rfl, rfl, rfl⟩ := h1 hp
    rw [if_pos hp]
  · rw [if_neg hp]
    by_cases hq : o.k = 2 ∧ o.n = q
    · obtain ⟨rfl, rfl, rfl⟩ := h2 ⟨hq.1, fun e => hp ⟨hq.1, e⟩, hq.2⟩
      rw [if_pos hq]
    · obtain ⟨rfl, rfl, rfl⟩ := h3 (fun hh => hh.2.elim (fun e => hp ⟨hh.1, e⟩) (fun e => hq ⟨hh.1, e⟩))
      rw [if_neg hq]
def ivs (xs : List Int) : List Value := xs.map fun z => .int .i64 z
theorem ivs_len (xs : List Int) : (ivs xs).length = xs.length := List.length_map ..
theorem ivs_one (xs : List Int) : ∀ u, u ∈ ivs xs → u.oneCell' = true := by
  intro u hu
  obtain ⟨z, _, rfl⟩ := List.mem_map.1 hu
  rfl
/-- A slice of integers of the call's own. -/
def RowI (W : World) (base : Nat) (v : Value) (xs : List Int) : Prop := ∃ g cap, v = .slice (some ⟨g, 0, none⟩) xs.length cap ∧ W.ownsRow base 3 1 v xs.length (ivs xs)
theorem added_eq {xs : List Int} {x : Int} {k : Nat} (hk : k ≤ xs.length) (h1 : ∀ j, j < k → xs.getD j 0 < x) (h2 : ∀ h : k < xs.length, ¬ xs.getD k 0 < x) (hx : ¬ x ∈ xs) : addI xs x = xs.take k ++ x :: xs.drop k := by
  unfold addI
  rw [if_neg hx]
  have key : ∀ (xs : List Int) (k : Nat), k ≤ xs.length → (∀ j, j < k → xs.getD j 0 < x) → (∀ h : k < xs.length, ¬ xs.getD k 0 < x) → xs.takeWhile (· < x) = xs.take k ∧ xs.dropWhile (· < x) = xs.drop k := by
    intro xs
    induction xs with
    | nil => intro k hk _ _; simp at hk; subst hk; exact ⟨rfl, rfl⟩
    | cons z xs ih =>
      intro k hk h1 h2
      cases k with
      | zero =>
        have := h2 (by simp)
        rw [List.takeWhile_cons_of_neg (by simpa using this), List.dropWhile_cons_of_neg (by simpa using this)]
        exact ⟨rfl, rfl⟩
      | succ k =>
        have h0 := h1 0 (by omega)
        obtain ⟨e1, e2⟩ := ih k (by simpa using hk) (fun j hj => by have := h1 (j + 1) (by omega); simpa using this) (fun h => by have := h2 (by simpa using h); simpa using this)
        rw [List.takeWhile_cons_of_pos (by simpa using h0), List.dropWhile_cons_of_pos (by simpa using h0), e1, e2]
        exact ⟨rfl, rfl⟩
  obtain ⟨e1, e2⟩ := key xs k hk h1 h2
  rw [e1, e2]
theorem one_at {w : World} {b : Nat} {v : Value} (h : w.cell? ⟨b, 0, none⟩ = some v) : ∀ (j : Nat) (u : Value), ([v] : List Value)[j]? = some u → w.cell? ((⟨b, 0, none⟩ : Addr).add j) = some u := by
  intro j u hj
  match j, hj with
  | 0, hj =>
    simp only [List.getElem?_cons_zero, Option.some.injEq] at hj
    subst hj
    exact h
/-- Two new blocks, the literal first, or the one value first. -/
theorem two_a (W : World) (x : Value) : ((W.alloc (.cells #[] 3)).drew.alloc (.cells #[x] 3)).cell? ⟨W.heap.size + 1, 0, none⟩ = some x := by
  have h : ((W.alloc (.cells #[] 3)).drew.alloc (.cells #[x] 3)).heap[(W.alloc (.cells #[] 3)).drew.heap.size]? = some (.cells #[x] 3 (0, 0)) := heap_alloc_new _ _
  have e : (W.alloc (.cells #[] 3)).drew.heap.size = W.heap.size + 1 := World.size_alloc _ _
  rw [e] at h
  exact cell_blk h (i := 0) rfl
theorem two_b (W : World) (x : Value) : ((W.alloc (.cells #[x] 3)).drew.alloc (.cells #[] 3)).cell? ⟨W.heap.size, 0, none⟩ = some x ∧ ((W.alloc (.cells #[x] 3)).drew.alloc (.cells #[] 3)).ownsRow W.heap.size 3 1 (.slice (some ⟨W.heap.size + 1, 0, none⟩) 0 0) 0 [] := by
  have h : (W.alloc (.cells #[x] 3)).heap[W.heap.size]? = some (.cells #[x] 3 (0, 0)) := heap_alloc_new _ _
  have e : (W.alloc (.cells #[x] 3)).drew.heap.size = W.heap.size + 1 := World.size_alloc _ _
  refine ⟨cell_blk ((Below.heap_alloc (W.alloc (.cells #[x] 3)).drew _ _ (by rw [e]; exact Nat.lt_succ_self _)).trans h) (i := 0) rfl, ?_⟩
  have h2 := World.ownsRow_made (base := W.heap.size) (e := 3) (size := 1) (W.alloc (.cells #[x] 3)).drew #[] 0 (by rw [e]; exact Nat.le_succ _) (by decide) (by simp)
  rw [e] at h2
  exact h2
set_option maxRecDepth 100000 in
set_option maxHeartbeats 3000000 in
theorem added_any (base g cap : Nat) (xs : List Int) (x : Int) (w : World) (hb : base ≤ w.heap.size) (h : w.ownsRow base 3 1 (.slice (some ⟨g, 0, none⟩) xs.length cap) xs.length (ivs xs)) (hn : xs.length ≤ 100) :
    Calls Tryz.prog 75 #[.slice (some ⟨g, 0, none⟩) xs.length cap, .int .i64 x] w fun e w' => (∃ v, e = .returned v ∧ RowI w' base v (addI xs x)) ∧ Below w.heap.size w w' := by
  obtain ⟨iI, hI, hI0, hI1, hI2⟩ := info_parts infoInt3
  have HH := Lib.hid h
  have hri : RI w w.heap.size (some ⟨g, 0, none⟩) xs.length (fun j => xs.getD j 0) := fun hn0 => by
    obtain ⟨h1, h2⟩ := h.lt g rfl
    refine ⟨g, 0, rfl, h2, fun j hj => ?_⟩
    rw [Nat.zero_add, h.cellAt j (by omega)]
    unfold ivs
    rw [List.getElem?_map, List.getElem?_eq_getElem hj]
    show some (Value.int .i64 xs[j]) = some (Value.int .i64 (xs.getD j 0))
    rw [List.getD_eq_getElem?_getD, List.getElem?_eq_getElem hj]
    rfl
  have HR := Lib.hid hri
  have hcap : xs.length ≤ cap := by
    rcases h.2 with ⟨e, _⟩ | ⟨g', cap', cur, e, _, _, hc, _⟩
    · cases e
    · simp only [Value.slice.injEq] at e
      rw [e.2.2]
      exact hc
  have HHas := Lib.hid (hasX_any (some ⟨g, 0, none⟩) xs.length cap (fun j => xs.getD j 0) x w hri (by omega))
  have hany : ((List.range xs.length).any fun j => xs.getD j 0 == x) = decide (x ∈ xs) := by
    rw [Bool.eq_iff_iff, List.any_eq_true, decide_eq_true_eq]
    constructor
    · rintro ⟨j, hj, e⟩
      have hj' : j < xs.length := by simpa using hj
      have : xs.getD j 0 = x := by simpa using e
      rw [List.getD_eq_getElem?_getD, List.getElem?_eq_getElem hj'] at this
      rw [← this]
      exact List.getElem_mem hj'
    · intro hx
      obtain ⟨j, hj, e⟩ := List.mem_iff_getElem.1 hx
      refine ⟨j, by simpa using hj, ?_⟩
      rw [List.getD_eq_getElem?_getD, List.getElem?_eq_getElem hj]
      simpa using e
  rw [hany] at HHas
  clear h hri hany
  go_enter Tryz.func75, Tryz.ntmps75
  by_cases hx : x ∈ xs
  · have HX := Lib.hid hx
    rw [decide_eq_true hx] at HHas
    clear hx
    go_wp2_with (first
      | (go_at_call 114; (with_reducible refine HHas.out.mono ?_); rintro e w1 ⟨rfl, hb1⟩; have HB1 := Lib.hid hb1; clear hb1))
    go_ret
    refine ⟨⟨_, rfl, ?_⟩, HB1.out⟩
    have e : addI xs x = xs := if_pos HX.out
    rw [e]
    exact ⟨g, cap, rfl, row_kept HH.out (kept_below HB1.out (fun _ => True)) trivial⟩
  · have HX := Lib.hid hx
    rw [decide_eq_false hx] at HHas
    clear hx
    go_upto_region 4 with (first
      | (go_at_call 114; (with_reducible refine HHas.out.mono ?_); rintro e w1 ⟨rfl, hb1⟩; have HB1 := Lib.hid hb1; clear hb1))
    obtain ⟨n, hnn⟩ : ∃ n, xs.length = n := ⟨_, rfl⟩
    rw [hnn] at hn hcap ⊢
    rw [hnn] at HH
    have HNN := Lib.hid hnn
    clear hnn
    go_loopw [5] (fun i wr => ∃ k : Nat, k ≤ n ∧ i = .int .i64 k ∧ Hid (∀ j, j < k → xs.getD j 0 < x) ∧ wr = w1) (fun i _ => n - (intOf i).toNat)
    case atStart => exact ⟨0, Nat.zero_le _, rfl, Lib.hid (fun j hj => absurd hj (by omega)), rfl⟩
    case round =>
      obtain ⟨k, hk, rfl, HJ, rfl⟩ := hrel
      by_cases hc : ∃ h : k < n, xs.getD k 0 < x
      · obtain ⟨hlt, hx2⟩ := hc
        have hrow := row_kept HH.out (kept_below HB1.out (fun _ => True)) trivial
        have hkx : k < xs.length := by rw [HNN.out]; exact hlt
        have m0 : wr.cell? ⟨g, k, none⟩ = some (.int .i64 (xs.getD k 0)) := by
          rw [hrow.cellAt k (by omega)]
          unfold ivs
          rw [List.getElem?_map, List.getElem?_eq_getElem hkx, List.getD_eq_getElem?_getD, List.getElem?_eq_getElem hkx]
          rfl
        have hki : (k : Int) < (n : Int) := by omega
        have HJ2 := Lib.hid (fun j (hj : j < k + 1) => show xs.getD j 0 < x from by
          by_cases hjk : j = k
          · subst hjk; exact hx2
          · exact HJ.out j (by omega))
        obtain ⟨y, hy⟩ : ∃ y, xs.getD k 0 = y := ⟨_, rfl⟩
        rw [hy] at m0 hx2
        clear hrow hy
        go_wp2
        go_roundw
        case rel => exact ⟨k + 1, by omega, by go_num, HJ2, by first | exact trivial | rfl⟩
        case measure => simp [intOf]; omega
      · have HX3 := Lib.hid (fun (h : k < xs.length) => show ¬ xs.getD k 0 < x from fun h2 => hc ⟨by rw [← HNN.out]; exact h, h2⟩)
        have HB2 := Lib.hid (kept_below HB1.out (fun _ => True))
        have HRW := Lib.hid (row_kept HH.out HB2.out trivial)
        have HS1 : Hid (∀ W, Below wr.heap.size wr W → Src W (some ⟨g, 0, none⟩) k 1 (ivs (xs.take k))) := Lib.hid (fun W hW => by
          have hr := row_kept HRW.out (kept_below hW (fun _ => True)) trivial
          refine ⟨by rw [ivs_len, List.length_take, HNN.out]; omega, ivs_one _, fun _ => ⟨_, rfl, fun j u hj => hr.cells rfl j u ?_⟩⟩
          have e : ivs (xs.take k) = (ivs xs).take k := List.map_take
          rw [e, List.getElem?_take] at hj
          split at hj
          · exact hj
          · cases hj)
        have HS2 : Hid (∀ W, Below wr.heap.size wr W → Src W (some ⟨g, k, none⟩) (n - k) 1 (ivs (xs.drop k))) := Lib.hid (fun W hW => by
          have hr := row_kept HRW.out (kept_below hW (fun _ => True)) trivial
          refine ⟨by rw [ivs_len, List.length_drop, HNN.out]; omega, ivs_one _, fun _ => ⟨_, rfl, fun j u hj => ?_⟩⟩
          have e : ivs (xs.drop k) = (ivs xs).drop k := List.map_drop
          rw [e, List.getElem?_drop] at hj
          have hlt := (List.getElem?_eq_some_iff.1 hj).1
          rw [ivs_len, HNN.out] at hlt
          rw [Addr.add_mid, hr.cellAt _ (by omega)]
          exact hj)
        have HFN := Lib.hid (fun h1 => added_eq (x := x) (by rw [HNN.out]; exact hk) HJ.out h1 HX.out)
        by_cases hlt : k < n
        · have hkx : k < xs.length := by rw [HNN.out]; exact hlt
          have m0 : wr.cell? ⟨g, k, none⟩ = some (.int .i64 (xs.getD k 0)) := by
            rw [HRW.out.cellAt k (by omega)]
            unfold ivs
            rw [List.getElem?_map, List.getElem?_eq_getElem hkx, List.getD_eq_getElem?_getD, List.getElem?_eq_getElem hkx]
            rfl
          have hki : (k : Int) < (n : Int) := by omega
          have hkc : (k : Int) ≤ (cap : Int) := by omega
          have hkn : (k : Int) ≤ (n : Int) := by omega
          have hk0 : (0 : Int) ≤ (k : Int) := by omega
          have hck : ¬ cap = k := by omega
          have hx2 : ¬ xs.getD k 0 < x := fun hh => hc ⟨hlt, hh⟩
          obtain ⟨y, hy⟩ : ∃ y, xs.getD k 0 = y := ⟨_, rfl⟩
          rw [hy] at m0 hx2
          clear hy hc
          go_upto_region 6 with (fail)
          go_region_held3 (fun w' => Below wr.heap.size wr w') ((repeat' (first | assumption | exact Below.refl _ _ | exact HB8.out | exact HB9.out | exact HB10.out | with_reducible apply below_drewS | with_reducible apply below_allocS))) (first
            | (refine step_append_src (by rfl) _ _ 57 (by rfl) wr.heap.size 3 iI _ 1 8 Tryz.underlying57 hI hI0 hI1 hI2 rfl (by decide) (.slice (some ⟨wr.heap.size, 0, none⟩) 0 0) 0 [] (by rfl) (lit_ownD 3 1 (Below.refl _ wr)) (some ⟨g, 0, none⟩) k cap (ivs (xs.take k)) (by rfl) (HS1.out _ (below_drewS (below_allocS (Below.refl _ wr)))) (by unfold maxLen; omega) (by omega) (below_drewS (below_allocS (Below.refl _ wr))).size ?_; intro v1 w1 hown1 hg1; have HB8 := Lib.hid (grow_below (below_drewS (below_allocS (Below.refl _ wr))) (lit_ownD 3 1 (Below.refl _ wr)) hg1 (Nat.le_refl _) (Nat.le_refl _)); rw [Nat.zero_add, List.nil_append] at hown1; obtain ⟨A1, c1, rfl, _⟩ := own_cells hown1; have HO1 := Lib.hid hown1; clear hown1 hg1)
            | (refine step_append_src (by rfl) _ _ 57 (by rfl) wr.heap.size 3 iI _ 1 8 Tryz.underlying57 hI hI0 hI1 hI2 rfl (by decide) (.slice (some ⟨wr.heap.size, 0, none⟩) 0 0) 0 [] (by rfl) (row_kept (lit_ownD 3 1 (Below.refl _ wr)) (kept_below ((Below.refl _ _).alloc (Nat.le_refl _) (.cells #[.int .i64 x] 3)) (fun _ => True)) trivial) (some ⟨g, 0, none⟩) k cap (ivs (xs.take k)) (by rfl) (HS1.out _ (below_allocS (below_drewS (below_allocS (Below.refl _ wr))))) (by unfold maxLen; omega) (by omega) (below_allocS (o := .cells #[.int .i64 x] 3) (below_drewS (below_allocS (o := .cells #[] 3) (Below.refl _ wr)))).size ?_; intro v1 w1 hown1 hg1; have HC1 := Lib.hid (hg1.cell (two_a wr (.int .i64 x)) (by simp [Value.ownBlock])); have HB8 := Lib.hid (grow_below (below_allocS (below_drewS (below_allocS (Below.refl _ wr)))) (row_kept (lit_ownD 3 1 (Below.refl _ wr)) (kept_below ((Below.refl _ _).alloc (Nat.le_refl _) (.cells #[.int .i64 x] 3)) (fun _ => True)) trivial) hg1 (Nat.le_refl _) (Nat.le_refl _)); rw [Nat.zero_add, List.nil_append] at hown1; obtain ⟨A1, c1, rfl, _⟩ := own_cells hown1; have HO1 := Lib.hid hown1; clear hown1 hg1)
            | (refine step_append_src (by rfl) _ _ 57 (by rfl) wr.heap.size 3 iI _ 1 8 Tryz.underlying57 hI hI0 hI1 hI2 rfl (by decide) (.slice (some ⟨wr.heap.size + 1, 0, none⟩) 0 0) 0 [] (by rfl) (two_b wr (.int .i64 x)).2 (some ⟨g, 0, none⟩) k cap (ivs (xs.take k)) (by rfl) (HS1.out _ (below_allocS (below_drewS (below_allocS (Below.refl _ wr))))) (by unfold maxLen; omega) (by omega) (below_allocS (o := .cells #[] 3) (below_drewS (below_allocS (o := .cells #[.int .i64 x] 3) (Below.refl _ wr)))).size ?_; intro v1 w1 hown1 hg1; have HC1 := Lib.hid (hg1.cell (two_b wr (.int .i64 x)).1 (by simp [Value.ownBlock])); have HB8 := Lib.hid (grow_below (below_allocS (below_drewS (below_allocS (Below.refl _ wr)))) (two_b wr (.int .i64 x)).2 hg1 (Nat.le_refl _) (Nat.le_refl _)); rw [Nat.zero_add, List.nil_append] at hown1; obtain ⟨A1, c1, rfl, _⟩ := own_cells hown1; have HO1 := Lib.hid hown1; clear hown1 hg1)
            | (refine step_append_own (by rfl) _ _ 57 (by rfl) wr.heap.size 3 iI _ 1 8 Tryz.underlying57 hI hI0 hI1 hI2 rfl (by decide) (.slice A1 k c1) k (ivs (xs.take k)) (by rfl) HO1.out ⟨wr.heap.size + 1, 0, none⟩ 1 1 [.int .i64 x] (by rfl) (by rfl) (one_at HC1.out) (by simp [Value.oneCell']) (by unfold maxLen; omega) (by omega) HB8.out.size ?_; intro v2 w2 hown2 hg2 _; have HB9 := Lib.hid (grow_below HB8.out HO1.out hg2 (Nat.le_refl _) (Nat.le_refl _)); obtain ⟨A2, c2, rfl, _⟩ := own_cells hown2; have HO2 := Lib.hid hown2; clear hown2 hg2)
            | (refine step_append_own (by rfl) _ _ 57 (by rfl) wr.heap.size 3 iI _ 1 8 Tryz.underlying57 hI hI0 hI1 hI2 rfl (by decide) (.slice A1 k c1) k (ivs (xs.take k)) (by rfl) HO1.out ⟨wr.heap.size, 0, none⟩ 1 1 [.int .i64 x] (by rfl) (by rfl) (one_at HC1.out) (by simp [Value.oneCell']) (by unfold maxLen; omega) (by omega) HB8.out.size ?_; intro v2 w2 hown2 hg2 _; have HB9 := Lib.hid (grow_below HB8.out HO1.out hg2 (Nat.le_refl _) (Nat.le_refl _)); obtain ⟨A2, c2, rfl, _⟩ := own_cells hown2; have HO2 := Lib.hid hown2; clear hown2 hg2)
            | (refine step_append_own (by rfl) _ _ 57 (by rfl) wr.heap.size 3 iI _ 1 8 Tryz.underlying57 hI hI0 hI1 hI2 rfl (by decide) (.slice A1 k c1) k (ivs (xs.take k)) (by rfl) (row_kept HO1.out (kept_below ((Below.refl _ _).alloc (Nat.le_refl _) _) (fun _ => True)) trivial) ⟨w1.heap.size, 0, none⟩ 1 1 [.int .i64 x] (by rfl) (by rfl) (row_new w1 #[.int .i64 x] 3) (by simp [Value.oneCell']) (by unfold maxLen; omega) (by omega) (Nat.le_trans HB8.out.size (by simp)) ?_; intro v2 w2 hown2 hg2 _; have HB9 := Lib.hid (grow_below (HB8.out.alloc HB8.out.size _) (row_kept HO1.out (kept_below ((Below.refl _ _).alloc (Nat.le_refl _) _) (fun _ => True)) trivial) hg2 (Nat.le_refl _) (Nat.le_refl _)); obtain ⟨A2, c2, rfl, _⟩ := own_cells hown2; have HO2 := Lib.hid hown2; clear hown2 hg2)
            | (refine step_append_src (by rfl) _ _ 57 (by rfl) wr.heap.size 3 iI _ 1 8 Tryz.underlying57 hI hI0 hI1 hI2 rfl (by decide) (.slice A2 (k + 1) c2) (k + 1) (ivs (xs.take k) ++ [.int .i64 x]) (by rfl) HO2.out (some ⟨g, k, none⟩) (n - k) (cap - k) (ivs (xs.drop k)) (by rfl) (HS2.out _ HB9.out) (by unfold maxLen; omega) (by omega) HB9.out.size ?_; intro v3 w3 hown3 hg3; have HB10 := Lib.hid (grow_below HB9.out HO2.out hg3 (Nat.le_refl _) (Nat.le_refl _)); have HO3 := Lib.hid hown3; clear hown3 hg3))
          all_goals
            have e := HFN.out HX3.out
            have hl : (addI xs x).length = k + 1 + (n - k) := by
              rw [e, List.length_append, List.length_cons, List.length_take, List.length_drop, HNN.out]
              omega
            have hi : ivs (addI xs x) = ivs (xs.take k) ++ [.int .i64 x] ++ ivs (xs.drop k) := by
              rw [e]
              simp [ivs]
            obtain ⟨g3, cap3, rfl, _, _⟩ := HO3.out.form (by omega)
            have HHL := Lib.hid hl
            have HHI := Lib.hid hi
            clear e hl hi
            go_wp2
            go_ret
            refine ⟨⟨.slice (some ⟨g3, 0, none⟩) (k + 1 + (n - k)) cap3, rfl, g3, cap3, by rw [HHL.out], ?_⟩, HB1.out.trans (HB10.out.mono HB1.out.size)⟩
            rw [HHL.out, HHI.out]
            exact HO3.out.mono (Nat.le_trans hb HB1.out.size)
        · obtain rfl : k = n := by omega
          clear hc
          have hkc : (k : Int) ≤ (cap : Int) := by omega
          have hkn : (k : Int) ≤ (k : Int) := by omega
          have hk0 : (0 : Int) ≤ (k : Int) := by omega
          go_upto_region 6 with (fail)
          go_region_held3 (fun w' => Below wr.heap.size wr w') ((repeat' (first | assumption | exact Below.refl _ _ | exact HB8.out | exact HB9.out | exact HB10.out | with_reducible apply below_drewS | with_reducible apply below_allocS))) (first
            | (refine step_append_src (by rfl) _ _ 57 (by rfl) wr.heap.size 3 iI _ 1 8 Tryz.underlying57 hI hI0 hI1 hI2 rfl (by decide) (.slice (some ⟨wr.heap.size, 0, none⟩) 0 0) 0 [] (by rfl) (lit_ownD 3 1 (Below.refl _ wr)) (some ⟨g, 0, none⟩) k cap (ivs (xs.take k)) (by rfl) (HS1.out _ (below_drewS (below_allocS (Below.refl _ wr)))) (by unfold maxLen; omega) (by omega) (below_drewS (below_allocS (Below.refl _ wr))).size ?_; intro v1 w1 hown1 hg1; have HB8 := Lib.hid (grow_below (below_drewS (below_allocS (Below.refl _ wr))) (lit_ownD 3 1 (Below.refl _ wr)) hg1 (Nat.le_refl _) (Nat.le_refl _)); rw [Nat.zero_add, List.nil_append] at hown1; obtain ⟨A1, c1, rfl, _⟩ := own_cells hown1; have HO1 := Lib.hid hown1; clear hown1 hg1)
            | (refine step_append_src (by rfl) _ _ 57 (by rfl) wr.heap.size 3 iI _ 1 8 Tryz.underlying57 hI hI0 hI1 hI2 rfl (by decide) (.slice (some ⟨wr.heap.size, 0, none⟩) 0 0) 0 [] (by rfl) (row_kept (lit_ownD 3 1 (Below.refl _ wr)) (kept_below ((Below.refl _ _).alloc (Nat.le_refl _) (.cells #[.int .i64 x] 3)) (fun _ => True)) trivial) (some ⟨g, 0, none⟩) k cap (ivs (xs.take k)) (by rfl) (HS1.out _ (below_allocS (below_drewS (below_allocS (Below.refl _ wr))))) (by unfold maxLen; omega) (by omega) (below_allocS (o := .cells #[.int .i64 x] 3) (below_drewS (below_allocS (o := .cells #[] 3) (Below.refl _ wr)))).size ?_; intro v1 w1 hown1 hg1; have HC1 := Lib.hid (hg1.cell (two_a wr (.int .i64 x)) (by simp [Value.ownBlock])); have HB8 := Lib.hid (grow_below (below_allocS (below_drewS (below_allocS (Below.refl _ wr)))) (row_kept (lit_ownD 3 1 (Below.refl _ wr)) (kept_below ((Below.refl _ _).alloc (Nat.le_refl _) (.cells #[.int .i64 x] 3)) (fun _ => True)) trivial) hg1 (Nat.le_refl _) (Nat.le_refl _)); rw [Nat.zero_add, List.nil_append] at hown1; obtain ⟨A1, c1, rfl, _⟩ := own_cells hown1; have HO1 := Lib.hid hown1; clear hown1 hg1)
            | (refine step_append_src (by rfl) _ _ 57 (by rfl) wr.heap.size 3 iI _ 1 8 Tryz.underlying57 hI hI0 hI1 hI2 rfl (by decide) (.slice (some ⟨wr.heap.size + 1, 0, none⟩) 0 0) 0 [] (by rfl) (two_b wr (.int .i64 x)).2 (some ⟨g, 0, none⟩) k cap (ivs (xs.take k)) (by rfl) (HS1.out _ (below_allocS (below_drewS (below_allocS (Below.refl _ wr))))) (by unfold maxLen; omega) (by omega) (below_allocS (o := .cells #[] 3) (below_drewS (below_allocS (o := .cells #[.int .i64 x] 3) (Below.refl _ wr)))).size ?_; intro v1 w1 hown1 hg1; have HC1 := Lib.hid (hg1.cell (two_b wr (.int .i64 x)).1 (by simp [Value.ownBlock])); have HB8 := Lib.hid (grow_below (below_allocS (below_drewS (below_allocS (Below.refl _ wr)))) (two_b wr (.int .i64 x)).2 hg1 (Nat.le_refl _) (Nat.le_refl _)); rw [Nat.zero_add, List.nil_append] at hown1; obtain ⟨A1, c1, rfl, _⟩ := own_cells hown1; have HO1 := Lib.hid hown1; clear hown1 hg1)
            | (refine step_append_own (by rfl) _ _ 57 (by rfl) wr.heap.size 3 iI _ 1 8 Tryz.underlying57 hI hI0 hI1 hI2 rfl (by decide) (.slice A1 k c1) k (ivs (xs.take k)) (by rfl) HO1.out ⟨wr.heap.size + 1, 0, none⟩ 1 1 [.int .i64 x] (by rfl) (by rfl) (one_at HC1.out) (by simp [Value.oneCell']) (by unfold maxLen; omega) (by omega) HB8.out.size ?_; intro v2 w2 hown2 hg2 _; have HB9 := Lib.hid (grow_below HB8.out HO1.out hg2 (Nat.le_refl _) (Nat.le_refl _)); obtain ⟨A2, c2, rfl, _⟩ := own_cells hown2; have HO2 := Lib.hid hown2; clear hown2 hg2)
            | (refine step_append_own (by rfl) _ _ 57 (by rfl) wr.heap.size 3 iI _ 1 8 Tryz.underlying57 hI hI0 hI1 hI2 rfl (by decide) (.slice A1 k c1) k (ivs (xs.take k)) (by rfl) HO1.out ⟨wr.heap.size, 0, none⟩ 1 1 [.int .i64 x] (by rfl) (by rfl) (one_at HC1.out) (by simp [Value.oneCell']) (by unfold maxLen; omega) (by omega) HB8.out.size ?_; intro v2 w2 hown2 hg2 _; have HB9 := Lib.hid (grow_below HB8.out HO1.out hg2 (Nat.le_refl _) (Nat.le_refl _)); obtain ⟨A2, c2, rfl, _⟩ := own_cells hown2; have HO2 := Lib.hid hown2; clear hown2 hg2)
            | (refine step_append_own (by rfl) _ _ 57 (by rfl) wr.heap.size 3 iI _ 1 8 Tryz.underlying57 hI hI0 hI1 hI2 rfl (by decide) (.slice A1 k c1) k (ivs (xs.take k)) (by rfl) (row_kept HO1.out (kept_below ((Below.refl _ _).alloc (Nat.le_refl _) _) (fun _ => True)) trivial) ⟨w1.heap.size, 0, none⟩ 1 1 [.int .i64 x] (by rfl) (by rfl) (row_new w1 #[.int .i64 x] 3) (by simp [Value.oneCell']) (by unfold maxLen; omega) (by omega) (Nat.le_trans HB8.out.size (by simp)) ?_; intro v2 w2 hown2 hg2 _; have HB9 := Lib.hid (grow_below (HB8.out.alloc HB8.out.size _) (row_kept HO1.out (kept_below ((Below.refl _ _).alloc (Nat.le_refl _) _) (fun _ => True)) trivial) hg2 (Nat.le_refl _) (Nat.le_refl _)); obtain ⟨A2, c2, rfl, _⟩ := own_cells hown2; have HO2 := Lib.hid hown2; clear hown2 hg2)
            | (refine step_append_src (by rfl) _ _ 57 (by rfl) wr.heap.size 3 iI _ 1 8 Tryz.underlying57 hI hI0 hI1 hI2 rfl (by decide) (.slice A2 (k + 1) c2) (k + 1) (ivs (xs.take k) ++ [.int .i64 x]) (by rfl) HO2.out _ 0 (cap - k) [] (by rfl) ⟨rfl, fun u hu => absurd hu (by simp), fun h => absurd h (by omega)⟩ (by unfold maxLen; omega) (by omega) HB9.out.size ?_; intro v3 w3 hown3 hg3; have HB10 := Lib.hid (grow_below HB9.out HO2.out hg3 (Nat.le_refl _) (Nat.le_refl _)); have HO3 := Lib.hid hown3; clear hown3 hg3))
          all_goals
            have e := HFN.out HX3.out
            have hl : (addI xs x).length = k + 1 + 0 := by
              rw [e, List.length_append, List.length_cons, List.length_take, List.length_drop, HNN.out]
              omega
            have hi : ivs (addI xs x) = ivs (xs.take k) ++ [.int .i64 x] ++ [] := by
              have hdr : xs.drop k = [] := List.drop_eq_nil_of_le (Nat.le_of_eq HNN.out)
              rw [e, hdr]
              simp [ivs]
            obtain ⟨g3, cap3, rfl, _, _⟩ := HO3.out.form (by omega)
            have HHL := Lib.hid hl
            have HHI := Lib.hid hi
            clear e hl hi
            go_wp2
            all_goals
              go_ret
              refine ⟨⟨.slice (some ⟨g3, 0, none⟩) (k + 1 + 0) cap3, rfl, g3, cap3, by rw [HHL.out], ?_⟩, HB1.out.trans (HB10.out.mono HB1.out.size)⟩
              rw [HHL.out, HHI.out]
              exact HO3.out.mono (Nat.le_trans hb HB1.out.size)
theorem addI_len (l : List Int) (x : Int) : (addI l x).length ≤ l.length + 1 := by
  unfold addI
  split
  · omega
  · have e : l.takeWhile (· < x) ++ l.dropWhile (· < x) = l := List.takeWhile_append_dropWhile
    have h := congrArg List.length e
    rw [List.length_append] at h
    rw [List.length_append, List.length_cons]
    omega
theorem exL_len (p q : Int) (l : List Int) : ∀ k, (exL p q l k).length ≤ k
  | 0 => Nat.le_refl _
  | k + 1 => by
    have := exL_len p q l k
    have := addI_len (exL p q l k) (rn p q (l.getD k 0))
    rw [exL]
    omega
theorem renamed_reg (x p q : Int) (w : World) : Calls Tryz.prog 39 #[.agg #[.int .i64 2, .int .i64 x, .int .i32 0], .int .i64 p, .int .i64 q] w fun e w' => (∃ k v : Int, e = .returned (.agg #[.int .i64 k, .int .i64 (rn p q x), .int .i32 v])) ∧ Below w.heap.size w w' := by
  refine (renamed_any ⟨2, x, 0⟩ p q w).mono ?_
  rintro e w' ⟨rfl, hb⟩
  exact ⟨⟨_, _, by rw [reg_ren]⟩, hb⟩
theorem field_n (k z v : Int) (W : World) : (Instr.field 27 (.agg #[.int .i64 k, .int .i64 z, .int .i32 v]) 1).run Tryz.prog W = .ok (.int .i64 z) W := by kernel_rfl
set_option maxRecDepth 100000 in
set_option maxHeartbeats 3000000 in
theorem exchanged_any (A : Option Addr) (c : Nat) (xs : List Int) (p q : Int) (w : World) (h : RI w w.heap.size A xs.length (fun j => xs.getD j 0)) (hn : xs.length ≤ 90) :
    Calls Tryz.prog 41 #[.slice A xs.length c, .int .i64 p, .int .i64 q] w fun e w' => (∃ v, e = .returned v ∧ RowI w' w.heap.size v (exL p q xs xs.length)) ∧ Below w.heap.size w w' := by
  have HH := Lib.hid h
  have HL := Lib.hid (fun k => exL_len p q xs k)
  have HAD := Lib.hid (fun (g cap : Nat) (ys : List Int) (x : Int) (W : World) (hb : Below w.heap.size w W) (hr : W.ownsRow w.heap.size 3 1 (.slice (some ⟨g, 0, none⟩) ys.length cap) ys.length (ivs ys)) (hl : ys.length ≤ 100) => added_any w.heap.size g cap ys x W hb.size hr hl)
  have HSU := Lib.hid (fun k => show exL p q xs (k + 1) = addI (exL p q xs k) (rn p q (xs.getD k 0)) from rfl)
  clear h
  obtain ⟨n, hnn⟩ : ∃ n, xs.length = n := ⟨_, rfl⟩
  rw [hnn] at HH hn ⊢
  clear hnn
  go_enter Tryz.func41, Tryz.ntmps41
  go_upto_region 3 with (fail)
  go_loopw [7, 8] (fun v i wr => ∃ k g cap : Nat, k ≤ n ∧ i = .int .i64 k ∧ v = .slice (some ⟨g, 0, none⟩) (exL p q xs k).length cap ∧ Hid (wr.ownsRow w.heap.size 3 1 (.slice (some ⟨g, 0, none⟩) (exL p q xs k).length cap) (exL p q xs k).length (ivs (exL p q xs k))) ∧ Hid (Below w.heap.size w wr)) (fun _ i _ => n - (intOf i).toNat)
  case atStart => exact ⟨0, w.heap.size, 0, Nat.zero_le _, rfl, rfl, Lib.hid (lit_ownW 3 1 (Below.refl _ w)), Lib.hid ((Below.refl _ _).alloc (Nat.le_refl _) _)⟩
  case round =>
    obtain ⟨k, g, cap, hk, rfl, rfl, HR, HB⟩ := hrel
    by_cases hlt : k < n
    · obtain ⟨b, off, hA, hb, hc⟩ := (HH.out.below HB.out) (by omega)
      have m0 := hc k hlt
      have hki : (k : Int) < (n : Int) := by omega
      have hl := HL.out k
      have HSK := Lib.hid (HSU.out k)
      obtain ⟨y, hy⟩ : ∃ y, xs.getD k 0 = y := ⟨_, rfl⟩
      obtain ⟨ys, hys⟩ : ∃ ys, exL p q xs k = ys := ⟨_, rfl⟩
      simp only [hy] at m0
      rw [hy, hys] at HSK
      rw [hys] at HR hl ⊢
      subst hA
      clear hc hy hys
      go_wp2_with (first
        | (go_at_call 40; (with_reducible refine (Reg_any _ _).mono ?_); rintro e w1 ⟨rfl, hb1⟩; have HB1 := Lib.hid hb1; clear hb1)
        | (go_at_call 39; (with_reducible refine (renamed_reg y p q _).mono ?_); rintro e w2 ⟨⟨rk, rv, rfl⟩, hb2⟩; have hfl := field_n rk (rn p q y) rv; have HB2 := Lib.hid (HB1.out.trans (hb2.mono HB1.out.size)); clear hb2)
        | (go_at_call 75; (with_reducible refine (HAD.out g cap ys _ _ (HB.out.trans (HB2.out.mono HB.out.size)) (row_kept HR.out (kept_below HB2.out (fun _ => True)) trivial) (by omega)).mono ?_); rintro e w3 ⟨⟨v3, rfl, hr3⟩, hb3⟩; have HR3 := Lib.hid hr3; have HB3 := Lib.hid (HB.out.trans ((HB2.out.trans (hb3.mono HB2.out.size)).mono HB.out.size)); clear hr3 hb3))
      obtain ⟨g3, cap3, rfl, ho3⟩ := HR3.out
      have HO3 := Lib.hid ho3
      clear ho3
      go_wp2
      go_roundw
      case rel => exact ⟨k + 1, g3, cap3, by omega, by go_num, by rw [HSK.out], Lib.hid (by rw [HSK.out]; exact HO3.out), HB3⟩
      case measure => simp [intOf]; omega
    · obtain rfl : k = n := by omega
      go_wp2
      go_ret
      exact ⟨⟨_, rfl, g, cap, rfl, HR.out⟩, HB.out⟩
theorem flatL_append (x y : List LoV) : flatL (x ++ y) = flatL x ++ flatL y := by
  unfold flatL
  rw [List.flatMap_append]
theorem flatL_len' (l : List LoV) : (flatL l).length = l.length * 3 := by
  induction l with
  | nil => rfl
  | cons x l ih =>
    show (loC x ++ flatL l).length = _
    rw [List.length_append, ih, List.length_cons, Nat.succ_mul, Nat.add_comm]
    rfl
theorem flatL_storeR (ls1 ls2 : List LoV) (l : LoV) (x : Int) : (flatL (ls1 ++ l :: ls2)).set (ls1.length * 3 + 1) (.int .i64 x) = flatL (ls1 ++ (l.1, x, l.2.2) :: ls2) := by
  rw [flatL_append, flatL_append, List.set_append_right _ _ (by rw [flatL_len']; omega), flatL_len']
  have e : ls1.length * 3 + 1 - ls1.length * 3 = 1 := by omega
  rw [e]
  rfl
theorem LX.storeR {w W : World} {b n0 gL cL nl : Nat} {g s r sl p : Int} {v5 v7 : Value} {qs : List ArV} {ls1 ls2 : List LoV} {l : LoV} {es : List BlE} (x : Int) (h : LX w b n0 g s r sl p v5 (.slice (some ⟨gL, 0, none⟩) nl cL) v7 qs (ls1 ++ l :: ls2) es W) (hl : (ls1 ++ l :: ls2).length = nl) :
    LX w b n0 g s r sl p v5 (.slice (some ⟨gL, 0, none⟩) nl cL) v7 qs (ls1 ++ (l.1, x, l.2.2) :: ls2) es (W.setCell ⟨gL, ls1.length * 3 + 1, none⟩ (.int .i64 x)) := by
  have hr := h.rows.loops
  rw [hl] at hr
  have hst := hr.stored (ls1.length * 3 + 1) (.int .i64 x)
  rw [flatL_storeR] at hst
  have ks := grow_kept hr hst.2
  have hl2 : (ls1 ++ (l.1, x, l.2.2) :: ls2).length = nl := by
    rw [← hl]
    simp
  exact ⟨(ks _ _ _ _ h.box (by decide)).trans h.box, ⟨row_kept h.rows.arr ks (by decide), by rw [hl2]; exact hst.1, row_kept h.rows.blocks ks (by decide), fun e he => row_kept (h.rows.insts e he) ks (by decide)⟩, grow_below h.below hr hst.2 h.hn.1 (Nat.le_refl _), h.hn.1, h.hn.2.1, by simpa [World.setCell] using h.hn.2.2⟩
theorem usesV_len (o : Nat → OpdV) (k : Nat) : (usesV o k).length ≤ k := by
  have h1 : (usesV o k).length ≤ (srt (regsL o k)).length := Lib.compact_length_le _
  have h2 : (srt (regsL o k)).length = (regsL o k).length := List.length_mergeSort _
  have h3 : (regsL o k).length ≤ k := by
    unfold regsL
    rw [List.length_map]
    have := List.length_filter_le (fun j => decide ((o j).k = 2)) (List.range k)
    rw [List.length_range] at this
    exact this
  omega
theorem usesT_len (t : TermV) : (usesT t).length ≤ 2 := usesV_len _ 2
theorem usesI_len (i : InstV) : (usesI i).length ≤ 3 := usesV_len _ 3
theorem ri_up {w : World} {B B' n : Nat} {A : Option Addr} {f : Nat → Int} (h : RI w B A n f) (hb : B ≤ B') : RI w B' A n f := fun hn => by
  obtain ⟨b, off, e, hlt, hc⟩ := h hn
  exact ⟨b, off, e, Nat.lt_of_lt_of_le hlt hb, hc⟩
/-- A slice of the call's own, as one that is read. -/
theorem rowI_ri {w : World} {base : Nat} {v : Value} {xs : List Int} (h : RowI w base v xs) : ∃ A c, v = .slice A xs.length c ∧ RI w w.heap.size A xs.length (fun j => xs.getD j 0) := by
  obtain ⟨g, cap, rfl, hr⟩ := h
  refine ⟨_, cap, rfl, fun hn => ⟨g, 0, rfl, (hr.lt g rfl).2, fun j hj => ?_⟩⟩
  rw [Nat.zero_add, hr.cellAt j (by omega)]
  unfold ivs
  rw [List.getElem?_map, List.getElem?_eq_getElem hj]
  show some (Value.int .i64 xs[j]) = some (Value.int .i64 (xs.getD j 0))
  rw [List.getD_eq_getElem?_getD, List.getElem?_eq_getElem hj]
  rfl
theorem sameI_self (n : Nat) (f : Nat → Int) : sameI n n f f = true := by
  unfold sameI
  simp
theorem same_eq (A B : Option Addr) (n c d : Nat) (f : Nat → Int) (w : World) (hn : n ≤ 65536) (ha : RI w w.heap.size A n f) (hb : RI w w.heap.size B n f) :
    Calls Tryz.prog 21 #[.slice A n c, .slice B n d] w fun e w' => e = .returned (.bool true) ∧ Below w.heap.size w w' := by
  have H := SameInts_any n c n d A B f f w hn hn ha hb
  rw [sameI_self] at H
  exact H
/-- Where an end leads, as a slice that is read. -/
theorem succ_ri (t : TermV) (w : World) : Calls Tryz.prog 22 #[t.val] w fun e w' => ∃ A, e = .returned (.slice A (succL t).length 2) ∧ RI w' w'.heap.size A (succL t).length (fun j => (succL t).getD j 0) ∧ Below w.heap.size w w' := by
  refine (Succ_any t w).mono ?_
  rintro e w' ⟨rfl, hc, hlt, hb⟩
  exact ⟨_, rfl, fun _ => ⟨w.heap.size, 11, rfl, hlt, hc⟩, hb⟩
/-- What the law's walk asks of the code. -/
structure RnF (C : CdV) : Prop where
  fits : C.Fits
  q : ∀ a, a ∈ C.q → a.1.size ≤ 9223372036854775807
  nb : 1 ≤ C.b.length ∧ C.b.length ≤ 18
  nl : C.l.length ≤ 3
  il : ∀ e, e ∈ C.b → e.1.length ≤ 27
  r : 1 ≤ C.n 2 ∧ C.n 2 ≤ 100
  chk : ∀ p q : Int, (0 ≤ p ∧ p < C.n 2) → (0 ≤ q ∧ q < C.n 2) → chkC (renC p q C) = 0
  dt : ∀ e, e ∈ C.b → e.2.d.k = 2 → 0 ≤ e.2.d.n
  di : ∀ e, e ∈ C.b → ∀ i, i ∈ e.1 → i.d.k = 2 → 0 ≤ i.d.n
theorem hasV_dn {P sl r : Int} {n1 n3 : Nat} {sp : Nat → Int} {f : FormV} {x : PartV} (h : hasV P sl r n1 n3 sp f x = true) (hk : x.d.k = 2) : 0 ≤ x.d.n := by
  unfold hasV at h
  simp only [Bool.and_eq_true] at h
  cases hf : f.d with
  | true =>
    have e1 := h.2.2.1.1
    simp only [hf, Bool.not_true, Bool.false_or] at e1
    unfold regB wthB at e1
    simp only [Bool.and_eq_true, decide_eq_true_eq] at e1
    exact e1.2.2.1
  | false =>
    have e1 := h.1
    unfold zeroP at e1
    simp only [Bool.and_eq_true, beq_iff_eq] at e1
    have k1 := e1.2.2.1
    simp [othV, FormV.want, hf] at k1
    omega
theorem rnf_mk {c : CdV} (h : MdOk c) (z : Bool) : RnF (mkC z c) := by
  obtain ⟨m1, m2, m3, m4, m5, m6, m7⟩ := mk_b h z
  have m8 := mk_e h z
  have l3 := h.l3
  have b18 := h.b18
  refine ⟨⟨by rw [m1]; decide, by rw [m2]; omega, by rw [m3]; omega⟩, by rw [m1]; exact arM_names, by rw [m3]; exact b18, by rw [m2]; omega, fun e he => (m7 e he).1, ?_, fun p q hp hq => ren_chk h z hp hq, fun e he hk => ?_, fun e he i hi hk => ?_⟩
  · omega
  · have h1 := m8 e he
    unfold endB at h1
    simp only [Bool.and_eq_true] at h1
    exact hasV_dn (x := e.2.parts) h1.2 hk
  · have h1 := (m7 e he).2 i hi
    unfold instB at h1
    simp only [Bool.and_eq_true] at h1
    exact hasV_dn (x := i.parts) h1.2 hk
theorem rn_nn {p q n : Int} (hp : 0 ≤ p) (hq : 0 ≤ q) (hn : 0 ≤ n) : 0 ≤ rn p q n := by
  unfold rn
  repeat' split
  all_goals assumption
/-- The cells of an instruction of a block. -/
theorem LX.icells {w W : World} {b n0 gI cI ni k : Nat} {g s r sl p : Int} {v5 v6 v7 : Value} {qs : List ArV} {ls : List LoV} {es1 es2 : List BlE} {e : BlE} (h : LX w b n0 g s r sl p v5 v6 v7 qs ls (es1 ++ e :: es2) W)
    (he : e.1 = .slice (some ⟨gI, 0, none⟩) ni cI) (hi : e.2.1.length = ni) (hk : k < ni) {i : InstV} (hik : e.2.1[k]? = some i) (j : Nat) (hj : j < 15) : W.cell? ⟨gI, k * 15 + j, none⟩ = i.cells[j]? := by
  have hr := h.rows.insts e (List.mem_append.2 (.inr List.mem_cons_self))
  rw [he, hi] at hr
  have hk' : k < e.2.1.length := by rw [hi]; exact hk
  rw [hr.cellAt _ (by omega)]
  unfold flatI
  rw [flat_get InstV.cells 15 (fun _ => rfl) e.2.1 k j hk' hj]
  rw [List.getElem?_eq_getElem hk'] at hik
  injection hik with hik
  rw [hik]
theorem inst_d {W : World} {b : Nat} {i : InstV} (o : OpdV) (h : W.heap[b]? = some (.cells (instA i) 61 (0, 0))) :
    (((W.setCell ⟨b, 3, none⟩ (.int .i64 o.k)).setCell ⟨b, 4, none⟩ (.int .i64 o.n)).setCell ⟨b, 5, none⟩ (.int .i32 o.v)).heap[b]? = some (.cells (instA { i with d := o }) 61 (0, 0)) := by
  have e1 := heap_setCell_same _ b 3 _ 61 (.int .i64 o.k) h
  simp only [List.setIfInBounds_toArray, List.set_cons_zero, List.set_cons_succ] at e1
  have e2 := heap_setCell_same _ b 4 _ 61 (.int .i64 o.n) e1
  simp only [List.setIfInBounds_toArray, List.set_cons_zero, List.set_cons_succ] at e2
  have e3 := heap_setCell_same _ b 5 _ 61 (.int .i32 o.v) e2
  simp only [List.setIfInBounds_toArray, List.set_cons_zero, List.set_cons_succ] at e3
  exact e3
theorem inst_a {W : World} {b : Nat} {i : InstV} (o : OpdV) (h : W.heap[b]? = some (.cells (instA i) 61 (0, 0))) :
    (((W.setCell ⟨b, 6, none⟩ (.int .i64 o.k)).setCell ⟨b, 7, none⟩ (.int .i64 o.n)).setCell ⟨b, 8, none⟩ (.int .i32 o.v)).heap[b]? = some (.cells (instA { i with a := o }) 61 (0, 0)) := by
  have e1 := heap_setCell_same _ b 6 _ 61 (.int .i64 o.k) h
  simp only [List.setIfInBounds_toArray, List.set_cons_zero, List.set_cons_succ] at e1
  have e2 := heap_setCell_same _ b 7 _ 61 (.int .i64 o.n) e1
  simp only [List.setIfInBounds_toArray, List.set_cons_zero, List.set_cons_succ] at e2
  have e3 := heap_setCell_same _ b 8 _ 61 (.int .i32 o.v) e2
  simp only [List.setIfInBounds_toArray, List.set_cons_zero, List.set_cons_succ] at e3
  exact e3
theorem inst_b {W : World} {b : Nat} {i : InstV} (o : OpdV) (h : W.heap[b]? = some (.cells (instA i) 61 (0, 0))) :
    (((W.setCell ⟨b, 9, none⟩ (.int .i64 o.k)).setCell ⟨b, 10, none⟩ (.int .i64 o.n)).setCell ⟨b, 11, none⟩ (.int .i32 o.v)).heap[b]? = some (.cells (instA { i with b := o }) 61 (0, 0)) := by
  have e1 := heap_setCell_same _ b 9 _ 61 (.int .i64 o.k) h
  simp only [List.setIfInBounds_toArray, List.set_cons_zero, List.set_cons_succ] at e1
  have e2 := heap_setCell_same _ b 10 _ 61 (.int .i64 o.n) e1
  simp only [List.setIfInBounds_toArray, List.set_cons_zero, List.set_cons_succ] at e2
  have e3 := heap_setCell_same _ b 11 _ 61 (.int .i32 o.v) e2
  simp only [List.setIfInBounds_toArray, List.set_cons_zero, List.set_cons_succ] at e3
  exact e3
theorem inst_c {W : World} {b : Nat} {i : InstV} (o : OpdV) (h : W.heap[b]? = some (.cells (instA i) 61 (0, 0))) :
    (((W.setCell ⟨b, 12, none⟩ (.int .i64 o.k)).setCell ⟨b, 13, none⟩ (.int .i64 o.n)).setCell ⟨b, 14, none⟩ (.int .i32 o.v)).heap[b]? = some (.cells (instA { i with c := o }) 61 (0, 0)) := by
  have e1 := heap_setCell_same _ b 12 _ 61 (.int .i64 o.k) h
  simp only [List.setIfInBounds_toArray, List.set_cons_zero, List.set_cons_succ] at e1
  have e2 := heap_setCell_same _ b 13 _ 61 (.int .i64 o.n) e1
  simp only [List.setIfInBounds_toArray, List.set_cons_zero, List.set_cons_succ] at e2
  have e3 := heap_setCell_same _ b 14 _ 61 (.int .i32 o.v) e2
  simp only [List.setIfInBounds_toArray, List.set_cons_zero, List.set_cons_succ] at e3
  exact e3
/-- Part of a block's instructions is exchanged: one more. -/
theorem ren_step (p q : Int) (I : List InstV) (k : Nat) (hk : k < I.length) : ((I.take k).map (renI p q) ++ I.drop k).set k (renI p q I[k]) = (I.take (k + 1)).map (renI p q) ++ I.drop (k + 1) := by
  have hl : ((I.take k).map (renI p q)).length = k := by rw [List.length_map, List.length_take]; omega
  rw [List.set_append_right _ _ (by omega), hl, Nat.sub_self, List.drop_eq_getElem_cons hk, List.set_cons_zero, List.take_succ_eq_append_getElem hk, List.map_append, List.append_assoc]
  rfl
theorem ren_at (p q : Int) (I : List InstV) (k : Nat) (hk : k < I.length) : ((I.take k).map (renI p q) ++ I.drop k)[k]? = some I[k] := by
  have hl : ((I.take k).map (renI p q)).length = k := by rw [List.length_map, List.length_take]; omega
  rw [List.getElem?_append_right (by omega), hl, Nat.sub_self, List.drop_eq_getElem_cons hk]
  rfl
theorem ren_len (p q : Int) (I : List InstV) (k : Nat) : ((I.take k).map (renI p q) ++ I.drop k).length = I.length := by
  rw [List.length_append, List.length_map, List.length_take, List.length_drop]
  omega
/-- DisI speaks of the headers alone. -/
theorem disI_same {es1 es2 : List BlE} {e e' : BlE} (h : DisI (es1 ++ e :: es2)) (he : e'.1 = e.1) : DisI (es1 ++ e' :: es2) := by
  unfold DisI at h ⊢
  rw [List.pairwise_append] at h ⊢
  obtain ⟨h1, h2, h3⟩ := h
  obtain ⟨h4, h5⟩ := List.pairwise_cons.1 h2
  refine ⟨h1, List.pairwise_cons.2 ⟨fun y hy g hg => h4 y hy g (by rw [← he]; exact hg), h5⟩, fun x hx y hy g hg => ?_⟩
  rcases List.mem_cons.1 hy with rfl | hy
  · rw [he]
    exact h3 x hx e List.mem_cons_self g hg
  · exact h3 x hx y (List.mem_cons_of_mem _ hy) g hg
/-- Check and Reach of the exchanged code. -/
theorem ren_calls {C : CdV} {p q : Int} {W3 W : World} {b9 n9 l5 p5 l6 p6 l7 p7 : Nat} {A5 A6 A7 : Option Addr} {es : List BlE} (hl : LX W3 b9 n9 (C.n 0) (C.n 1) (C.n 2) (C.n 3) (C.n 4) (.slice A5 l5 p5) (.slice A6 l6 p6) (.slice A7 l7 p7) C.q (C.l.map fun l => (l.1, rn p q l.2.1, l.2.2)) es W) (hes : es.map (·.2) = (renC p q C).b) (hF : RnF C) (hz : chkC (renC p q C) = 0) :
    (∀ V, Below W.heap.size W V → Calls Tryz.prog 17 #[.agg #[.int .i64 (C.n 0), .int .i64 (C.n 1), .int .i64 (C.n 2), .int .i64 (C.n 3), .int .i64 (C.n 4), .slice A5 l5 p5, .slice A6 l6 p6, .slice A7 l7 p7]] V fun e w' => e = .returned (.int .i64 0) ∧ Below V.heap.size V w') ∧
    (∀ V, Below W.heap.size W V → Calls Tryz.prog 19 #[.agg #[.int .i64 (C.n 0), .int .i64 (C.n 1), .int .i64 (C.n 2), .int .i64 (C.n 3), .int .i64 (C.n 4), .slice A5 l5 p5, .slice A6 l6 p6, .slice A7 l7 p7]] V fun e w' => e = .returned (.slice (some ⟨V.heap.size + 1, 0, none⟩) l7 l7) ∧ w'.rowIs (V.heap.size + 1) 4 l7 (fun j => .bool (reachC C j)) ∧ Below V.heap.size V w') := by
  have hbl : (renC p q C).b.length = C.b.length := List.length_map ..
  have hlen : es.length = C.b.length := by
    rw [← hbl, ← hes, List.length_map]
  obtain ⟨ad, e5, e6, e7, hk⟩ := hl.rows.cdk C.n hF.q (fun e he => by
    have h : e.2 ∈ es.map (·.2) := List.mem_map.2 ⟨e, he, rfl⟩
    rw [hes] at h
    obtain ⟨e0, h0, h1⟩ := List.mem_map.1 h
    have h2 := hF.il e0 h0
    have h3 := congrArg (fun x : List InstV × TermV => x.1.length) h1
    simp only [List.length_map] at h3
    omega)
  have hc : (⟨C.q, C.l.map fun l => (l.1, rn p q l.2.1, l.2.2), es.map (·.2), C.n⟩ : CdV) = renC p q C := by rw [hes]; rfl
  rw [hc] at hk
  injection e5 with a1 a2 a3
  injection e6 with b1 b2 b3
  injection e7 with c1 c2 c3
  subst a1 a2 a3 b1 b2 b3 c1 c2 c3
  have hf : (renC p q C).Fits := ⟨hF.fits.1, by show (C.l.map _).length ≤ 65536; rw [List.length_map]; exact hF.fits.2.1, by rw [hbl]; exact hF.fits.2.2⟩
  have hv : cdval (renC p q C) ad = .agg #[.int .i64 (C.n 0), .int .i64 (C.n 1), .int .i64 (C.n 2), .int .i64 (C.n 3), .int .i64 (C.n 4), .slice ad.a1 C.q.length ad.c1, .slice ad.a2 (C.l.map fun l => (l.1, rn p q l.2.1, l.2.2)).length ad.c2, .slice ad.a3 es.length ad.c3] := by
    unfold cdval
    rw [hbl, ← hlen]
    rfl
  refine ⟨fun V hV => ?_, fun V hV => ?_⟩
  · have H := Check_c _ ad V (hk.on hV).mem hf
    rw [hv, hz] at H
    exact H
  · have H := Reach_c _ ad V (hk.on hV).mem hf
    rw [hv, hbl, ← hlen, ren_reach] at H
    exact H
/-- Reach of the code itself. -/
theorem old_reach {C : CdV} {a : CdA} {V : World} (hk : CdM C a V) (hF : RnF C) : Calls Tryz.prog 19 #[cdval C a] V fun e w' => e = .returned (.slice (some ⟨V.heap.size + 1, 0, none⟩) C.b.length C.b.length) ∧ w'.rowIs (V.heap.size + 1) 4 C.b.length (fun j => .bool (reachC C j)) ∧ Below V.heap.size V w' := Reach_c C a V hk hF.fits
end Go.Proofs.YtkncilgmlkeifaaGreatDoor
