/-
  Both readers of scalar's texts (the program's Parse and the reference's read) read the text of every value as this value: so they agree on every string. Plain mathematics.
-/
import Derived.Test.YtikkmcgbmiddaaaDoorRefP
import Derived.Lib.ItoaMem
namespace Go.Proofs.YtikkmcgbmiddaaaDoor
open Go.ChangeShapes Go.WideShapes Go.ChangeAt Go.RowKit
set_option linter.unusedVariables false

/-- A number's digits: digits alone, at least one; they are read as the number. -/
theorem dec_dig (n : Nat) : ∀ c ∈ Lib.decDigits n, isDig c = true := by
  induction n using Nat.strongRecOn with
  | _ n ih =>
    intro c hc
    rw [Lib.decDigits] at hc
    split at hc
    · obtain rfl := List.mem_singleton.1 hc
      have := dgt_toNat n ‹_›
      unfold dgt at this; unfold isDig; rw [this]; exact decide_eq_true (by omega)
    · rcases List.mem_append.1 hc with h | h
      · exact ih (n / 10) (by omega) c h
      · obtain rfl := List.mem_singleton.1 h
        have := dgt_toNat (n % 10) (by omega)
        unfold dgt at this; unfold isDig; rw [this]; exact decide_eq_true (by omega)
theorem dec_num (n : Nat) : digN (Lib.decDigits n) = n := by
  induction n using Nat.strongRecOn with
  | _ n ih =>
    rw [Lib.decDigits]
    split
    · simp [digN]; omega
    · have := dgt_toNat (n % 10) (by omega)
      unfold dgt at this
      rw [digN_snoc, this, ih (n / 10) (by omega)]; omega
theorem dec_cap (n : Nat) (h : n ≤ 1099511627776) : capN (Lib.decDigits n) = n := by
  induction n using Nat.strongRecOn with
  | _ n ih =>
    rw [Lib.decDigits]
    split
    · simp [capN]; omega
    · have := dgt_toNat (n % 10) (by omega)
      unfold dgt at this
      rw [capN_snoc, this, ih (n / 10) (by omega) (by omega)]; omega
theorem dec_ne (n : Nat) : Lib.decDigits n ≠ [] := by
  rw [Lib.decDigits]; split <;> simp
theorem dec_short (k : Nat) : ∀ n : Nat, n < 10 ^ (k + 1) → (Lib.decDigits n).length ≤ k + 1 := by
  induction k with
  | zero => intro n h; rw [Lib.decDigits, dif_pos (by simpa using h)]; simp
  | succ k ih =>
    intro n h
    rw [Lib.decDigits]
    split
    · simp
    · have := ih (n / 10) (by rw [Nat.pow_succ] at h; omega)
      simp; omega
theorem dec_ok (n : Nat) (h : n ≤ 2147483648) : digOk (Lib.decDigits n) = true := by
  unfold digOk
  exact decide_eq_true ⟨dec_ne n, by have := dec_short 9 n (by omega); omega, dec_dig n⟩
theorem dec_head (n : Nat) : ∃ c r, Lib.decDigits n = c :: r ∧ c ≠ 45 := by
  cases h : Lib.decDigits n with
  | nil => exact absurd h (dec_ne n)
  | cons c r =>
    refine ⟨c, r, rfl, ?_⟩
    rintro rfl
    have := dec_dig n 45 (by rw [h]; simp)
    revert this; decide
theorem minus_no (c : UInt8) (r : List UInt8) (h : c ≠ 45) : minus (c :: r) = false ∧ unsign (c :: r) = c :: r := by
  have e : Lib.hasPrefix (c :: r) [45] = false := by
    unfold Lib.hasPrefix
    simp [List.isPrefixOf, Ne.symm h]
  exact ⟨e, by unfold unsign Lib.trimPrefix; rw [e]; rfl⟩
theorem minus_yes (r : List UInt8) : minus (45 :: r) = true ∧ unsign (45 :: r) = r := by
  have e : Lib.hasPrefix (45 :: r) [45] = true := by
    unfold Lib.hasPrefix
    simp [List.isPrefixOf]
  exact ⟨e, by unfold unsign Lib.trimPrefix; rw [e]; rfl⟩
theorem index_at (l r : List UInt8) (c : UInt8) (h : c ∉ l) : Lib.index (l ++ c :: r) [c] = l.length := by
  induction l with
  | nil => simp [Lib.index, List.isPrefixOf]
  | cons a l ih =>
    have h1 : ¬ c = a := fun e => h (by simp [e])
    have ih := ih (fun e => h (by simp [e]))
    have h2 : ¬ ((l.length : Int) = -1) := by omega
    simp [Lib.index, List.isPrefixOf, h1, ih, h2]
theorem cut_at (l r : List UInt8) (c : UInt8) (h : c ∉ l) : Lib.cut (l ++ c :: r) [c] = (l, r, true) := by
  unfold Lib.cut
  rw [index_at l r c h, if_pos (by omega)]
  simp
theorem lead_at (l r : List UInt8) (h : ∀ c ∈ l, isDig c = true) : leadN (l ++ 46 :: r) = l.length := by
  unfold leadN
  induction l with
  | nil => simp [show isDig 46 = false by decide]
  | cons a l ih =>
    rw [List.cons_append, List.takeWhile_cons_of_pos (h a (by simp))]
    simp; exact ih (fun c hc => h c (by simp [hc]))
theorem digN_go (l : List UInt8) (m : Int) : l.foldl (fun n c => 10 * n + ((c.toNat : Int) - 48)) m = m * 10 ^ l.length + digN l := by
  unfold digN
  induction l generalizing m with
  | nil => simp
  | cons a l ih =>
    rw [List.foldl_cons, List.foldl_cons, ih, ih (10 * 0 + _), List.length_cons, Int.pow_succ]
    generalize (10 : Int) ^ l.length = p
    generalize ((a.toNat : Int) - 48) = d
    rw [Int.add_mul, Int.add_mul, Int.mul_comm p 10, ← Int.mul_assoc, Int.mul_comm m 10]
    simp; omega
theorem digN_cons (a : UInt8) (l : List UInt8) : digN (a :: l) = ((a.toNat : Int) - 48) * 10 ^ l.length + digN l := by
  have := digN_go l (10 * 0 + ((a.toNat : Int) - 48))
  simp at this
  show List.foldl _ _ _ = _
  rw [List.foldl_cons]
  simpa using this
theorem fracL_dig (f r : Nat) (hr : r < 65536) : ∀ c ∈ fracL f r, isDig c = true := by
  induction f generalizing r with
  | zero => simp [fracL]
  | succ f ih =>
    intro c hc
    unfold fracL at hc
    rcases List.mem_cons.1 hc with h | h
    · subst h
      unfold isDig; rw [dgt_toNat _ (by omega)]; exact decide_eq_true (by omega)
    · split at h
      · simp at h
      · exact ih _ (by omega) c h
theorem fracL_num (f r : Nat) (hf : f ≤ 16) (hr : r < 65536) (hd : 2 ^ (16 - f) ∣ r) : digN (fracL f r) * 65536 = (r : Int) * 10 ^ (fracL f r).length := by
  induction f generalizing r with
  | zero => obtain rfl := dvd_end r (by simpa using hd) hr; simp [fracL, digN]
  | succ f ih =>
    unfold fracL
    have hg := dgt_toNat (r * 10 / 65536) (by omega)
    rw [digN_cons, hg, List.length_cons]
    by_cases h0 : r * 10 % 65536 = 0
    · simp [h0, digN]; omega
    · rw [if_neg h0]
      have := ih (r * 10 % 65536) (by omega) (by omega) (by
        have := dvd_step (16 - (f + 1)) r (by omega) hd
        rwa [show 16 - (f + 1) + 1 = 16 - f by omega] at this)
      revert this
      generalize fracL f (r * 10 % 65536) = F
      rw [Int.pow_succ]
      generalize (10 : Int) ^ F.length = p
      generalize digN F = D
      intro h
      have e : (r : Int) * 10 = ((r * 10 / 65536 : Nat) : Int) * 65536 + ((r * 10 % 65536 : Nat) : Int) := by omega
      rw [Int.mul_comm p 10, ← Int.mul_assoc, e, Int.add_mul, Int.add_mul, h, show ((48 + r * 10 / 65536 : Nat) : Int) - 48 = ((r * 10 / 65536 : Nat) : Int) by omega, Int.mul_assoc _ p, Int.mul_assoc _ 65536, Int.mul_comm p]
theorem fracL_ne (r : Nat) : fracL 16 r ≠ [] := by unfold fracL; simp
theorem fracL_ok (r : Nat) (hr : r < 65536) : digOk (fracL 16 r) = true := by
  unfold digOk; exact decide_eq_true ⟨fracL_ne r, fracL_len 16 r, fracL_dig 16 r hr⟩
theorem pow_split (L : Nat) : (10 : Int) ^ L = 5 ^ L * 2 ^ L := by
  rw [← Int.mul_pow]; rfl
theorem five_dvd (L : Nat) (d r : Int) (h : d * 65536 = r * 10 ^ L) : (5 : Int) ^ L ∣ d := by
  induction L generalizing d r with
  | zero => simp
  | succ L ih =>
    have h1 : d * 65536 = (r * 10) * 10 ^ L := by rw [h, Int.pow_succ, Int.mul_comm _ (10 : Int), ← Int.mul_assoc]
    have hd : (5 : Int) ∣ d := by
      have : ∃ k : Int, d * 65536 = 5 * k := ⟨r * 2 * 10 ^ L, by rw [h1, show r * 10 = 5 * (r * 2) by omega, Int.mul_assoc]⟩
      obtain ⟨k, hk⟩ := this
      omega
    obtain ⟨q, rfl⟩ := hd
    have h2 : q * 65536 = (r * 2) * 10 ^ L := by
      have : 5 * (q * 65536) = 5 * (r * 2 * 10 ^ L) := by
        rw [← Int.mul_assoc, h1, show r * 10 = 5 * (r * 2) by omega, Int.mul_assoc]
      omega
    obtain ⟨m, hm⟩ := ih q (r * 2) h2
    exact ⟨m, by rw [hm, Int.pow_succ, Int.mul_comm _ (5 : Int), Int.mul_assoc]⟩
theorem fracL_read (r : Nat) (hr : r < 65536) : frOk (fracL 16 r) = true ∧ frV (fracL 16 r) = r := by
  have hn := fracL_num 16 r (by omega) hr (by simp)
  have hl := fracL_len 16 r
  have hd := five_dvd _ _ _ hn
  have ho : frOk (fracL 16 r) = true := by
    unfold frOk; rw [fracL_ok r hr]; simpa using hd
  refine ⟨ho, ?_⟩
  unfold frV
  rw [if_pos ho]
  revert hn hl hd
  generalize digN (fracL 16 r) = d
  generalize (fracL 16 r).length = L
  intro hn hl hd
  obtain ⟨m, rfl⟩ := hd
  have h5 : (0 : Int) < 5 ^ L := Int.pow_pos (by omega)
  have h2 : (0 : Int) < 2 ^ L := Int.pow_pos (by omega)
  rw [Int.mul_ediv_cancel_left _ (by omega)]
  have e : (65536 : Int) = 2 ^ (16 - L) * 2 ^ L := by rw [← Int.pow_add, show 16 - L + L = 16 by omega]; rfl
  rw [pow_split, e] at hn
  apply Int.eq_of_mul_eq_mul_right (a := 5 ^ L * 2 ^ L) (by have := Int.mul_pos h5 h2; omega)
  rw [← hn, Int.mul_comm (5 ^ L) m, Int.mul_assoc, Int.mul_assoc]
  congr 1
  rw [Int.mul_left_comm]
theorem fracL_part (r : Nat) (hr : r < 65536) : partV (fracL 16 r) = r := by
  have hn := fracL_num 16 r (by omega) hr (by simp)
  have hl := fracL_len 16 r
  have hj : partJ (fracL 16 r) = (fracL 16 r).length := by unfold partJ; rw [lead_all _ (fracL_dig 16 r hr)]; omega
  unfold partV
  rw [hj, List.take_length, hn]
  exact Int.mul_ediv_cancel _ (by have : (0 : Int) < 10 ^ (fracL 16 r).length := Int.pow_pos (by omega)
                                  omega)
/-- What the reference reads. -/
def refN (t : Int) (s : List UInt8) : Int := if t = 2 then 65536 * min (capN (s.take (leadN s))) 1048576 + (if leadN s < s.length then partV (s.drop (leadN s + 1)) else 0) else capN (s.take (leadN s))
def refV (t : Int) (l : List UInt8) : Int := if t = 3 then tr (l = [116, 114, 117, 101]) else sgn (minus l) (refN t (unsign l))
def refOk (t : Int) (l : List UInt8) : Bool := decide (textE t (refV t l) = 0) && decide (textV t (refV t l) = l)
theorem point_no (n : Nat) : (46 : UInt8) ∉ Lib.decDigits n := by
  intro h
  have := dec_dig n 46 h
  revert this; decide
theorem sgn_of (v : Int) (b : Bool) (h : I32 v) (hb : b = decide (v < 0)) (n : Int) (hn : n = v.natAbs) : sgn b n = v := by
  obtain ⟨h1, h2⟩ := h
  subst hb hn
  unfold sgn wrap32
  by_cases hv : v < 0
  · simp [hv]; omega
  · simp [hv]; omega
/-- The sign and the rest of a text. -/
theorem signed_parts (v : Int) (n : Nat) (r : List UInt8) : minus ((if v < 0 then [45] else []) ++ Lib.decDigits n ++ r) = decide (v < 0) ∧ unsign ((if v < 0 then [45] else []) ++ Lib.decDigits n ++ r) = Lib.decDigits n ++ r := by
  by_cases hv : v < 0
  · simp only [hv, if_true, decide_true]
    exact minus_yes _
  · simp only [hv, if_false, decide_false]
    obtain ⟨c, q, hc, h45⟩ := dec_head n
    rw [List.nil_append, hc]
    exact minus_no c _ h45
theorem itoa_split (v : Int) : Lib.itoa v = (if v < 0 then [45] else []) ++ Lib.decDigits v.natAbs ++ [] := by
  unfold Lib.itoa
  by_cases hv : v < 0
  · simp [hv]
  · simp [hv]; congr 1; omega
theorem fixT_split (v : Int) : fixT v = (if v < 0 then [45] else []) ++ Lib.decDigits (v.natAbs / 65536) ++ (46 :: fracL 16 (v.natAbs % 65536)) := by
  unfold fixT
  have : Lib.itoa ((v.natAbs : Int) / 65536) = Lib.decDigits (v.natAbs / 65536) := by
    unfold Lib.itoa; rw [if_neg (by omega)]; congr 1
  rw [this]; simp
theorem int_read (v : Int) (h : I32 v) : intOk (Lib.itoa v) = true ∧ intV (Lib.itoa v) = v ∧ refV 1 (Lib.itoa v) = v := by
  have hb : v.natAbs ≤ 2147483648 := by obtain ⟨h1, h2⟩ := h; omega
  obtain ⟨e1, e2⟩ := signed_parts v v.natAbs []
  rw [← itoa_split v] at e1 e2
  rw [List.append_nil] at e2
  have ho := dec_ok v.natAbs hb
  refine ⟨by unfold intOk; rw [e2]; exact ho, ?_, ?_⟩
  · unfold intV; rw [e1, e2, digV_yes ho]; exact sgn_of v _ h rfl _ (dec_num _)
  · unfold refV; rw [if_neg (by omega), e1, e2]
    refine sgn_of v _ h rfl _ ?_
    unfold refN; rw [if_neg (by omega), lead_all _ (dec_dig _), List.take_length, dec_cap _ (by omega)]
theorem fix_read (v : Int) (h : I32 v) : fixOk (fixT v) = true ∧ fixV (fixT v) = v ∧ refV 2 (fixT v) = v := by
  have hb : v.natAbs ≤ 2147483648 := by obtain ⟨h1, h2⟩ := h; omega
  obtain ⟨e1, e2⟩ := signed_parts v (v.natAbs / 65536) (46 :: fracL 16 (v.natAbs % 65536))
  rw [← fixT_split v] at e1 e2
  have ho := dec_ok (v.natAbs / 65536) (by omega)
  have hc := cut_at (Lib.decDigits (v.natAbs / 65536)) (fracL 16 (v.natAbs % 65536)) 46 (point_no _)
  obtain ⟨f1, f2⟩ := fracL_read (v.natAbs % 65536) (by omega)
  have hp := fracL_part (v.natAbs % 65536) (by omega)
  refine ⟨by unfold fixOk; rw [e2, hc]; simp [ho, f1], ?_, ?_⟩
  · unfold fixV; rw [e1, e2, hc]; refine sgn_of v _ h rfl _ ?_
    simp only [digV_yes ho, dec_num, f2]; omega
  · unfold refV; rw [if_neg (by omega), e1, e2]
    refine sgn_of v _ h rfl _ ?_
    unfold refN
    rw [if_pos rfl, lead_at _ _ (dec_dig _), List.take_left, dec_cap _ (by omega), if_pos (by simp)]
    have : (Lib.decDigits (v.natAbs / 65536) ++ 46 :: fracL 16 (v.natAbs % 65536)).drop ((Lib.decDigits (v.natAbs / 65536)).length + 1) = fracL 16 (v.natAbs % 65536) := by
      rw [← List.drop_drop, List.drop_left]; rfl
    rw [this, hp]; omega
/-- Whoever reads the text of a value reads the value. -/
theorem text_read (t v : Int) (h : I32 v) (ht : textE t v = 0) : rawOk t (textV t v) = true ∧ rawV t (textV t v) = v ∧ refV t (textV t v) = v := by
  unfold textE at ht
  split at ht
  · rename_i hh
    rcases hh with rfl | rfl | ⟨rfl, rfl | rfl⟩
    · exact int_read v h
    · exact fix_read v h
    · decide
    · decide
  · omega
theorem tr_01 (p : Prop) [Decidable p] : tr p = 0 ∨ tr p = 1 := by unfold tr; split <;> simp
theorem rawE (t : Int) (l : List UInt8) (ht : 1 ≤ t ∧ t ≤ 3) : textE t (rawV t l) = 0 := by
  have : t = 1 ∨ t = 2 ∨ t = 3 := by omega
  rcases this with rfl | rfl | rfl
  · rfl
  · rfl
  · have := tr_01 (l = [116, 114, 117, 101])
    unfold textE; rw [if_pos (Or.inr (Or.inr ⟨rfl, this⟩))]
theorem refE (t : Int) (l : List UInt8) (ht : 1 ≤ t ∧ t ≤ 3) : textE t (refV t l) = 0 := by
  have : t = 1 ∨ t = 2 ∨ t = 3 := by omega
  rcases this with rfl | rfl | rfl
  · rfl
  · rfl
  · have := tr_01 (l = [116, 114, 117, 101])
    unfold textE; rw [if_pos (Or.inr (Or.inr ⟨rfl, this⟩))]
theorem refV_rng (t : Int) (l : List UInt8) : I32 (refV t l) := by
  unfold refV
  split
  · have := tr_01 (l = [116, 114, 117, 101]); unfold I32; omega
  · unfold sgn wrap32 I32; omega
/-- Both readers agree on what they accept, and on what they read then. -/
theorem readers (t : Int) (l : List UInt8) (ht : 1 ≤ t ∧ t ≤ 3) : (parOk t l = true ↔ textV t (refV t l) = l) ∧ (parOk t l = true → rawV t l = refV t l) := by
  have h1 : parOk t l = true → textV t (rawV t l) = l := by
    unfold parOk; simp
  have hr : parOk t l = true → rawV t l = refV t l := by
    intro h
    have := (text_read t (rawV t l) (rawV_rng t l) (rawE t l ht)).2.2
    rw [h1 h] at this; exact this.symm
  refine ⟨⟨fun h => by rw [← hr h]; exact h1 h, fun h => ?_⟩, hr⟩
  obtain ⟨a, b, c⟩ := text_read t (refV t l) (refV_rng t l) (refE t l ht)
  rw [h] at a b c
  unfold parOk
  rw [a, b, Bool.true_and]; exact decide_eq_true h
end Go.Proofs.YtikkmcgbmiddaaaDoor
