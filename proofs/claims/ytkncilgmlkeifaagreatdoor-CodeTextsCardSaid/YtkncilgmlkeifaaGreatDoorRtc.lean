import Derived.Test.YtkncilgmlkeifaaGreatDoorPar
import Derived.Lib.ParseIntBCases
import Derived.Lib.ItoaNum
/-
  The text of a code, read again (plain facts): words and lines, numbers and operands.
-/
set_option linter.unusedVariables false
set_option linter.unusedSimpArgs false
namespace Go.Proofs.YtkncilgmlkeifaaGreatDoor

/-- Words with blanks between them; a line. -/
def joinW : List (List UInt8) → List UInt8
  | [] => []
  | w :: ws => w ++ ws.flatMap (fun x => 32 :: x)
def lineT (ws : List (List UInt8)) : List UInt8 := joinW ws ++ [10]
def bA (l : List UInt8) : ByteArray := ⟨l.toArray⟩
def WOk (w : List UInt8) : Prop := ∀ c, c ∈ w → c ≠ 32 ∧ c ≠ 10
theorem splitB_join : ∀ (ws : List (List UInt8)) (w : List UInt8), WOk w → (∀ x, x ∈ ws → WOk x) → splitB (joinW (w :: ws)) = w :: ws
  | [], w, h, _ => by
    show splitB (w ++ []) = _
    rw [List.append_nil]
    exact splitB_none (fun c hc => (h c hc).1)
  | v :: ws, w, h, hs => by
    have e : joinW (w :: v :: ws) = w ++ 32 :: joinW (v :: ws) := by simp [joinW]
    rw [e, splitB_app _ (fun c hc => (h c hc).1), splitB_join ws v (hs v (by simp)) (fun x hx => hs x (by simp [hx]))]
theorem join_no10 : ∀ (ws : List (List UInt8)), (∀ x, x ∈ ws → WOk x) → ∀ c, c ∈ joinW ws → c ≠ 10
  | [], _, c, hc => by simp [joinW] at hc
  | w :: ws, h, c, hc => by
    simp only [joinW, List.mem_append, List.mem_flatMap, List.mem_cons] at hc
    rcases hc with hc | ⟨x, hx, rfl | hc⟩
    · exact (h w (by simp) c hc).2
    · decide
    · exact (h x (by simp [hx]) c hc).2
theorem linesL_app : ∀ (l r : List UInt8), (∀ c, c ∈ l → c ≠ 10) → linesL (l ++ 10 :: r) = (l ++ [10]) :: linesL r
  | [], r, _ => by simp [linesL]
  | c :: l, r, h => by
    rw [List.cons_append, linesL, if_neg (h c (by simp)), linesL_app l r (fun x hx => h x (by simp [hx]))]
    rfl
/-- Lines of words, none of them empty of words. -/
def LinesOk (L : List (List (List UInt8))) : Prop := ∀ ws, ws ∈ L → ws ≠ [] ∧ ∀ x, x ∈ ws → WOk x
theorem linesL_lines : ∀ (L : List (List (List UInt8))), LinesOk L → linesL (L.flatMap lineT) = L.map lineT
  | [], _ => rfl
  | ws :: L, h => by
    have e : (ws :: L).flatMap lineT = joinW ws ++ 10 :: L.flatMap lineT := by simp [lineT]
    rw [e, linesL_app _ _ (join_no10 ws (h ws (by simp)).2), linesL_lines L (fun x hx => h x (by simp [hx]))]
    rfl
theorem trim_line (l : List UInt8) : trimL (bA (l ++ [10])) = bA l := by
  have h : Lib.trimSuffix (l ++ [10]) [10] = l := by
    unfold Lib.trimSuffix Lib.hasSuffix
    have : List.isSuffixOf [10] (l ++ [10]) = true := by
      rw [List.isSuffixOf_iff_suffix]
      exact ⟨l, rfl⟩
    rw [if_pos this]
    simp
  show (⟨(Lib.trimSuffix (l ++ [10]).toArray.toList [10]).toArray⟩ : ByteArray) = bA l
  rw [List.toList_toArray, h]
  rfl
theorem cut_line {ws : List (List UInt8)} (hne : ws ≠ []) (h : ∀ x, x ∈ ws → WOk x) : cutL (trimL (bA (lineT ws))) = ws.map bA := by
  unfold lineT
  rw [trim_line]
  unfold cutL
  have e : (bA (joinW ws)).data.toList = joinW ws := List.toList_toArray
  rw [e]
  cases ws with
  | nil => exact absurd rfl hne
  | cons w ws => rw [splitB_join ws w (h w (by simp)) (fun x hx => h x (by simp [hx]))]; rfl
theorem read_lines (L : List (List (List UInt8))) (h : LinesOk L) : readV (bA (L.flatMap lineT)) = L.foldl (fun c ws => lineV c (ws.map bA)) cd0 := by
  have e : (bA (L.flatMap lineT)).data.toList = L.flatMap lineT := List.toList_toArray
  have hl : linesL (bA (L.flatMap lineT)).data.toList = L.map lineT := by rw [e, linesL_lines L h]
  have hn : nLines (bA (L.flatMap lineT)) = L.length := by unfold nLines; rw [hl, List.length_map]
  have hk : ∀ k, k ≤ L.length → readK (bA (L.flatMap lineT)) k = (L.take k).foldl (fun c ws => lineV c (ws.map bA)) cd0 := by
    intro k
    induction k with
    | zero => intro _; rfl
    | succ k ih =>
      intro hk
      have hlt : k < L.length := hk
      have e2 : lineN (bA (L.flatMap lineT)) k = bA (lineT L[k]) := by
        unfold lineN
        rw [hl, List.getD_eq_getElem?_getD, List.getElem?_map, List.getElem?_eq_getElem hlt]
        rfl
      have ho := h _ (List.getElem_mem hlt)
      show lineV (readK _ k) (cutL (trimL (lineN _ k))) = _
      rw [e2, cut_line ho.1 ho.2, ih (by omega), List.take_succ_eq_append_getElem hlt, List.foldl_append]
      rfl
  unfold readV
  rw [hn, hk _ (Nat.le_refl _), List.take_length]
theorem count_lines : ∀ (L : List (List (List UInt8))), LinesOk L → (L.flatMap lineT).count 10 = L.length
  | [], _ => rfl
  | ws :: L, h => by
    have e : (ws :: L).flatMap lineT = joinW ws ++ 10 :: L.flatMap lineT := by simp [lineT]
    have z : (joinW ws).count 10 = 0 := List.count_eq_zero.2 (fun hh => join_no10 ws (h ws (by simp)).2 10 hh rfl)
    rw [e, List.count_append, List.count_cons_self, count_lines L (fun x hx => h x (by simp [hx])), z, List.length_cons]
    omega
/-- Digits. -/
theorem dig_nat {u : Nat} (h : u < 10) : (UInt8.ofNat (48 + u)).toNat = 48 + u := by
  rw [UInt8.toNat_ofNat']
  omega
theorem dig_mem : ∀ (u : Nat) (c : UInt8), c ∈ Lib.decDigits u → 48 ≤ c.toNat ∧ c.toNat ≤ 57 := by
  intro u
  induction u using Nat.strongRecOn with
  | ind u ih =>
    intro c hc
    unfold Lib.decDigits at hc
    by_cases h : u < 10
    · rw [dif_pos h, List.mem_singleton] at hc
      subst hc
      rw [dig_nat h]
      omega
    · rw [dif_neg h] at hc
      rcases List.mem_append.1 hc with hc | hc
      · exact ih (u / 10) (by omega) c hc
      · rw [List.mem_singleton] at hc
        subst hc
        rw [dig_nat (by omega)]
        omega
theorem dig_ne (u : Nat) : Lib.decDigits u ≠ [] := by
  unfold Lib.decDigits
  split <;> simp
theorem dig_app : ∀ (u : Nat) (r : List UInt8), u < 18446744073709551616 → Lib.parseUint10 0 (Lib.decDigits u ++ r) = Lib.parseUint10 u r := by
  intro u
  induction u using Nat.strongRecOn with
  | ind u ih =>
    intro r hu
    unfold Lib.decDigits
    by_cases h : u < 10
    · rw [dif_pos h, List.singleton_append, Lib.parseUint10, dig_nat h, if_pos (by omega), if_neg (by omega), if_neg (by omega)]
      congr 1
      omega
    · rw [dif_neg h, List.append_assoc, List.singleton_append, ih (u / 10) (by omega) _ (by omega), Lib.parseUint10, dig_nat (u := u % 10) (by omega), if_pos (by omega), if_neg (by omega), if_neg (by omega)]
      congr 1
      omega
theorem digM_app (M : Nat) (hM : M ≤ 18446744073709551615) : ∀ (u : Nat) (r : List UInt8), u ≤ M → Lib.parseUintM M 0 (Lib.decDigits u ++ r) = Lib.parseUintM M u r := by
  intro u
  induction u using Nat.strongRecOn with
  | ind u ih =>
    intro r hu
    unfold Lib.decDigits
    by_cases h : u < 10
    · rw [dif_pos h, List.singleton_append, Lib.parseUintM, dig_nat h, if_pos (by omega), if_neg (by omega), if_neg (by omega)]
      congr 1
      omega
    · rw [dif_neg h, List.append_assoc, List.singleton_append, ih (u / 10) (by omega) _ (by omega), Lib.parseUintM, dig_nat (u := u % 10) (by omega), if_pos (by omega), if_neg (by omega), if_neg (by omega)]
      congr 1
      omega
theorem mag_dig {u : Nat} (h : u < 18446744073709551616) : Lib.parseMag (Lib.decDigits u) = .ok u := by
  unfold Lib.parseMag
  rw [if_neg (dig_ne u)]
  have := dig_app u [] h
  rw [List.append_nil] at this
  rw [this]
  rfl
theorem magB_dig {u : Nat} (h : u ≤ 4294967295) : Lib.parseUintB 32 (Lib.decDigits u) = .ok u := by
  unfold Lib.parseUintB
  rw [if_neg (dig_ne u)]
  have := digM_app 4294967295 (by omega) u [] h
  rw [List.append_nil] at this
  show Lib.parseUintM 4294967295 0 _ = _
  rw [this]
  rfl
theorem itoa_mem (n : Int) (c : UInt8) (h : c ∈ Lib.itoa n) : c.toNat = 45 ∨ (48 ≤ c.toNat ∧ c.toNat ≤ 57) := by
  unfold Lib.itoa at h
  split at h
  · rcases List.mem_cons.1 h with rfl | h
    · exact .inl rfl
    · exact .inr (dig_mem _ c h)
  · exact .inr (dig_mem _ c h)
theorem itoa_wok (n : Int) : WOk (Lib.itoa n) := fun c hc => by
  have := itoa_mem n c hc
  constructor
  · rintro rfl
    have : (32 : UInt8).toNat = 32 := rfl
    omega
  · rintro rfl
    have : (10 : UInt8).toNat = 10 := rfl
    omega
theorem atoiAll_itoa {n : Int} (h : I64 n) : Lib.atoiAll (Lib.itoa n) = .ok n := by
  obtain ⟨h0, h1⟩ := h
  by_cases hn : n < 0
  · have e : Lib.itoa n = 45 :: Lib.decDigits n.natAbs := by unfold Lib.itoa; rw [if_pos hn]
    rw [e, Lib.atoiAll_minus, mag_dig (by omega)]
    show (if 9223372036854775808 < n.natAbs then Lib.NumEnd.range else .ok (-(n.natAbs : Int))) = _
    rw [if_neg (by omega)]
    congr 1
    omega
  · have e : Lib.itoa n = Lib.decDigits n.toNat := by unfold Lib.itoa; rw [if_neg hn]
    have hd := dig_mem n.toNat
    have hm := mag_dig (u := n.toNat) (by omega)
    rw [e]
    cases hl : Lib.decDigits n.toNat with
    | nil => exact absurd hl (dig_ne _)
    | cons c r =>
      rw [hl] at hd hm
      have hc := hd c (by simp)
      rw [Lib.atoiAll_plain c r (by omega) (by omega), hm]
      show (if 9223372036854775808 ≤ n.toNat then Lib.NumEnd.range else .ok (n.toNat : Int)) = _
      rw [if_neg (by omega)]
      congr 1
      omega
theorem atoi_itoa {n : Int} (h : I64 n) : atoiV (Lib.itoa n) = n := by
  unfold atoiV
  rw [atoiAll_itoa h]
theorem parseInt_itoa {v : Int} (h : I32b v) : Lib.parseIntB 32 (Lib.itoa v) = .ok v := by
  obtain ⟨h0, h1⟩ := h
  by_cases hn : v < 0
  · have e : Lib.itoa v = 45 :: Lib.decDigits v.natAbs := by unfold Lib.itoa; rw [if_pos hn]
    rw [e, Lib.parseIntB_minus, magB_dig (by omega)]
    show (if 2147483648 < v.natAbs then Lib.NumEnd.range else .ok (-(v.natAbs : Int))) = _
    rw [if_neg (by omega)]
    congr 1
    omega
  · have e : Lib.itoa v = Lib.decDigits v.toNat := by unfold Lib.itoa; rw [if_neg hn]
    have hd := dig_mem v.toNat
    have hm := magB_dig (u := v.toNat) (by omega)
    rw [e]
    cases hl : Lib.decDigits v.toNat with
    | nil => exact absurd hl (dig_ne _)
    | cons c r =>
      rw [hl] at hd hm
      have hc := hd c (by simp)
      rw [Lib.parseIntB_plain 32 c r (by omega) (by omega), hm]
      show (if 2147483648 ≤ v.toNat then Lib.NumEnd.range else .ok (v.toNat : Int)) = _
      rw [if_neg (by omega)]
      congr 1
      omega
theorem pint_itoa {v : Int} (h : I32b v) : pintV (Lib.itoa v) = v := by
  unfold pintV
  rw [parseInt_itoa h]
/-- The word of an operand, and what is read. -/
def opdW (o : OpdV) : List UInt8 := if o.k = 1 then Lib.itoa o.v else 114 :: Lib.itoa o.n
theorem opdT_W (o : OpdV) : opdT o = 32 :: opdW o := by
  unfold opdT opdW
  split <;> rfl
theorem opdW_wok (o : OpdV) : WOk (opdW o) := by
  unfold opdW
  split
  · exact itoa_wok _
  · intro c hc
    rcases List.mem_cons.1 hc with rfl | hc
    · decide
    · exact itoa_wok _ c hc
/-- An operand that is there: a number or a register. -/
def OpdOk (o : OpdV) : Prop := (o.k = 1 ∧ o.n = 0) ∨ (o.k = 2 ∧ o.v = 0)
theorem opd_read {o : OpdV} (h : OpdOk o) (hr : o.Rng) : opdR (bA (opdW o)) = o := by
  obtain ⟨k, n, v⟩ := o
  have e : ∀ l, (bA l).data.toList = l := fun l => List.toList_toArray
  unfold opdR opdW
  rcases h with ⟨h1, h2⟩ | ⟨h1, h2⟩
  · simp only at h1 h2
    subst h1 h2
    simp only [if_true, e]
    have hp : Lib.hasPrefix (Lib.itoa v) [114] = false := by
      cases hl : Lib.itoa v with
      | nil => rfl
      | cons c r =>
        have hc := itoa_mem v c (by rw [hl]; simp)
        have hne : c ≠ 114 := by
          rintro rfl
          have : (114 : UInt8).toNat = 114 := rfl
          omega
        unfold Lib.hasPrefix
        simp [List.isPrefixOf, Ne.symm hne]
    rw [hp]
    simp only [Bool.false_eq_true, if_false]
    rw [pint_itoa hr.v]
  · simp only at h1 h2
    subst h1 h2
    have h21 : ¬ ((2 : Int) = 1) := by decide
    simp only [if_neg h21, e]
    have hp : Lib.hasPrefix (114 :: Lib.itoa n) [114] = true := by simp [Lib.hasPrefix, List.isPrefixOf]
    rw [if_pos hp]
    unfold Lib.trimPrefix
    rw [if_pos hp]
    show (⟨2, atoiV ((114 :: Lib.itoa n).drop 1), 0⟩ : OpdV) = _
    rw [List.drop_succ_cons, List.drop_zero, atoi_itoa hr.n]
end Go.Proofs.YtkncilgmlkeifaaGreatDoor
/-
  The text of a code, read again (plain facts): parts, instructions, ends.
-/
set_option linter.unusedVariables false
set_option linter.unusedSimpArgs false
namespace Go.Proofs.YtkncilgmlkeifaaGreatDoor
open Go.ChangeShapes Go.WideShapes Go.ChangeAt Go.RowKit Go.Shelf

theorem bA_data (l : List UInt8) : (bA l).data.toList = l := List.toList_toArray
theorem bA_word (x : Array UInt8) : bA x.toList = ⟨x⟩ := rfl
/-- The word of step s. -/
def stepW (q : PartV) (s : Nat) : List UInt8 :=
  if s = 0 then Lib.itoa q.sub else if s = 1 then Lib.itoa q.n else if s = 2 then opdW q.d else if s = 3 then opdW q.a else if s = 4 then opdW q.b else if s = 5 then opdW q.c else if s = 6 then Lib.itoa q.t0 else Lib.itoa q.t1
theorem stepT_W (q : PartV) (s : Nat) : stepT q s = 32 :: stepW q s := by
  unfold stepT stepW
  repeat' split
  all_goals first | rfl | exact opdT_W _
theorem stepW_wok (q : PartV) (s : Nat) : WOk (stepW q s) := by
  unfold stepW
  repeat' split
  all_goals first | exact itoa_wok _ | exact opdW_wok _
def wordsF (f : FormV) (q : PartV) : Nat → List (List UInt8)
  | 0 => []
  | s + 1 => wordsF f q s ++ if f.want s = true then [stepW q s] else []
theorem partsT_W (f : FormV) (q : PartV) : ∀ s, partsT f q s = (wordsF f q s).flatMap (fun x => 32 :: x)
  | 0 => rfl
  | s + 1 => by
    rw [partsT, wordsF, List.flatMap_append, partsT_W f q s]
    split
    · simp [stepT_W]
    · simp
theorem wordsF_len (f : FormV) (q : PartV) : ∀ s, (wordsF f q s).length = cnt f s
  | 0 => rfl
  | s + 1 => by
    rw [wordsF, cnt, List.length_append, wordsF_len f q s]
    split <;> rfl
theorem wordsF_wok (f : FormV) (q : PartV) : ∀ s x, x ∈ wordsF f q s → WOk x
  | 0, x, h => by simp [wordsF] at h
  | s + 1, x, h => by
    rw [wordsF] at h
    rcases List.mem_append.1 h with h | h
    · exact wordsF_wok f q s x h
    · split at h
      · rw [List.mem_singleton] at h
        subst h
        exact stepW_wok q s
      · simp at h
theorem wordsF_get (f : FormV) (q : PartV) {s : Nat} (hw : f.want s = true) : ∀ t, s < t → (wordsF f q t)[cnt f s]? = some (stepW q s)
  | 0, h => absurd h (by omega)
  | t + 1, h => by
    rw [wordsF]
    by_cases e : s = t
    · subst e
      rw [if_pos hw, ← wordsF_len f q s, List.getElem?_append_right (Nat.le_refl _), Nat.sub_self]
      rfl
    · have ih := wordsF_get f q hw t (by omega)
      rw [List.getElem?_append_left (List.getElem?_eq_some_iff.1 ih).1]
      exact ih
theorem fld_get (f : FormV) (q : PartV) (rest : List ByteArray) {s : Nat} (hw : f.want s = true) (hs : s < 8) : fldS f ((wordsF f q 8).map bA ++ rest) s = bA (stepW q s) := by
  have h := wordsF_get f q hw 8 hs
  have hlt := (List.getElem?_eq_some_iff.1 h).1
  unfold fldS
  rw [List.getD_eq_getElem?_getD, List.getElem?_append_left (by rw [List.length_map]; exact hlt), List.getElem?_map, h]
  rfl
/-- The wanted parts are there, the others are zero. -/
structure PartOk (f : FormV) (q : PartV) : Prop where
  sub : f.want 0 = false → q.sub = 0
  n : f.want 1 = false → q.n = 0
  d : (f.want 2 = true → OpdOk q.d) ∧ (f.want 2 = false → q.d = noOpd)
  a : (f.want 3 = true → OpdOk q.a) ∧ (f.want 3 = false → q.a = noOpd)
  b : (f.want 4 = true → OpdOk q.b) ∧ (f.want 4 = false → q.b = noOpd)
  c : (f.want 5 = true → OpdOk q.c) ∧ (f.want 5 = false → q.c = noOpd)
  t0 : f.want 6 = false → q.t0 = 0
  t1 : f.want 7 = false → q.t1 = 0
theorem opd0 {o : OpdV} (hk : o.k = 0) (hn : o.n = 0) (hv : o.v = 0) : o = noOpd := by
  obtain ⟨k, n, v⟩ := o
  simp only at hk hn hv
  subst hk hn hv
  rfl
theorem regB_ok {r : Int} {o : OpdV} (h : regB r o = true) : OpdOk o := by
  unfold regB at h
  simp only [Bool.and_eq_true, decide_eq_true_eq] at h
  exact .inr ⟨h.1, h.2.1⟩
theorem valB_ok {r : Int} {o : OpdV} (h : valB r o = true) : OpdOk o := by
  unfold valB at h
  simp only [Bool.or_eq_true, Bool.and_eq_true, decide_eq_true_eq] at h
  rcases h with h | h
  · exact .inl h
  · exact regB_ok h
theorem not_or {x y : Bool} (h : (!x || y) = true) (hx : x = true) : y = true := by
  subst hx
  simpa using h
theorem partOk_of {p sl r : Int} {n1 n3 : Nat} {sp : Nat → Int} {f : FormV} {q : PartV} (h : hasV p sl r n1 n3 sp f q = true) : PartOk f q := by
  unfold hasV at h
  simp only [Bool.and_eq_true] at h
  obtain ⟨hz, _, ⟨hd, ha, hb, hc⟩, _⟩ := h
  unfold zeroP at hz
  simp only [Bool.and_eq_true, beq_iff_eq, othV] at hz
  obtain ⟨z0, z1, z2, z3, z4, z5, z6, z7, z8, z9, z10, z11, z12, z13, z14, z15⟩ := hz
  exact ⟨fun w => by simpa [w] using z0, fun w => by simpa [w] using z1,
    ⟨fun w => regB_ok (not_or hd w), fun w => opd0 (by simpa [w] using z2) (by simpa [w] using z3) (by simpa [w] using z4)⟩,
    ⟨fun w => valB_ok (not_or ha w), fun w => opd0 (by simpa [w] using z5) (by simpa [w] using z6) (by simpa [w] using z7)⟩,
    ⟨fun w => valB_ok (not_or hb w), fun w => opd0 (by simpa [w] using z8) (by simpa [w] using z9) (by simpa [w] using z10)⟩,
    ⟨fun w => valB_ok (not_or hc w), fun w => opd0 (by simpa [w] using z11) (by simpa [w] using z12) (by simpa [w] using z13)⟩,
    fun w => by simpa [w] using z14, fun w => by simpa [w] using z15⟩
theorem rdV_words {f : FormV} {q : PartV} (h : PartOk f q) (hr : q.Rng) (rest : List ByteArray) : rdV f ((wordsF f q 8).map bA ++ rest) = q := by
  have num : ∀ (s : Nat) (n : Int), s < 8 → I64 n → stepW q s = Lib.itoa n → (f.want s = false → n = 0) → (if f.want s = true then atoiV (fldS f ((wordsF f q 8).map bA ++ rest) s).data.toList else 0) = n := by
    intro s n hs hn he hz
    cases hw : f.want s with
    | true => rw [if_pos rfl, fld_get f q rest hw hs, bA_data, he, atoi_itoa hn]
    | false =>
      rw [if_neg (by decide)]
      exact (hz hw).symm
  have op : ∀ (s : Nat) (o : OpdV), s < 8 → o.Rng → stepW q s = opdW o → ((f.want s = true → OpdOk o) ∧ (f.want s = false → o = noOpd)) → (if f.want s = true then opdR (fldS f ((wordsF f q 8).map bA ++ rest) s) else noOpd) = o := by
    intro s o hs ho he hz
    cases hw : f.want s with
    | true => rw [if_pos rfl, fld_get f q rest hw hs, he, opd_read (hz.1 hw) ho]
    | false =>
      rw [if_neg (by decide)]
      exact (hz.2 hw).symm
  unfold rdV
  rw [num 0 q.sub (by decide) hr.sub rfl h.sub, num 1 q.n (by decide) hr.n rfl h.n, op 2 q.d (by decide) hr.d rfl h.d, op 3 q.a (by decide) hr.a rfl h.a, op 4 q.b (by decide) hr.b rfl h.b, op 5 q.c (by decide) hr.c rfl h.c, num 6 q.t0 (by decide) hr.t0 rfl h.t0, num 7 q.t1 (by decide) hr.t1 rfl h.t1]
/-- The words of the forms are different ones. -/
theorem iw_inj : ∀ j : Nat, j < 12 → ∀ m : Nat, m < 12 → (instF ((j : Int) + 1)).word = (instF ((m : Int) + 1)).word → j = m := by decide +kernel
theorem iw_end : ∀ j : Nat, j < 12 → ∀ m : Nat, m < 5 → (instF ((j : Int) + 1)).word ≠ (endF ((m : Int) + 1)).word := by decide +kernel
theorem ew_inj : ∀ j : Nat, j < 5 → ∀ m : Nat, m < 5 → (endF ((j : Int) + 1)).word = (endF ((m : Int) + 1)).word → j = m := by decide +kernel
theorem iw_line : ∀ j : Nat, j < 12 → (instF ((j : Int) + 1)).word ≠ #[99, 111, 100, 101] ∧ (instF ((j : Int) + 1)).word ≠ #[97, 114, 114, 97, 121] ∧ (instF ((j : Int) + 1)).word ≠ #[108, 111, 111, 112] ∧ (instF ((j : Int) + 1)).word ≠ #[98, 108, 111, 99, 107] := by decide +kernel
theorem ew_line : ∀ j : Nat, j < 5 → (endF ((j : Int) + 1)).word ≠ #[99, 111, 100, 101] ∧ (endF ((j : Int) + 1)).word ≠ #[97, 114, 114, 97, 121] ∧ (endF ((j : Int) + 1)).word ≠ #[108, 111, 111, 112] ∧ (endF ((j : Int) + 1)).word ≠ #[98, 108, 111, 99, 107] := by decide +kernel
theorem iw_wok : ∀ j : Nat, j < 12 → ∀ c, c ∈ (instF ((j : Int) + 1)).word.toList → c ≠ 32 ∧ c ≠ 10 := by decide +kernel
theorem ew_wok : ∀ j : Nat, j < 5 → ∀ c, c ∈ (endF ((j : Int) + 1)).word.toList → c ≠ 32 ∧ c ≠ 10 := by decide +kernel
theorem stI_none (wd : ByteArray) (fs : List ByteArray) (is : List InstV) : ∀ k : Nat, (∀ j : Nat, j < k → (instF ((j : Int) + 1)).word ≠ wd.data) → stI wd fs is k = (fs, is)
  | 0, _ => rfl
  | k + 1, h => by
    have ih := stI_none wd fs is k (fun j hj => h j (by omega))
    rw [stI, ih]
    exact if_neg (h k (by omega))
theorem stT_none (wd : ByteArray) (fs : List ByteArray) (t : TermV) : ∀ k : Nat, (∀ j : Nat, j < k → (endF ((j : Int) + 1)).word ≠ wd.data) → stT wd fs t k = (fs, t)
  | 0, _ => rfl
  | k + 1, h => by
    have ih := stT_none wd fs t k (fun j hj => h j (by omega))
    rw [stT, ih]
    exact if_neg (h k (by omega))
theorem stI_one {m : Nat} (hm : m < 12) (fs : List ByteArray) (is : List InstV) : ∀ k : Nat, m < k → k ≤ 12 → stI ⟨(instF ((m : Int) + 1)).word⟩ fs is k = (fs.drop (cnt (instF ((m : Int) + 1)) 8), is ++ [let q := rdV (instF ((m : Int) + 1)) fs; ⟨(m : Int) + 1, q.sub, q.n, q.d, q.a, q.b, q.c⟩])
  | 0, h, _ => absurd h (by omega)
  | k + 1, h, h12 => by
    by_cases e : k = m
    · subst e
      have ih := stI_none ⟨(instF ((k : Int) + 1)).word⟩ fs is k (fun j hj hh => by have := iw_inj j (by omega) k (by omega) hh; omega)
      rw [stI, ih]
      exact if_pos rfl
    · have ih := stI_one hm fs is k (by omega) (by omega)
      rw [stI, ih]
      exact if_neg (fun hh => e (iw_inj k (by omega) m hm hh))
theorem stT_one {m : Nat} (hm : m < 5) (fs : List ByteArray) (t : TermV) : ∀ k : Nat, m < k → k ≤ 5 → stT ⟨(endF ((m : Int) + 1)).word⟩ fs t k = (fs.drop (cnt (endF ((m : Int) + 1)) 8), let q := rdV (endF ((m : Int) + 1)) fs; ⟨(m : Int) + 1, q.sub, q.d, q.a, q.b, q.t0, q.t1⟩)
  | 0, h, _ => absurd h (by omega)
  | k + 1, h, h12 => by
    by_cases e : k = m
    · subst e
      have ih := stT_none ⟨(endF ((k : Int) + 1)).word⟩ fs t k (fun j hj hh => by have := ew_inj j (by omega) k (by omega) hh; omega)
      rw [stT, ih]
      exact if_pos rfl
    · have ih := stT_one hm fs t k (by omega) (by omega)
      rw [stT, ih]
      exact if_neg (fun hh => e (ew_inj k (by omega) m hm hh))
/-- The words of an instruction and of an end. -/
def instW (i : InstV) : List (List UInt8) := (instF i.op).word.toList :: wordsF (instF i.op) i.parts 8
def endW (t : TermV) : List (List UInt8) := (endF t.kind).word.toList :: wordsF (endF t.kind) t.parts 8
theorem instT_W (i : InstV) : instT i = lineT (instW i) := by
  unfold instT lineT instW joinW
  rw [partsT_W]
theorem endT_W (t : TermV) : endT t = lineT (endW t) := by
  unfold endT lineT endW joinW
  rw [partsT_W]
structure InstOk (i : InstV) : Prop where
  op : 1 ≤ i.op ∧ i.op ≤ 12
  parts : PartOk (instF i.op) i.parts
  rng : i.parts.Rng
structure EndOk (t : TermV) : Prop where
  kind : 1 ≤ t.kind ∧ t.kind ≤ 5
  parts : PartOk (endF t.kind) t.parts
  rng : t.parts.Rng
theorem inst_line (c : CdV) (B : List (List InstV × TermV)) (is : List InstV) (t : TermV) (i : InstV) (hb : c.b = B ++ [(is, t)]) (h : InstOk i) : lineV c ((instW i).map bA) = { c with b := B ++ [(is ++ [i], t)] } := by
  obtain ⟨m, hm⟩ : ∃ m : Nat, i.op = (m : Int) + 1 := ⟨(i.op - 1).toNat, by have := h.op; omega⟩
  have hm12 : m < 12 := by have := h.op; omega
  have hf : fldV ((instW i).map bA) = ⟨(instF ((m : Int) + 1)).word⟩ := by
    show bA (instF i.op).word.toList = _
    rw [hm]
    rfl
  have ht : ((instW i).map bA).tail = (wordsF (instF i.op) i.parts 8).map bA ++ [] := by
    rw [List.append_nil]
    rfl
  obtain ⟨l1, l2, l3, l4⟩ := iw_line m hm12
  have ne : ∀ x : Array UInt8, (instF ((m : Int) + 1)).word ≠ x → ¬ ((⟨(instF ((m : Int) + 1)).word⟩ : ByteArray) = ⟨x⟩) := fun x hx he => hx (congrArg ByteArray.data he)
  unfold lineV
  rw [hf, if_neg (ne _ l1), if_neg (ne _ l2), if_neg (ne _ l3), if_neg (ne _ l4), hb, List.getLast?_concat]
  simp only [List.dropLast_concat]
  rw [stI_one hm12 _ is 12 hm12 (Nat.le_refl _)]
  simp only
  rw [stT_none _ _ t 5 (fun j hj hh => iw_end m hm12 j hj hh.symm)]
  simp only
  have hq : rdV (instF ((m : Int) + 1)) ((instW i).map bA).tail = i.parts := by
    rw [ht, ← hm]
    exact rdV_words h.parts h.rng []
  rw [hq]
  have hi : (⟨(m : Int) + 1, i.parts.sub, i.parts.n, i.parts.d, i.parts.a, i.parts.b, i.parts.c⟩ : InstV) = i := by
    rw [← hm]
    rfl
  rw [hi]
theorem end_line (c : CdV) (B : List (List InstV × TermV)) (is : List InstV) (t0 t : TermV) (hb : c.b = B ++ [(is, t0)]) (h : EndOk t) : lineV c ((endW t).map bA) = { c with b := B ++ [(is, t)] } := by
  obtain ⟨m, hm⟩ : ∃ m : Nat, t.kind = (m : Int) + 1 := ⟨(t.kind - 1).toNat, by have := h.kind; omega⟩
  have hm5 : m < 5 := by have := h.kind; omega
  have hf : fldV ((endW t).map bA) = ⟨(endF ((m : Int) + 1)).word⟩ := by
    show bA (endF t.kind).word.toList = _
    rw [hm]
    rfl
  have ht : ((endW t).map bA).tail = (wordsF (endF t.kind) t.parts 8).map bA ++ [] := by
    rw [List.append_nil]
    rfl
  obtain ⟨l1, l2, l3, l4⟩ := ew_line m hm5
  have ne : ∀ x : Array UInt8, (endF ((m : Int) + 1)).word ≠ x → ¬ ((⟨(endF ((m : Int) + 1)).word⟩ : ByteArray) = ⟨x⟩) := fun x hx he => hx (congrArg ByteArray.data he)
  unfold lineV
  rw [hf, if_neg (ne _ l1), if_neg (ne _ l2), if_neg (ne _ l3), if_neg (ne _ l4), hb, List.getLast?_concat]
  simp only [List.dropLast_concat]
  rw [stI_none _ _ is 12 (fun j hj hh => iw_end j hj m hm5 hh)]
  simp only
  rw [stT_one hm5 _ t0 5 hm5 (Nat.le_refl _)]
  simp only
  have hq : rdV (endF ((m : Int) + 1)) ((endW t).map bA).tail = t.parts := by
    rw [ht, ← hm]
    exact rdV_words h.parts h.rng []
  rw [hq]
  have hi : (⟨(m : Int) + 1, t.parts.sub, t.parts.d, t.parts.a, t.parts.b, t.parts.t0, t.parts.t1⟩ : TermV) = t := by
    rw [← hm]
    rfl
  rw [hi]
end Go.Proofs.YtkncilgmlkeifaaGreatDoor
/-
  The text of a code, read again (plain facts): the lines of a code.
-/
set_option linter.unusedVariables false
set_option linter.unusedSimpArgs false
namespace Go.Proofs.YtkncilgmlkeifaaGreatDoor
open Go.ChangeShapes Go.WideShapes Go.ChangeAt Go.RowKit Go.Shelf

theorem catT_list {α : Type} (l : List α) (F : Nat → List UInt8) (G : α → List UInt8) (h : ∀ j (hj : j < l.length), F j = G l[j]) : catT F l.length = l.flatMap G := by
  have : ∀ k, k ≤ l.length → catT F k = (l.take k).flatMap G := by
    intro k
    induction k with
    | zero => intro _; rfl
    | succ k ih =>
      intro hk
      rw [catT, ih (by omega), h k hk, List.take_succ_eq_append_getElem hk, List.flatMap_append]
      simp
  rw [this _ (Nat.le_refl _), List.take_length]
theorem instsT_cat (I : Nat → InstV) : ∀ n, instsT I n = catT (fun k => instT (I k)) n
  | 0 => rfl
  | n + 1 => by rw [instsT, catT, instsT_cat I n]
def headW (n : Nat → Int) : List (List UInt8) := [[99, 111, 100, 101], Lib.itoa (n 0), Lib.itoa (n 1), Lib.itoa (n 2), Lib.itoa (n 3), Lib.itoa (n 4)]
def arrW (a : ArV) : List (List UInt8) := [[97, 114, 114, 97, 121], a.1.data.toList, Lib.itoa a.2.1, Lib.itoa a.2.2.1, Lib.itoa a.2.2.2]
def loopW (l : LoV) : List (List UInt8) := [[108, 111, 111, 112], Lib.itoa l.1, Lib.itoa l.2.1, Lib.itoa l.2.2]
def blkW (e : List InstV × TermV) : List (List (List UInt8)) := [[98, 108, 111, 99, 107]] :: (e.1.map instW ++ [endW e.2])
/-- The lines of a code. -/
def linesC (c : CdV) : List (List (List UInt8)) := headW c.n :: (c.q.map arrW ++ (c.l.map loopW ++ c.b.flatMap blkW))
theorem txt_lines (c : CdV) : txtC c = (linesC c).flatMap lineT := by
  have h0 : headT (c.n 0) (c.n 1) (c.n 2) (c.n 3) (c.n 4) = lineT (headW c.n) := by
    simp [headT, lineT, headW, joinW, numsT, f5]
  have h1 : catT (fun j => arrT (c.nm j) (c.sp j) (c.ty j) (c.ln j)) c.q.length = c.q.flatMap fun a => lineT (arrW a) := catT_list _ _ _ fun j hj => by
    simp only [CdV.nm, CdV.sp, CdV.ty, CdV.ln, getD_of _ _ _ hj]
    simp [arrT, lineT, arrW, joinW, numsT, f3]
  have h2 : catT (fun j => loopT (c.hd j) (c.rg j) (c.bd j)) c.l.length = c.l.flatMap fun a => lineT (loopW a) := catT_list _ _ _ fun j hj => by
    simp only [CdV.hd, CdV.rg, CdV.bd, getD_of _ _ _ hj]
    simp [loopT, lineT, loopW, joinW, numsT, f3]
  have h3 : catT (fun j => blockT (c.il j) (c.is j) (c.te j)) c.b.length = c.b.flatMap fun e => (blkW e).flatMap lineT := catT_list _ _ _ fun j hj => by
    have e1 : c.il j = (c.b[j]).1.length := by unfold CdV.il; rw [getD_of _ _ _ hj]
    have e2 : c.te j = (c.b[j]).2 := by unfold CdV.te; rw [getD_of _ _ _ hj]
    have e3 : instsT (c.is j) (c.b[j]).1.length = (c.b[j]).1.flatMap fun i => lineT (instW i) := by
      rw [instsT_cat]
      exact catT_list _ _ _ fun k hk => by
        unfold CdV.is
        rw [getD_of _ _ _ hj, getD_of _ _ _ hk, instT_W]
    show blockT (c.il j) (c.is j) (c.te j) = _
    unfold blockT
    rw [e1, e2, e3, endT_W]
    unfold blkW
    rw [List.flatMap_cons, List.flatMap_append, List.flatMap_map, List.append_assoc]
    simp [lineT, joinW]
  unfold txtC textT linesC
  rw [h0, h1, h2, h3, List.flatMap_cons, List.flatMap_append, List.flatMap_append, List.flatMap_map, List.flatMap_map, List.flatMap_assoc, List.append_assoc, List.append_assoc]
/-- A code whose text is read as this code. -/
structure RtOk (c : CdV) : Prop where
  n : ∀ j, j < 5 → I64 (c.n j)
  q : ∀ a, a ∈ c.q → WOk a.1.data.toList ∧ I64 a.2.1 ∧ I64 a.2.2.1 ∧ I64 a.2.2.2
  l : ∀ a, a ∈ c.l → I64 a.1 ∧ I64 a.2.1 ∧ I64 a.2.2
  b : ∀ e, e ∈ c.b → (∀ i, i ∈ e.1 → InstOk i) ∧ EndOk e.2
theorem inst_wok {i : InstV} (h : InstOk i) : ∀ x, x ∈ instW i → WOk x := by
  intro x hx
  rcases List.mem_cons.1 hx with rfl | hx
  · obtain ⟨m, hm⟩ : ∃ m : Nat, i.op = (m : Int) + 1 := ⟨(i.op - 1).toNat, by have := h.op; omega⟩
    rw [hm]
    exact iw_wok m (by have := h.op; omega)
  · exact wordsF_wok _ _ _ x hx
theorem end_wok {t : TermV} (h : EndOk t) : ∀ x, x ∈ endW t → WOk x := by
  intro x hx
  rcases List.mem_cons.1 hx with rfl | hx
  · obtain ⟨m, hm⟩ : ∃ m : Nat, t.kind = (m : Int) + 1 := ⟨(t.kind - 1).toNat, by have := h.kind; omega⟩
    rw [hm]
    exact ew_wok m (by have := h.kind; omega)
  · exact wordsF_wok _ _ _ x hx
theorem wok_code : WOk [99, 111, 100, 101] := by unfold WOk; decide
theorem wok_array : WOk [97, 114, 114, 97, 121] := by unfold WOk; decide
theorem wok_loop : WOk [108, 111, 111, 112] := by unfold WOk; decide
theorem wok_block : WOk [98, 108, 111, 99, 107] := by unfold WOk; decide
theorem lines_ok {c : CdV} (h : RtOk c) : LinesOk (linesC c) := by
  intro ws hws
  rcases List.mem_cons.1 hws with rfl | hws
  · refine ⟨by simp [headW], fun x hx => ?_⟩
    simp only [headW, List.mem_cons, List.not_mem_nil, or_false] at hx
    rcases hx with rfl | rfl | rfl | rfl | rfl | rfl
    · exact wok_code
    all_goals exact itoa_wok _
  rcases List.mem_append.1 hws with hws | hws
  · obtain ⟨a, ha, rfl⟩ := List.mem_map.1 hws
    refine ⟨by simp [arrW], fun x hx => ?_⟩
    simp only [arrW, List.mem_cons, List.not_mem_nil, or_false] at hx
    rcases hx with rfl | rfl | rfl | rfl | rfl
    · exact wok_array
    · exact (h.q a ha).1
    all_goals exact itoa_wok _
  rcases List.mem_append.1 hws with hws | hws
  · obtain ⟨a, ha, rfl⟩ := List.mem_map.1 hws
    refine ⟨by simp [loopW], fun x hx => ?_⟩
    simp only [loopW, List.mem_cons, List.not_mem_nil, or_false] at hx
    rcases hx with rfl | rfl | rfl | rfl
    · exact wok_loop
    all_goals exact itoa_wok _
  obtain ⟨e, he, hws⟩ := List.mem_flatMap.1 hws
  rcases List.mem_cons.1 hws with rfl | hws
  · refine ⟨by simp, fun x hx => ?_⟩
    rw [List.mem_singleton] at hx
    subst hx
    exact wok_block
  rcases List.mem_append.1 hws with hws | hws
  · obtain ⟨i, hi, rfl⟩ := List.mem_map.1 hws
    exact ⟨by simp [instW], inst_wok ((h.b e he).1 i hi)⟩
  · rw [List.mem_singleton] at hws
    subst hws
    exact ⟨by simp [endW], end_wok (h.b e he).2⟩
theorem ba_ne {x y : Array UInt8} (h : x ≠ y) : ¬ ((⟨x⟩ : ByteArray) = ⟨y⟩) := fun he => h (congrArg ByteArray.data he)
theorem head_line (c : CdV) (n : Nat → Int) (h : ∀ j, j < 5 → I64 (n j)) : lineV c ((headW n).map bA) = { c with n := fun j => if j < 5 then n j else c.n j } := by
  unfold lineV
  rw [if_pos (show fldV ((headW n).map bA) = ⟨#[99, 111, 100, 101]⟩ from rfl)]
  congr 1
  funext j
  by_cases hj : j < 5
  · rw [if_pos hj, if_pos hj]
    match j, hj with
    | 0, hj => exact (atoi_itoa (h 0 hj))
    | 1, hj => exact (atoi_itoa (h 1 hj))
    | 2, hj => exact (atoi_itoa (h 2 hj))
    | 3, hj => exact (atoi_itoa (h 3 hj))
    | 4, hj => exact (atoi_itoa (h 4 hj))
  · rw [if_neg hj, if_neg hj]
theorem arr_line (c : CdV) (a : ArV) (h : I64 a.2.1 ∧ I64 a.2.2.1 ∧ I64 a.2.2.2) : lineV c ((arrW a).map bA) = { c with q := c.q ++ [a] } := by
  have e : fldV ((arrW a).map bA) = ⟨#[97, 114, 114, 97, 121]⟩ := rfl
  unfold lineV
  rw [e, if_neg (ba_ne (by decide)), if_pos rfl]
  have e1 : atoiV ((((arrW a).map bA).tail.tail.getD 0 ⟨#[]⟩).data.toList) = a.2.1 := atoi_itoa h.1
  have e2 : atoiV ((((arrW a).map bA).tail.tail.getD 1 ⟨#[]⟩).data.toList) = a.2.2.1 := atoi_itoa h.2.1
  have e3 : atoiV ((((arrW a).map bA).tail.tail.getD 2 ⟨#[]⟩).data.toList) = a.2.2.2 := atoi_itoa h.2.2
  have e0 : fldV ((arrW a).map bA).tail = a.1 := rfl
  rw [e0, e1, e2, e3]
theorem loop_line (c : CdV) (a : LoV) (h : I64 a.1 ∧ I64 a.2.1 ∧ I64 a.2.2) : lineV c ((loopW a).map bA) = { c with l := c.l ++ [a] } := by
  have e : fldV ((loopW a).map bA) = ⟨#[108, 111, 111, 112]⟩ := rfl
  unfold lineV
  rw [e, if_neg (ba_ne (by decide)), if_neg (ba_ne (by decide)), if_pos rfl]
  have e1 : atoiV ((((loopW a).map bA).tail.getD 0 ⟨#[]⟩).data.toList) = a.1 := atoi_itoa h.1
  have e2 : atoiV ((((loopW a).map bA).tail.getD 1 ⟨#[]⟩).data.toList) = a.2.1 := atoi_itoa h.2.1
  have e3 : atoiV ((((loopW a).map bA).tail.getD 2 ⟨#[]⟩).data.toList) = a.2.2 := atoi_itoa h.2.2
  rw [e1, e2, e3]
theorem blk_line (c : CdV) : lineV c (([[98, 108, 111, 99, 107]] : List (List UInt8)).map bA) = { c with b := c.b ++ [([], zeroT)] } := by
  have e : fldV ((([[98, 108, 111, 99, 107]] : List (List UInt8))).map bA) = ⟨#[98, 108, 111, 99, 107]⟩ := rfl
  unfold lineV
  rw [e, if_neg (ba_ne (by decide)), if_neg (ba_ne (by decide)), if_neg (ba_ne (by decide)), if_pos rfl]
/-- What is read, line by line. -/
abbrev stL (c : CdV) (ws : List (List UInt8)) : CdV := lineV c (ws.map bA)
theorem fold_q : ∀ (q : List ArV) (c : CdV), (∀ a, a ∈ q → I64 a.2.1 ∧ I64 a.2.2.1 ∧ I64 a.2.2.2) → (q.map arrW).foldl stL c = { c with q := c.q ++ q }
  | [], c, _ => by simp
  | a :: q, c, h => by
    rw [List.map_cons, List.foldl_cons]
    show (q.map arrW).foldl stL (lineV c ((arrW a).map bA)) = _
    rw [arr_line c a (h a (by simp)), fold_q q _ (fun x hx => h x (by simp [hx]))]
    simp
theorem fold_l : ∀ (q : List LoV) (c : CdV), (∀ a, a ∈ q → I64 a.1 ∧ I64 a.2.1 ∧ I64 a.2.2) → (q.map loopW).foldl stL c = { c with l := c.l ++ q }
  | [], c, _ => by simp
  | a :: q, c, h => by
    rw [List.map_cons, List.foldl_cons]
    show (q.map loopW).foldl stL (lineV c ((loopW a).map bA)) = _
    rw [loop_line c a (h a (by simp)), fold_l q _ (fun x hx => h x (by simp [hx]))]
    simp
theorem fold_i (B : List (List InstV × TermV)) (t : TermV) : ∀ (l : List InstV) (is : List InstV) (c : CdV), c.b = B ++ [(is, t)] → (∀ i, i ∈ l → InstOk i) → (l.map instW).foldl stL c = { c with b := B ++ [(is ++ l, t)] }
  | [], is, c, hb, _ => by
    rw [List.append_nil, ← hb]
    rfl
  | i :: l, is, c, hb, h => by
    rw [List.map_cons, List.foldl_cons]
    show (l.map instW).foldl stL (lineV c ((instW i).map bA)) = _
    rw [inst_line c B is t i hb (h i (by simp)), fold_i B t l (is ++ [i]) _ rfl (fun x hx => h x (by simp [hx]))]
    simp
theorem fold_e (c : CdV) (e : List InstV × TermV) (hi : ∀ i, i ∈ e.1 → InstOk i) (ht : EndOk e.2) : (blkW e).foldl stL c = { c with b := c.b ++ [e] } := by
  unfold blkW
  rw [List.foldl_cons, List.foldl_append]
  show [endW e.2].foldl stL ((e.1.map instW).foldl stL (lineV c (([[98, 108, 111, 99, 107]] : List (List UInt8)).map bA))) = _
  rw [blk_line, fold_i c.b zeroT e.1 [] _ rfl hi]
  show lineV _ ((endW e.2).map bA) = _
  rw [end_line _ c.b ([] ++ e.1) zeroT e.2 rfl ht, List.nil_append]
theorem fold_b : ∀ (b : List (List InstV × TermV)) (c : CdV), (∀ e, e ∈ b → (∀ i, i ∈ e.1 → InstOk i) ∧ EndOk e.2) → (b.flatMap blkW).foldl stL c = { c with b := c.b ++ b }
  | [], c, _ => by simp
  | e :: b, c, h => by
    rw [List.flatMap_cons, List.foldl_append, fold_e c e (h e (by simp)).1 (h e (by simp)).2, fold_b b _ (fun x hx => h x (by simp [hx]))]
    simp
/-- The code with no further numbers. -/
def cutC (c : CdV) : CdV := ⟨c.q, c.l, c.b, fun j => if j < 5 then c.n j else 0⟩
theorem read_txt {c : CdV} (h : RtOk c) : readV (bA (txtC c)) = cutC c := by
  rw [txt_lines, read_lines _ (lines_ok h)]
  unfold linesC
  rw [List.foldl_cons, List.foldl_append, List.foldl_append]
  show (c.b.flatMap blkW).foldl stL ((c.l.map loopW).foldl stL ((c.q.map arrW).foldl stL (lineV cd0 ((headW c.n).map bA)))) = _
  rw [head_line cd0 c.n h.n, fold_q _ _ (fun a ha => (h.q a ha).2), fold_l _ _ h.l, fold_b _ _ h.b]
  rfl
theorem cut_chk (c : CdV) : chkC (cutC c) = chkC c := rfl
theorem cut_txt (c : CdV) : txtC (cutC c) = txtC c := rfl
theorem same_cut (c : CdV) : sameCd c (cutC c) = true := by
  have h1 : sameHd (c.n 0) (c.n 1) (c.n 2) (c.n 3) (c.n 4) (c.n 0) (c.n 1) (c.n 2) (c.n 3) (c.n 4) c.q.length c.l.length c.q.length c.l.length c.nm c.nm c.sp c.ty c.ln c.sp c.ty c.ln c.hd c.rg c.bd c.hd c.rg c.bd = true := by
    simp [sameHd, eqA, eqL]
  have h2 : ∀ j, sameB (c.il j) (c.il j) (c.is j) (c.is j) (c.te j) (c.te j) = true := fun j => by simp [sameB, eqT, eqI]
  show sameC (sameHd (c.n 0) (c.n 1) (c.n 2) (c.n 3) (c.n 4) (c.n 0) (c.n 1) (c.n 2) (c.n 3) (c.n 4) c.q.length c.l.length c.q.length c.l.length c.nm c.nm c.sp c.ty c.ln c.sp c.ty c.ln c.hd c.rg c.bd c.hd c.rg c.bd) c.b.length c.b.length c.il c.il c.is c.is c.te c.te = true
  unfold sameC
  rw [h1]
  simp [h2]
theorem parse_txt {c : CdV} (h : RtOk c) (hz : chkC c = 0) : parseC (bA (txtC c)) = cutC c ∧ parseE (bA (txtC c)) = 0 := by
  have hp : parseB (bA (txtC c)) = true := by
    unfold parseB
    rw [read_txt h, cut_chk, cut_txt, hz]
    simp [bA]
  unfold parseC parseE
  rw [if_pos hp, if_pos hp, read_txt h]
  exact ⟨rfl, rfl⟩
/-- How many lines there are. -/
def sumB (c : CdV) : Nat → Nat
  | 0 => 0
  | k + 1 => sumB c k + (2 + c.il k)
theorem lines_count (c : CdV) : (linesC c).length = 1 + c.q.length + c.l.length + sumB c c.b.length := by
  have hb : ∀ k, k ≤ c.b.length → ((c.b.take k).flatMap blkW).length = sumB c k := by
    intro k
    induction k with
    | zero => intro _; rfl
    | succ k ih =>
      intro hk
      have e1 : c.il k = (c.b[k]).1.length := by unfold CdV.il; rw [getD_of _ _ _ hk]
      rw [List.take_succ_eq_append_getElem hk, List.flatMap_append, List.length_append, ih (by omega), sumB, e1]
      simp [blkW]
      omega
  have h1 := hb _ (Nat.le_refl _)
  rw [List.take_length] at h1
  unfold linesC
  simp only [List.length_cons, List.length_append, List.length_map, h1]
  omega
theorem txt_count {c : CdV} (h : RtOk c) : (txtC c).count 10 = 1 + c.q.length + c.l.length + sumB c c.b.length := by
  rw [txt_lines, count_lines _ (lines_ok h), lines_count]
theorem txt_last (c : CdV) : ∃ x, txtC c = x ++ [10] := by
  have h : ∀ (L : List (List (List UInt8))), L ≠ [] → ∃ x, L.flatMap lineT = x ++ [10] := by
    intro L hL
    obtain ⟨L', ws, rfl⟩ : ∃ L' ws, L = L' ++ [ws] := ⟨L.dropLast, L.getLast hL, (List.dropLast_concat_getLast hL).symm⟩
    refine ⟨L'.flatMap lineT ++ joinW ws, ?_⟩
    rw [List.flatMap_append]
    simp [lineT]
  rw [txt_lines]
  exact h _ (by simp [linesC])
end Go.Proofs.YtkncilgmlkeifaaGreatDoor
