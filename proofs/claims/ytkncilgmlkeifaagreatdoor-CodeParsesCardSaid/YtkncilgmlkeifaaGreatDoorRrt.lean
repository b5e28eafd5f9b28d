import Derived.Test.YtkncilgmlkeifaaGreatDoorPar
import Derived.Lib.ParseIntBCases
import Derived.Lib.ItoaNum
/-
  The text of a code, read again (plain facts): words and lines, numbers and operands.
-/
set_option linter.unusedVariables false
set_option linter.unusedSimpArgs false
namespace Go.Proofs.YtkncilgmlkeifaaGreatDoor
def joinW : List (List UInt8) -> List UInt8
 | [] => []
 | w :: ws => w ++ ws.flatMap (fun x => 32 :: x)
def lineT (ws : List (List UInt8)) : List UInt8 := joinW ws ++ [10]
def bA (l : List UInt8) : ByteArray := ⟨l.toArray⟩
def WOk (w : List UInt8) : Prop := ∀ c, c ∈ w -> c ≠ 32 /\ c ≠ 10
theorem splitB_join : ∀ (ws : List (List UInt8)) (w : List UInt8), WOk w -> (∀ x, x ∈ ws -> WOk x) -> splitB (joinW (w :: ws)) = w :: ws
 | [], w, h, _ => by
  show splitB (w ++ []) = _
  rw [List.append_nil]
  exact splitB_none (fun c hc => (h c hc).1)
 | v :: ws, w, h, hs => by
  have e : joinW (w :: v :: ws) = w ++ 32 :: joinW (v :: ws) := by simp [joinW]
  rw [e, splitB_app _ (fun c hc => (h c hc).1), splitB_join ws v (hs v (by simp)) (fun x hx => hs x (by simp [hx]))]
theorem join_no10 : ∀ (ws : List (List UInt8)), (∀ x, x ∈ ws -> WOk x) -> ∀ c, c ∈ joinW ws -> c ≠ 10
 | [], _, c, hc => by simp [joinW] at hc
 | w :: ws, h, c, hc => by
  simp only [joinW, List.mem_append, List.mem_flatMap, List.mem_cons] at hc
  rcases hc with hc | ⟨x, hx, rfl | hc⟩
  . exact (h w (by simp) c hc).2
  . decide
  . exact (h x (by simp [hx]) c hc).2
theorem linesL_app : ∀ (l r : List UInt8), (∀ c, c ∈ l -> c ≠ 10) -> linesL (l ++ 10 :: r) = (l ++ [10]) :: linesL r
 | [], r, _ => by simp [linesL]
 | c :: l, r, h => by
  rw [List.cons_append, linesL, if_neg (h c (by simp)), linesL_app l r (fun x hx => h x (by simp [hx]))]
  rfl
def LinesOk (L : List (List (List UInt8))) : Prop := ∀ ws, ws ∈ L -> ws ≠ [] /\ ∀ x, x ∈ ws -> WOk x
theorem linesL_lines : ∀ (L : List (List (List UInt8))), LinesOk L -> linesL (L.flatMap lineT) = L.map lineT
 | [], _ => rfl
 | ws :: L, h => by
  have e : (ws :: L).flatMap lineT = joinW ws ++ 10 :: L.flatMap lineT := by simp [lineT]
  rw [e, linesL_app _ _ (join_no10 ws (h ws (by simp)).2), linesL_lines L (fun x hx => h x (by simp [hx]))]
  rfl
theorem trim_line (l : List UInt8) : trimL (bA (l ++ [10])) = bA l := by
 have h : Lib.trimSuffix (l ++ [10]) [10] = l := by
  unfold Lib.trimSuffix Lib.hasSuffix
  have : List.isSuffixOf [10] (l ++ [10]) = true := by
   rw [List.isSuffixOf_iff_suffix]
   exact ⟨l, rfl⟩
  rw [if_pos this]
  simp
 show (⟨(Lib.trimSuffix (l ++ [10]).toArray.toList [10]).toArray⟩ : ByteArray) = bA l
 rw [List.toList_toArray, h]
 rfl
theorem cut_line {ws : List (List UInt8)} (hne : ws ≠ []) (h : ∀ x, x ∈ ws -> WOk x) : cutL (trimL (bA (lineT ws))) = ws.map bA := by
 unfold lineT
 rw [trim_line]
 unfold cutL
 have e : (bA (joinW ws)).data.toList = joinW ws := List.toList_toArray
 rw [e]
 cases ws with
 | nil => exact absurd rfl hne
 | cons w ws => rw [splitB_join ws w (h w (by simp)) (fun x hx => h x (by simp [hx]))]; rfl
theorem read_lines (L : List (List (List UInt8))) (h : LinesOk L) : readV (bA (L.flatMap lineT)) = L.foldl (fun c ws => lineV c (ws.map bA)) cd0 := by
 have e : (bA (L.flatMap lineT)).data.toList = L.flatMap lineT := List.toList_toArray
 have hl : linesL (bA (L.flatMap lineT)).data.toList = L.map lineT := by rw [e, linesL_lines L h]
 have hn : nLines (bA (L.flatMap lineT)) = L.length := by unfold nLines; rw [hl, List.length_map]
 have hk : ∀ k, k <= L.length -> readK (bA (L.flatMap lineT)) k = (L.take k).foldl (fun c ws => lineV c (ws.map bA)) cd0 := by
  intro k
  induction k with
  | zero => intro _; rfl
  | succ k ih =>
   intro hk
   have hlt : k < L.length := hk
   have e2 : lineN (bA (L.flatMap lineT)) k = bA (lineT L[k]) := by
    unfold lineN
    rw [hl, List.getD_eq_getElem?_getD, List.getElem?_map, List.getElem?_eq_getElem hlt]
    rfl
   have ho := h _ (List.getElem_mem hlt)
   show lineV (readK _ k) (cutL (trimL (lineN _ k))) = _
   rw [e2, cut_line ho.1 ho.2, ih (by omega), List.take_succ_eq_append_getElem hlt, List.foldl_append]
   rfl
 unfold readV
 rw [hn, hk _ (Nat.le_refl _), List.take_length]
theorem dig_nat {u : Nat} (h : u < 10) : (UInt8.ofNat (48 + u)).toNat = 48 + u := by
 rw [UInt8.toNat_ofNat']
 omega
theorem dig_mem : ∀ (u : Nat) (c : UInt8), c ∈ Lib.decDigits u -> 48 <= c.toNat /\ c.toNat <= 57 := by
 intro u
 induction u using Nat.strongRecOn with
 | ind u ih =>
  intro c hc
  unfold Lib.decDigits at hc
  by_cases h : u < 10
  . rw [dif_pos h, List.mem_singleton] at hc
    subst hc
    rw [dig_nat h]
    omega
  . rw [dif_neg h] at hc
    rcases List.mem_append.1 hc with hc | hc
    . exact ih (u / 10) (by omega) c hc
    . rw [List.mem_singleton] at hc
      subst hc
      rw [dig_nat (by omega)]
      omega
theorem dig_ne (u : Nat) : Lib.decDigits u ≠ [] := by
 unfold Lib.decDigits
 split <;> simp
theorem dig_app : ∀ (u : Nat) (r : List UInt8), u < 18446744073709551616 -> Lib.parseUint10 0 (Lib.decDigits u ++ r) = Lib.parseUint10 u r := by
 intro u
 induction u using Nat.strongRecOn with
 | ind u ih =>
  intro r hu
  unfold Lib.decDigits
  by_cases h : u < 10
  . rw [dif_pos h, List.singleton_append, Lib.parseUint10, dig_nat h, if_pos (by omega), if_neg (by omega), if_neg (by omega)]
    congr 1
    omega
  . rw [dif_neg h, List.append_assoc, List.singleton_append, ih (u / 10) (by omega) _ (by omega), Lib.parseUint10, dig_nat (u := u % 10) (by omega), if_pos (by omega), if_neg (by omega), if_neg (by omega)]
    congr 1
    omega
theorem digM_app (M : Nat) (hM : M <= 18446744073709551615) : ∀ (u : Nat) (r : List UInt8), u <= M -> Lib.parseUintM M 0 (Lib.decDigits u ++ r) = Lib.parseUintM M u r := by
 intro u
 induction u using Nat.strongRecOn with
 | ind u ih =>
  intro r hu
  unfold Lib.decDigits
  by_cases h : u < 10
  . rw [dif_pos h, List.singleton_append, Lib.parseUintM, dig_nat h, if_pos (by omega), if_neg (by omega), if_neg (by omega)]
    congr 1
    omega
  . rw [dif_neg h, List.append_assoc, List.singleton_append, ih (u / 10) (by omega) _ (by omega), Lib.parseUintM, dig_nat (u := u % 10) (by omega), if_pos (by omega), if_neg (by omega), if_neg (by omega)]
    congr 1
    omega
theorem mag_dig {u : Nat} (h : u < 18446744073709551616) : Lib.parseMag (Lib.decDigits u) = .ok u := by
 unfold Lib.parseMag
 rw [if_neg (dig_ne u)]
 have := dig_app u [] h
 rw [List.append_nil] at this
 rw [this]
 rfl
theorem magB_dig {u : Nat} (h : u <= 4294967295) : Lib.parseUintB 32 (Lib.decDigits u) = .ok u := by
 unfold Lib.parseUintB
 rw [if_neg (dig_ne u)]
 have := digM_app 4294967295 (by omega) u [] h
 rw [List.append_nil] at this
 show Lib.parseUintM 4294967295 0 _ = _
 rw [this]
 rfl
theorem itoa_mem (n : Int) (c : UInt8) (h : c ∈ Lib.itoa n) : c.toNat = 45 \/ (48 <= c.toNat /\ c.toNat <= 57) := by
 unfold Lib.itoa at h
 split at h
 . rcases List.mem_cons.1 h with rfl | h
   . exact .inl rfl
   . exact .inr (dig_mem _ c h)
 . exact .inr (dig_mem _ c h)
theorem itoa_wok (n : Int) : WOk (Lib.itoa n) := fun c hc => by
 have := itoa_mem n c hc
 constructor
 . rintro rfl
   have : (32 : UInt8).toNat = 32 := rfl
   omega
 . rintro rfl
   have : (10 : UInt8).toNat = 10 := rfl
   omega
theorem atoiAll_itoa {n : Int} (h : I64 n) : Lib.atoiAll (Lib.itoa n) = .ok n := by
 obtain ⟨h0, h1⟩ := h
 by_cases hn : n < 0
 . have e : Lib.itoa n = 45 :: Lib.decDigits n.natAbs := by unfold Lib.itoa; rw [if_pos hn]
   rw [e, Lib.atoiAll_minus, mag_dig (by omega)]
   show (if 9223372036854775808 < n.natAbs then Lib.NumEnd.range else .ok (-(n.natAbs : Int))) = _
   rw [if_neg (by omega)]
   congr 1
   omega
 . have e : Lib.itoa n = Lib.decDigits n.toNat := by unfold Lib.itoa; rw [if_neg hn]
   have hd := dig_mem n.toNat
   have hm := mag_dig (u := n.toNat) (by omega)
   rw [e]
   cases hl : Lib.decDigits n.toNat with
   | nil => exact absurd hl (dig_ne _)
   | cons c r =>
    rw [hl] at hd hm
    have hc := hd c (by simp)
    rw [Lib.atoiAll_plain c r (by omega) (by omega), hm]
    show (if 9223372036854775808 <= n.toNat then Lib.NumEnd.range else .ok (n.toNat : Int)) = _
    rw [if_neg (by omega)]
    congr 1
    omega
theorem atoi_itoa {n : Int} (h : I64 n) : atoiV (Lib.itoa n) = n := by
 unfold atoiV
 rw [atoiAll_itoa h]
theorem parseInt_itoa {v : Int} (h : I32b v) : Lib.parseIntB 32 (Lib.itoa v) = .ok v := by
 obtain ⟨h0, h1⟩ := h
 by_cases hn : v < 0
 . have e : Lib.itoa v = 45 :: Lib.decDigits v.natAbs := by unfold Lib.itoa; rw [if_pos hn]
   rw [e, Lib.parseIntB_minus, magB_dig (by omega)]
   show (if 2147483648 < v.natAbs then Lib.NumEnd.range else .ok (-(v.natAbs : Int))) = _
   rw [if_neg (by omega)]
   congr 1
   omega
 . have e : Lib.itoa v = Lib.decDigits v.toNat := by unfold Lib.itoa; rw [if_neg hn]
   have hd := dig_mem v.toNat
   have hm := magB_dig (u := v.toNat) (by omega)
   rw [e]
   cases hl : Lib.decDigits v.toNat with
   | nil => exact absurd hl (dig_ne _)
   | cons c r =>
    rw [hl] at hd hm
    have hc := hd c (by simp)
    rw [Lib.parseIntB_plain 32 c r (by omega) (by omega), hm]
    show (if 2147483648 <= v.toNat then Lib.NumEnd.range else .ok (v.toNat : Int)) = _
    rw [if_neg (by omega)]
    congr 1
    omega
theorem pint_itoa {v : Int} (h : I32b v) : pintV (Lib.itoa v) = v := by
 unfold pintV
 rw [parseInt_itoa h]
def opdW (o : OpdV) : List UInt8 := if o.k = 1 then Lib.itoa o.v else 114 :: Lib.itoa o.n
theorem opdT_W (o : OpdV) : opdT o = 32 :: opdW o := by
 unfold opdT opdW
 split <;> rfl
theorem opdW_wok (o : OpdV) : WOk (opdW o) := by
 unfold opdW
 split
 . exact itoa_wok _
 . intro c hc
   rcases List.mem_cons.1 hc with rfl | hc
   . decide
   . exact itoa_wok _ c hc
def OpdOk (o : OpdV) : Prop := (o.k = 1 /\ o.n = 0) \/ (o.k = 2 /\ o.v = 0)
theorem opd_read {o : OpdV} (h : OpdOk o) (hr : o.Rng) : opdR (bA (opdW o)) = o := by
 obtain ⟨k, n, v⟩ := o
 have e : ∀ l, (bA l).data.toList = l := fun l => List.toList_toArray
 unfold opdR opdW
 rcases h with ⟨h1, h2⟩ | ⟨h1, h2⟩
 . simp only at h1 h2
   subst h1 h2
   simp only [if_true, e]
   have hp : Lib.hasPrefix (Lib.itoa v) [114] = false := by
    cases hl : Lib.itoa v with
    | nil => rfl
    | cons c r =>
     have hc := itoa_mem v c (by rw [hl]; simp)
     have hne : c ≠ 114 := by
      rintro rfl
      have : (114 : UInt8).toNat = 114 := rfl
      omega
     unfold Lib.hasPrefix
     simp [List.isPrefixOf, Ne.symm hne]
   rw [hp]
   simp only [Bool.false_eq_true, if_false]
   rw [pint_itoa hr.v]
 . simp only at h1 h2
   subst h1 h2
   have h21 : ¬ ((2 : Int) = 1) := by decide
   simp only [if_neg h21, e]
   have hp : Lib.hasPrefix (114 :: Lib.itoa n) [114] = true := by simp [Lib.hasPrefix, List.isPrefixOf]
   rw [if_pos hp]
   unfold Lib.trimPrefix
   rw [if_pos hp]
   show (⟨2, atoiV ((114 :: Lib.itoa n).drop 1), 0⟩ : OpdV) = _
   rw [List.drop_succ_cons, List.drop_zero, atoi_itoa hr.n]
end Go.Proofs.YtkncilgmlkeifaaGreatDoor
/-
  The text of a code, read again (plain facts): parts, instructions, ends.
-/
namespace Go.Proofs.YtkncilgmlkeifaaGreatDoor
open Go.ChangeShapes Go.WideShapes Go.ChangeAt Go.RowKit Go.Shelf
theorem bA_data (l : List UInt8) : (bA l).data.toList = l := List.toList_toArray
def stepW (q : PartV) (s : Nat) : List UInt8 :=
 if s = 0 then Lib.itoa q.sub else if s = 1 then Lib.itoa q.n else if s = 2 then opdW q.d else if s = 3 then opdW q.a else if s = 4 then opdW q.b else if s = 5 then opdW q.c else if s = 6 then Lib.itoa q.t0 else Lib.itoa q.t1
theorem stepT_W (q : PartV) (s : Nat) : stepT q s = 32 :: stepW q s := by
 unfold stepT stepW
 repeat' split
 all_goals first | rfl | exact opdT_W _
theorem stepW_wok (q : PartV) (s : Nat) : WOk (stepW q s) := by
 unfold stepW
 repeat' split
 all_goals first | exact itoa_wok _ | exact opdW_wok _
def wordsF (f : FormV) (q : PartV) : Nat -> List (List UInt8)
 | 0 => []
 | s + 1 => wordsF f q s ++ if f.want s = true then [stepW q s] else []
theorem partsT_W (f : FormV) (q : PartV) : ∀ s, partsT f q s = (wordsF f q s).flatMap (fun x => 32 :: x)
 | 0 => rfl
 | s + 1 => by
  rw [partsT, wordsF, List.flatMap_append, partsT_W f q s]
  split
  . simp [stepT_W]
  . simp
theorem wordsF_len (f : FormV) (q : PartV) : ∀ s, (wordsF f q s).length = cnt f s
 | 0 => rfl
 | s + 1 => by
  rw [wordsF, cnt, List.length_append, wordsF_len f q s]
  split <;> rfl
theorem wordsF_wok (f : FormV) (q : PartV) : ∀ s x, x ∈ wordsF f q s -> WOk x
 | 0, x, h => by simp [wordsF] at h
 | s + 1, x, h => by
  rw [wordsF] at h
  rcases List.mem_append.1 h with h | h
  . exact wordsF_wok f q s x h
  . split at h
    . rw [List.mem_singleton] at h
      subst h
      exact stepW_wok q s
    . simp at h
theorem wordsF_get (f : FormV) (q : PartV) {s : Nat} (hw : f.want s = true) : ∀ t, s < t -> (wordsF f q t)[cnt f s]? = some (stepW q s)
 | 0, h => absurd h (by omega)
 | t + 1, h => by
  rw [wordsF]
  by_cases e : s = t
  . subst e
    rw [if_pos hw, <- wordsF_len f q s, List.getElem?_append_right (Nat.le_refl _), Nat.sub_self]
    rfl
  . have ih := wordsF_get f q hw t (by omega)
    rw [List.getElem?_append_left (List.getElem?_eq_some_iff.1 ih).1]
    exact ih
theorem fld_get (f : FormV) (q : PartV) (rest : List ByteArray) {s : Nat} (hw : f.want s = true) (hs : s < 8) : fldS f ((wordsF f q 8).map bA ++ rest) s = bA (stepW q s) := by
 have h := wordsF_get f q hw 8 hs
 have hlt := (List.getElem?_eq_some_iff.1 h).1
 unfold fldS
 rw [List.getD_eq_getElem?_getD, List.getElem?_append_left (by rw [List.length_map]; exact hlt), List.getElem?_map, h]
 rfl
structure PartOk (f : FormV) (q : PartV) : Prop where
 sub : f.want 0 = false -> q.sub = 0
 n : f.want 1 = false -> q.n = 0
 d : (f.want 2 = true -> OpdOk q.d) /\ (f.want 2 = false -> q.d = noOpd)
 a : (f.want 3 = true -> OpdOk q.a) /\ (f.want 3 = false -> q.a = noOpd)
 b : (f.want 4 = true -> OpdOk q.b) /\ (f.want 4 = false -> q.b = noOpd)
 c : (f.want 5 = true -> OpdOk q.c) /\ (f.want 5 = false -> q.c = noOpd)
 t0 : f.want 6 = false -> q.t0 = 0
 t1 : f.want 7 = false -> q.t1 = 0
theorem opd0 {o : OpdV} (hk : o.k = 0) (hn : o.n = 0) (hv : o.v = 0) : o = noOpd := by
 obtain ⟨k, n, v⟩ := o
 simp only at hk hn hv
 subst hk hn hv
 rfl
theorem regB_ok {r : Int} {o : OpdV} (h : regB r o = true) : OpdOk o := by
 unfold regB at h
 simp only [Bool.and_eq_true, decide_eq_true_eq] at h
 exact .inr ⟨h.1, h.2.1⟩
theorem valB_ok {r : Int} {o : OpdV} (h : valB r o = true) : OpdOk o := by
 unfold valB at h
 simp only [Bool.or_eq_true, Bool.and_eq_true, decide_eq_true_eq] at h
 rcases h with h | h
 . exact .inl h
 . exact regB_ok h
theorem not_or {x y : Bool} (h : (!x || y) = true) (hx : x = true) : y = true := by
 subst hx
 simpa using h
theorem partOk_of {p sl r : Int} {n1 n3 : Nat} {sp : Nat -> Int} {f : FormV} {q : PartV} (h : hasV p sl r n1 n3 sp f q = true) : PartOk f q := by
 unfold hasV at h
 simp only [Bool.and_eq_true] at h
 obtain ⟨hz, _, ⟨hd, ha, hb, hc⟩, _⟩ := h
 unfold zeroP at hz
 simp only [Bool.and_eq_true, beq_iff_eq, othV] at hz
 obtain ⟨z0, z1, z2, z3, z4, z5, z6, z7, z8, z9, z10, z11, z12, z13, z14, z15⟩ := hz
 exact ⟨fun w => by simpa [w] using z0, fun w => by simpa [w] using z1,
  ⟨fun w => regB_ok (not_or hd w), fun w => opd0 (by simpa [w] using z2) (by simpa [w] using z3) (by simpa [w] using z4)⟩,
  ⟨fun w => valB_ok (not_or ha w), fun w => opd0 (by simpa [w] using z5) (by simpa [w] using z6) (by simpa [w] using z7)⟩,
  ⟨fun w => valB_ok (not_or hb w), fun w => opd0 (by simpa [w] using z8) (by simpa [w] using z9) (by simpa [w] using z10)⟩,
  ⟨fun w => valB_ok (not_or hc w), fun w => opd0 (by simpa [w] using z11) (by simpa [w] using z12) (by simpa [w] using z13)⟩,
  fun w => by simpa [w] using z14, fun w => by simpa [w] using z15⟩
theorem rdV_words {f : FormV} {q : PartV} (h : PartOk f q) (hr : q.Rng) (rest : List ByteArray) : rdV f ((wordsF f q 8).map bA ++ rest) = q := by
 have num : ∀ (s : Nat) (n : Int), s < 8 -> I64 n -> stepW q s = Lib.itoa n -> (f.want s = false -> n = 0) -> (if f.want s = true then atoiV (fldS f ((wordsF f q 8).map bA ++ rest) s).data.toList else 0) = n := by
  intro s n hs hn he hz
  cases hw : f.want s with
  | true => rw [if_pos rfl, fld_get f q rest hw hs, bA_data, he, atoi_itoa hn]
  | false =>
   rw [if_neg (by decide)]
   exact (hz hw).symm
 have op : ∀ (s : Nat) (o : OpdV), s < 8 -> o.Rng -> stepW q s = opdW o -> ((f.want s = true -> OpdOk o) /\ (f.want s = false -> o = noOpd)) -> (if f.want s = true then opdR (fldS f ((wordsF f q 8).map bA ++ rest) s) else noOpd) = o := by
  intro s o hs ho he hz
  cases hw : f.want s with
  | true => rw [if_pos rfl, fld_get f q rest hw hs, he, opd_read (hz.1 hw) ho]
  | false =>
   rw [if_neg (by decide)]
   exact (hz.2 hw).symm
 unfold rdV
 rw [num 0 q.sub (by decide) hr.sub rfl h.sub, num 1 q.n (by decide) hr.n rfl h.n, op 2 q.d (by decide) hr.d rfl h.d, op 3 q.a (by decide) hr.a rfl h.a, op 4 q.b (by decide) hr.b rfl h.b, op 5 q.c (by decide) hr.c rfl h.c, num 6 q.t0 (by decide) hr.t0 rfl h.t0, num 7 q.t1 (by decide) hr.t1 rfl h.t1]
theorem iw_inj : ∀ j : Nat, j < 12 -> ∀ m : Nat, m < 12 -> (instF ((j : Int) + 1)).word = (instF ((m : Int) + 1)).word -> j = m := by decide +kernel
theorem iw_end : ∀ j : Nat, j < 12 -> ∀ m : Nat, m < 5 -> (instF ((j : Int) + 1)).word ≠ (endF ((m : Int) + 1)).word := by decide +kernel
theorem ew_inj : ∀ j : Nat, j < 5 -> ∀ m : Nat, m < 5 -> (endF ((j : Int) + 1)).word = (endF ((m : Int) + 1)).word -> j = m := by decide +kernel
theorem iw_line : ∀ j : Nat, j < 12 -> (instF ((j : Int) + 1)).word ≠ #[99, 111, 100, 101] /\ (instF ((j : Int) + 1)).word ≠ #[97, 114, 114, 97, 121] /\ (instF ((j : Int) + 1)).word ≠ #[108, 111, 111, 112] /\ (instF ((j : Int) + 1)).word ≠ #[98, 108, 111, 99, 107] := by decide +kernel
theorem ew_line : ∀ j : Nat, j < 5 -> (endF ((j : Int) + 1)).word ≠ #[99, 111, 100, 101] /\ (endF ((j : Int) + 1)).word ≠ #[97, 114, 114, 97, 121] /\ (endF ((j : Int) + 1)).word ≠ #[108, 111, 111, 112] /\ (endF ((j : Int) + 1)).word ≠ #[98, 108, 111, 99, 107] := by decide +kernel
theorem iw_wok : ∀ j : Nat, j < 12 -> ∀ c, c ∈ (instF ((j : Int) + 1)).word.toList -> c ≠ 32 /\ c ≠ 10 := by decide +kernel
theorem ew_wok : ∀ j : Nat, j < 5 -> ∀ c, c ∈ (endF ((j : Int) + 1)).word.toList -> c ≠ 32 /\ c ≠ 10 := by decide +kernel
theorem stI_none (wd : ByteArray) (fs : List ByteArray) (is : List InstV) : ∀ k : Nat, (∀ j : Nat, j < k -> (instF ((j : Int) + 1)).word ≠ wd.data) -> stI wd fs is k = (fs, is)
 | 0, _ => rfl
 | k + 1, h => by
  have ih := stI_none wd fs is k (fun j hj => h j (by omega))
  rw [stI, ih]
  exact if_neg (h k (by omega))
theorem stT_none (wd : ByteArray) (fs : List ByteArray) (t : TermV) : ∀ k : Nat, (∀ j : Nat, j < k -> (endF ((j : Int) + 1)).word ≠ wd.data) -> stT wd fs t k = (fs, t)
 | 0, _ => rfl
 | k + 1, h => by
  have ih := stT_none wd fs t k (fun j hj => h j (by omega))
  rw [stT, ih]
  exact if_neg (h k (by omega))
theorem stI_one {m : Nat} (hm : m < 12) (fs : List ByteArray) (is : List InstV) : ∀ k : Nat, m < k -> k <= 12 -> stI ⟨(instF ((m : Int) + 1)).word⟩ fs is k = (fs.drop (cnt (instF ((m : Int) + 1)) 8), is ++ [let q := rdV (instF ((m : Int) + 1)) fs; ⟨(m : Int) + 1, q.sub, q.n, q.d, q.a, q.b, q.c⟩])
 | 0, h, _ => absurd h (by omega)
 | k + 1, h, h12 => by
  by_cases e : k = m
  . subst e
    have ih := stI_none ⟨(instF ((k : Int) + 1)).word⟩ fs is k (fun j hj hh => by have := iw_inj j (by omega) k (by omega) hh; omega)
    rw [stI, ih]
    exact if_pos rfl
  . have ih := stI_one hm fs is k (by omega) (by omega)
    rw [stI, ih]
    exact if_neg (fun hh => e (iw_inj k (by omega) m hm hh))
theorem stT_one {m : Nat} (hm : m < 5) (fs : List ByteArray) (t : TermV) : ∀ k : Nat, m < k -> k <= 5 -> stT ⟨(endF ((m : Int) + 1)).word⟩ fs t k = (fs.drop (cnt (endF ((m : Int) + 1)) 8), let q := rdV (endF ((m : Int) + 1)) fs; ⟨(m : Int) + 1, q.sub, q.d, q.a, q.b, q.t0, q.t1⟩)
 | 0, h, _ => absurd h (by omega)
 | k + 1, h, h12 => by
  by_cases e : k = m
  . subst e
    have ih := stT_none ⟨(endF ((k : Int) + 1)).word⟩ fs t k (fun j hj hh => by have := ew_inj j (by omega) k (by omega) hh; omega)
    rw [stT, ih]
    exact if_pos rfl
  . have ih := stT_one hm fs t k (by omega) (by omega)
    rw [stT, ih]
    exact if_neg (fun hh => e (ew_inj k (by omega) m hm hh))
def instW (i : InstV) : List (List UInt8) := (instF i.op).word.toList :: wordsF (instF i.op) i.parts 8
def endW (t : TermV) : List (List UInt8) := (endF t.kind).word.toList :: wordsF (endF t.kind) t.parts 8
theorem instT_W (i : InstV) : instT i = lineT (instW i) := by
 unfold instT lineT instW joinW
 rw [partsT_W]
theorem endT_W (t : TermV) : endT t = lineT (endW t) := by
 unfold endT lineT endW joinW
 rw [partsT_W]
structure InstOk (i : InstV) : Prop where
 op : 1 <= i.op /\ i.op <= 12
 parts : PartOk (instF i.op) i.parts
 rng : i.parts.Rng
structure EndOk (t : TermV) : Prop where
 kind : 1 <= t.kind /\ t.kind <= 5
 parts : PartOk (endF t.kind) t.parts
 rng : t.parts.Rng
theorem inst_line (c : CdV) (B : List (List InstV × TermV)) (is : List InstV) (t : TermV) (i : InstV) (hb : c.b = B ++ [(is, t)]) (h : InstOk i) : lineV c ((instW i).map bA) = { c with b := B ++ [(is ++ [i], t)] } := by
 obtain ⟨m, hm⟩ : ∃ m : Nat, i.op = (m : Int) + 1 := ⟨(i.op - 1).toNat, by have := h.op; omega⟩
 have hm12 : m < 12 := by have := h.op; omega
 have hf : fldV ((instW i).map bA) = ⟨(instF ((m : Int) + 1)).word⟩ := by
  show bA (instF i.op).word.toList = _
  rw [hm]
  rfl
 have ht : ((instW i).map bA).tail = (wordsF (instF i.op) i.parts 8).map bA ++ [] := by
  rw [List.append_nil]
  rfl
 obtain ⟨l1, l2, l3, l4⟩ := iw_line m hm12
 have ne : ∀ x : Array UInt8, (instF ((m : Int) + 1)).word ≠ x -> ¬ ((⟨(instF ((m : Int) + 1)).word⟩ : ByteArray) = ⟨x⟩) := fun x hx he => hx (congrArg ByteArray.data he)
 unfold lineV
 rw [hf, if_neg (ne _ l1), if_neg (ne _ l2), if_neg (ne _ l3), if_neg (ne _ l4), hb, List.getLast?_concat]
 simp only [List.dropLast_concat]
 rw [stI_one hm12 _ is 12 hm12 (Nat.le_refl _)]
 simp only
 rw [stT_none _ _ t 5 (fun j hj hh => iw_end m hm12 j hj hh.symm)]
 simp only
 have hq : rdV (instF ((m : Int) + 1)) ((instW i).map bA).tail = i.parts := by
  rw [ht, <- hm]
  exact rdV_words h.parts h.rng []
 rw [hq]
 have hi : (⟨(m : Int) + 1, i.parts.sub, i.parts.n, i.parts.d, i.parts.a, i.parts.b, i.parts.c⟩ : InstV) = i := by
  rw [<- hm]
  rfl
 rw [hi]
theorem end_line (c : CdV) (B : List (List InstV × TermV)) (is : List InstV) (t0 t : TermV) (hb : c.b = B ++ [(is, t0)]) (h : EndOk t) : lineV c ((endW t).map bA) = { c with b := B ++ [(is, t)] } := by
 obtain ⟨m, hm⟩ : ∃ m : Nat, t.kind = (m : Int) + 1 := ⟨(t.kind - 1).toNat, by have := h.kind; omega⟩
 have hm5 : m < 5 := by have := h.kind; omega
 have hf : fldV ((endW t).map bA) = ⟨(endF ((m : Int) + 1)).word⟩ := by
  show bA (endF t.kind).word.toList = _
  rw [hm]
  rfl
 have ht : ((endW t).map bA).tail = (wordsF (endF t.kind) t.parts 8).map bA ++ [] := by
  rw [List.append_nil]
  rfl
 obtain ⟨l1, l2, l3, l4⟩ := ew_line m hm5
 have ne : ∀ x : Array UInt8, (endF ((m : Int) + 1)).word ≠ x -> ¬ ((⟨(endF ((m : Int) + 1)).word⟩ : ByteArray) = ⟨x⟩) := fun x hx he => hx (congrArg ByteArray.data he)
 unfold lineV
 rw [hf, if_neg (ne _ l1), if_neg (ne _ l2), if_neg (ne _ l3), if_neg (ne _ l4), hb, List.getLast?_concat]
 simp only [List.dropLast_concat]
 rw [stI_none _ _ is 12 (fun j hj hh => iw_end j hj m hm5 hh)]
 simp only
 rw [stT_one hm5 _ t0 5 hm5 (Nat.le_refl _)]
 simp only
 have hq : rdV (endF ((m : Int) + 1)) ((endW t).map bA).tail = t.parts := by
  rw [ht, <- hm]
  exact rdV_words h.parts h.rng []
 rw [hq]
 have hi : (⟨(m : Int) + 1, t.parts.sub, t.parts.d, t.parts.a, t.parts.b, t.parts.t0, t.parts.t1⟩ : TermV) = t := by
  rw [<- hm]
  rfl
 rw [hi]
end Go.Proofs.YtkncilgmlkeifaaGreatDoor
/-
  The text of a code, read again (plain facts): the lines of a code.
-/
namespace Go.Proofs.YtkncilgmlkeifaaGreatDoor
open Go.ChangeShapes Go.WideShapes Go.ChangeAt Go.RowKit Go.Shelf
theorem catT_list {α : Type} (l : List α) (F : Nat -> List UInt8) (G : α -> List UInt8) (h : ∀ j (hj : j < l.length), F j = G l[j]) : catT F l.length = l.flatMap G := by
 have : ∀ k, k <= l.length -> catT F k = (l.take k).flatMap G := by
  intro k
  induction k with
  | zero => intro _; rfl
  | succ k ih =>
   intro hk
   rw [catT, ih (by omega), h k hk, List.take_succ_eq_append_getElem hk, List.flatMap_append]
   simp
 rw [this _ (Nat.le_refl _), List.take_length]
theorem instsT_cat (I : Nat -> InstV) : ∀ n, instsT I n = catT (fun k => instT (I k)) n
 | 0 => rfl
 | n + 1 => by rw [instsT, catT, instsT_cat I n]
def headW (n : Nat -> Int) : List (List UInt8) := [[99, 111, 100, 101], Lib.itoa (n 0), Lib.itoa (n 1), Lib.itoa (n 2), Lib.itoa (n 3), Lib.itoa (n 4)]
def arrW (a : ArV) : List (List UInt8) := [[97, 114, 114, 97, 121], a.1.data.toList, Lib.itoa a.2.1, Lib.itoa a.2.2.1, Lib.itoa a.2.2.2]
def loopW (l : LoV) : List (List UInt8) := [[108, 111, 111, 112], Lib.itoa l.1, Lib.itoa l.2.1, Lib.itoa l.2.2]
def blkW (e : List InstV × TermV) : List (List (List UInt8)) := [[98, 108, 111, 99, 107]] :: (e.1.map instW ++ [endW e.2])
def linesC (c : CdV) : List (List (List UInt8)) := headW c.n :: (c.q.map arrW ++ (c.l.map loopW ++ c.b.flatMap blkW))
theorem txt_lines (c : CdV) : txtC c = (linesC c).flatMap lineT := by
 have h0 : headT (c.n 0) (c.n 1) (c.n 2) (c.n 3) (c.n 4) = lineT (headW c.n) := by
  simp [headT, lineT, headW, joinW, numsT, f5]
 have h1 : catT (fun j => arrT (c.nm j) (c.sp j) (c.ty j) (c.ln j)) c.q.length = c.q.flatMap fun a => lineT (arrW a) := catT_list _ _ _ fun j hj => by
  simp only [CdV.nm, CdV.sp, CdV.ty, CdV.ln, getD_of _ _ _ hj]
  simp [arrT, lineT, arrW, joinW, numsT, f3]
 have h2 : catT (fun j => loopT (c.hd j) (c.rg j) (c.bd j)) c.l.length = c.l.flatMap fun a => lineT (loopW a) := catT_list _ _ _ fun j hj => by
  simp only [CdV.hd, CdV.rg, CdV.bd, getD_of _ _ _ hj]
  simp [loopT, lineT, loopW, joinW, numsT, f3]
 have h3 : catT (fun j => blockT (c.il j) (c.is j) (c.te j)) c.b.length = c.b.flatMap fun e => (blkW e).flatMap lineT := catT_list _ _ _ fun j hj => by
  have e1 : c.il j = (c.b[j]).1.length := by unfold CdV.il; rw [getD_of _ _ _ hj]
  have e2 : c.te j = (c.b[j]).2 := by unfold CdV.te; rw [getD_of _ _ _ hj]
  have e3 : instsT (c.is j) (c.b[j]).1.length = (c.b[j]).1.flatMap fun i => lineT (instW i) := by
   rw [instsT_cat]
   exact catT_list _ _ _ fun k hk => by
    unfold CdV.is
    rw [getD_of _ _ _ hj, getD_of _ _ _ hk, instT_W]
  show blockT (c.il j) (c.is j) (c.te j) = _
  unfold blockT
  rw [e1, e2, e3, endT_W]
  unfold blkW
  rw [List.flatMap_cons, List.flatMap_append, List.flatMap_map, List.append_assoc]
  simp [lineT, joinW]
 unfold txtC textT linesC
 rw [h0, h1, h2, h3, List.flatMap_cons, List.flatMap_append, List.flatMap_append, List.flatMap_map, List.flatMap_map, List.flatMap_assoc, List.append_assoc, List.append_assoc]
structure RtOk (c : CdV) : Prop where
 n : ∀ j, j < 5 -> I64 (c.n j)
 q : ∀ a, a ∈ c.q -> WOk a.1.data.toList /\ I64 a.2.1 /\ I64 a.2.2.1 /\ I64 a.2.2.2
 l : ∀ a, a ∈ c.l -> I64 a.1 /\ I64 a.2.1 /\ I64 a.2.2
 b : ∀ e, e ∈ c.b -> (∀ i, i ∈ e.1 -> InstOk i) /\ EndOk e.2
theorem inst_wok {i : InstV} (h : InstOk i) : ∀ x, x ∈ instW i -> WOk x := by
 intro x hx
 rcases List.mem_cons.1 hx with rfl | hx
 . obtain ⟨m, hm⟩ : ∃ m : Nat, i.op = (m : Int) + 1 := ⟨(i.op - 1).toNat, by have := h.op; omega⟩
   rw [hm]
   exact iw_wok m (by have := h.op; omega)
 . exact wordsF_wok _ _ _ x hx
theorem end_wok {t : TermV} (h : EndOk t) : ∀ x, x ∈ endW t -> WOk x := by
 intro x hx
 rcases List.mem_cons.1 hx with rfl | hx
 . obtain ⟨m, hm⟩ : ∃ m : Nat, t.kind = (m : Int) + 1 := ⟨(t.kind - 1).toNat, by have := h.kind; omega⟩
   rw [hm]
   exact ew_wok m (by have := h.kind; omega)
 . exact wordsF_wok _ _ _ x hx
theorem wok_code : WOk [99, 111, 100, 101] := by unfold WOk; decide
theorem wok_array : WOk [97, 114, 114, 97, 121] := by unfold WOk; decide
theorem wok_loop : WOk [108, 111, 111, 112] := by unfold WOk; decide
theorem wok_block : WOk [98, 108, 111, 99, 107] := by unfold WOk; decide
theorem lines_ok {c : CdV} (h : RtOk c) : LinesOk (linesC c) := by
 intro ws hws
 rcases List.mem_cons.1 hws with rfl | hws
 . refine ⟨by simp [headW], fun x hx => ?_⟩
   simp only [headW, List.mem_cons, List.not_mem_nil, or_false] at hx
   rcases hx with rfl | rfl | rfl | rfl | rfl | rfl
   . exact wok_code
   all_goals exact itoa_wok _
 rcases List.mem_append.1 hws with hws | hws
 . obtain ⟨a, ha, rfl⟩ := List.mem_map.1 hws
   refine ⟨by simp [arrW], fun x hx => ?_⟩
   simp only [arrW, List.mem_cons, List.not_mem_nil, or_false] at hx
   rcases hx with rfl | rfl | rfl | rfl | rfl
   . exact wok_array
   . exact (h.q a ha).1
   all_goals exact itoa_wok _
 rcases List.mem_append.1 hws with hws | hws
 . obtain ⟨a, ha, rfl⟩ := List.mem_map.1 hws
   refine ⟨by simp [loopW], fun x hx => ?_⟩
   simp only [loopW, List.mem_cons, List.not_mem_nil, or_false] at hx
   rcases hx with rfl | rfl | rfl | rfl
   . exact wok_loop
   all_goals exact itoa_wok _
 obtain ⟨e, he, hws⟩ := List.mem_flatMap.1 hws
 rcases List.mem_cons.1 hws with rfl | hws
 . refine ⟨by simp, fun x hx => ?_⟩
   rw [List.mem_singleton] at hx
   subst hx
   exact wok_block
 rcases List.mem_append.1 hws with hws | hws
 . obtain ⟨i, hi, rfl⟩ := List.mem_map.1 hws
   exact ⟨by simp [instW], inst_wok ((h.b e he).1 i hi)⟩
 . rw [List.mem_singleton] at hws
   subst hws
   exact ⟨by simp [endW], end_wok (h.b e he).2⟩
theorem ba_ne {x y : Array UInt8} (h : x ≠ y) : ¬ ((⟨x⟩ : ByteArray) = ⟨y⟩) := fun he => h (congrArg ByteArray.data he)
theorem head_line (c : CdV) (n : Nat -> Int) (h : ∀ j, j < 5 -> I64 (n j)) : lineV c ((headW n).map bA) = { c with n := fun j => if j < 5 then n j else c.n j } := by
 unfold lineV
 rw [if_pos (show fldV ((headW n).map bA) = ⟨#[99, 111, 100, 101]⟩ from rfl)]
 congr 1
 funext j
 by_cases hj : j < 5
 . rw [if_pos hj, if_pos hj]
   match j, hj with
   | 0, hj => exact (atoi_itoa (h 0 hj))
   | 1, hj => exact (atoi_itoa (h 1 hj))
   | 2, hj => exact (atoi_itoa (h 2 hj))
   | 3, hj => exact (atoi_itoa (h 3 hj))
   | 4, hj => exact (atoi_itoa (h 4 hj))
 . rw [if_neg hj, if_neg hj]
theorem arr_line (c : CdV) (a : ArV) (h : I64 a.2.1 /\ I64 a.2.2.1 /\ I64 a.2.2.2) : lineV c ((arrW a).map bA) = { c with q := c.q ++ [a] } := by
 have e : fldV ((arrW a).map bA) = ⟨#[97, 114, 114, 97, 121]⟩ := rfl
 unfold lineV
 rw [e, if_neg (ba_ne (by decide)), if_pos rfl]
 have e1 : atoiV ((((arrW a).map bA).tail.tail.getD 0 ⟨#[]⟩).data.toList) = a.2.1 := atoi_itoa h.1
 have e2 : atoiV ((((arrW a).map bA).tail.tail.getD 1 ⟨#[]⟩).data.toList) = a.2.2.1 := atoi_itoa h.2.1
 have e3 : atoiV ((((arrW a).map bA).tail.tail.getD 2 ⟨#[]⟩).data.toList) = a.2.2.2 := atoi_itoa h.2.2
 have e0 : fldV ((arrW a).map bA).tail = a.1 := rfl
 rw [e0, e1, e2, e3]
theorem loop_line (c : CdV) (a : LoV) (h : I64 a.1 /\ I64 a.2.1 /\ I64 a.2.2) : lineV c ((loopW a).map bA) = { c with l := c.l ++ [a] } := by
 have e : fldV ((loopW a).map bA) = ⟨#[108, 111, 111, 112]⟩ := rfl
 unfold lineV
 rw [e, if_neg (ba_ne (by decide)), if_neg (ba_ne (by decide)), if_pos rfl]
 have e1 : atoiV ((((loopW a).map bA).tail.getD 0 ⟨#[]⟩).data.toList) = a.1 := atoi_itoa h.1
 have e2 : atoiV ((((loopW a).map bA).tail.getD 1 ⟨#[]⟩).data.toList) = a.2.1 := atoi_itoa h.2.1
 have e3 : atoiV ((((loopW a).map bA).tail.getD 2 ⟨#[]⟩).data.toList) = a.2.2 := atoi_itoa h.2.2
 rw [e1, e2, e3]
theorem blk_line (c : CdV) : lineV c (([[98, 108, 111, 99, 107]] : List (List UInt8)).map bA) = { c with b := c.b ++ [([], zeroT)] } := by
 have e : fldV ((([[98, 108, 111, 99, 107]] : List (List UInt8))).map bA) = ⟨#[98, 108, 111, 99, 107]⟩ := rfl
 unfold lineV
 rw [e, if_neg (ba_ne (by decide)), if_neg (ba_ne (by decide)), if_neg (ba_ne (by decide)), if_pos rfl]
abbrev stL (c : CdV) (ws : List (List UInt8)) : CdV := lineV c (ws.map bA)
theorem fold_q : ∀ (q : List ArV) (c : CdV), (∀ a, a ∈ q -> I64 a.2.1 /\ I64 a.2.2.1 /\ I64 a.2.2.2) -> (q.map arrW).foldl stL c = { c with q := c.q ++ q }
 | [], c, _ => by simp
 | a :: q, c, h => by
  rw [List.map_cons, List.foldl_cons]
  show (q.map arrW).foldl stL (lineV c ((arrW a).map bA)) = _
  rw [arr_line c a (h a (by simp)), fold_q q _ (fun x hx => h x (by simp [hx]))]
  simp
theorem fold_l : ∀ (q : List LoV) (c : CdV), (∀ a, a ∈ q -> I64 a.1 /\ I64 a.2.1 /\ I64 a.2.2) -> (q.map loopW).foldl stL c = { c with l := c.l ++ q }
 | [], c, _ => by simp
 | a :: q, c, h => by
  rw [List.map_cons, List.foldl_cons]
  show (q.map loopW).foldl stL (lineV c ((loopW a).map bA)) = _
  rw [loop_line c a (h a (by simp)), fold_l q _ (fun x hx => h x (by simp [hx]))]
  simp
theorem fold_i (B : List (List InstV × TermV)) (t : TermV) : ∀ (l : List InstV) (is : List InstV) (c : CdV), c.b = B ++ [(is, t)] -> (∀ i, i ∈ l -> InstOk i) -> (l.map instW).foldl stL c = { c with b := B ++ [(is ++ l, t)] }
 | [], is, c, hb, _ => by
  rw [List.append_nil, <- hb]
  rfl
 | i :: l, is, c, hb, h => by
  rw [List.map_cons, List.foldl_cons]
  show (l.map instW).foldl stL (lineV c ((instW i).map bA)) = _
  rw [inst_line c B is t i hb (h i (by simp)), fold_i B t l (is ++ [i]) _ rfl (fun x hx => h x (by simp [hx]))]
  simp
theorem fold_e (c : CdV) (e : List InstV × TermV) (hi : ∀ i, i ∈ e.1 -> InstOk i) (ht : EndOk e.2) : (blkW e).foldl stL c = { c with b := c.b ++ [e] } := by
 unfold blkW
 rw [List.foldl_cons, List.foldl_append]
 show [endW e.2].foldl stL ((e.1.map instW).foldl stL (lineV c (([[98, 108, 111, 99, 107]] : List (List UInt8)).map bA))) = _
 rw [blk_line, fold_i c.b zeroT e.1 [] _ rfl hi]
 show lineV _ ((endW e.2).map bA) = _
 rw [end_line _ c.b ([] ++ e.1) zeroT e.2 rfl ht, List.nil_append]
theorem fold_b : ∀ (b : List (List InstV × TermV)) (c : CdV), (∀ e, e ∈ b -> (∀ i, i ∈ e.1 -> InstOk i) /\ EndOk e.2) -> (b.flatMap blkW).foldl stL c = { c with b := c.b ++ b }
 | [], c, _ => by simp
 | e :: b, c, h => by
  rw [List.flatMap_cons, List.foldl_append, fold_e c e (h e (by simp)).1 (h e (by simp)).2, fold_b b _ (fun x hx => h x (by simp [hx]))]
  simp
def cutC (c : CdV) : CdV := ⟨c.q, c.l, c.b, fun j => if j < 5 then c.n j else 0⟩
theorem read_txt {c : CdV} (h : RtOk c) : readV (bA (txtC c)) = cutC c := by
 rw [txt_lines, read_lines _ (lines_ok h)]
 unfold linesC
 rw [List.foldl_cons, List.foldl_append, List.foldl_append]
 show (c.b.flatMap blkW).foldl stL ((c.l.map loopW).foldl stL ((c.q.map arrW).foldl stL (lineV cd0 ((headW c.n).map bA)))) = _
 rw [head_line cd0 c.n h.n, fold_q _ _ (fun a ha => (h.q a ha).2), fold_l _ _ h.l, fold_b _ _ h.b]
 rfl
theorem cut_chk (c : CdV) : chkC (cutC c) = chkC c := rfl
theorem cut_txt (c : CdV) : txtC (cutC c) = txtC c := rfl
theorem same_cut (c : CdV) : sameCd c (cutC c) = true := by
 have h1 : sameHd (c.n 0) (c.n 1) (c.n 2) (c.n 3) (c.n 4) (c.n 0) (c.n 1) (c.n 2) (c.n 3) (c.n 4) c.q.length c.l.length c.q.length c.l.length c.nm c.nm c.sp c.ty c.ln c.sp c.ty c.ln c.hd c.rg c.bd c.hd c.rg c.bd = true := by
  simp [sameHd, eqA, eqL]
 have h2 : ∀ j, sameB (c.il j) (c.il j) (c.is j) (c.is j) (c.te j) (c.te j) = true := fun j => by simp [sameB, eqT, eqI]
 show sameC (sameHd (c.n 0) (c.n 1) (c.n 2) (c.n 3) (c.n 4) (c.n 0) (c.n 1) (c.n 2) (c.n 3) (c.n 4) c.q.length c.l.length c.q.length c.l.length c.nm c.nm c.sp c.ty c.ln c.sp c.ty c.ln c.hd c.rg c.bd c.hd c.rg c.bd) c.b.length c.b.length c.il c.il c.is c.is c.te c.te = true
 unfold sameC
 rw [h1]
 simp [h2]
theorem parse_txt {c : CdV} (h : RtOk c) (hz : chkC c = 0) : parseC (bA (txtC c)) = cutC c /\ parseE (bA (txtC c)) = 0 := by
 have hp : parseB (bA (txtC c)) = true := by
  unfold parseB
  rw [read_txt h, cut_chk, cut_txt, hz]
  simp [bA]
 unfold parseC parseE
 rw [if_pos hp, if_pos hp, read_txt h]
 exact ⟨rfl, rfl⟩
end Go.Proofs.YtkncilgmlkeifaaGreatDoor
/-
  The reference reads what the program reads (plain facts): its reader of a text as a plain function; what the checker accepts has short numbers; both readers accept the same texts and read the same codes.
-/
namespace Go.Proofs.YtkncilgmlkeifaaGreatDoor
open Go.ChangeShapes Go.WideShapes Go.ChangeAt Go.RowKit Go.Shelf
def digV (n : Int) (c : UInt8) : Int := if 48 <= c.toNat /\ c.toNat <= 57 then n * 10 + ((c.toNat : Int) - 48) else n
def wholeN (l : List UInt8) : Int := (l.take 12).foldl digV 0
def wholeV (l : List UInt8) : Int := if l.head? = some 45 then -(wholeN l) else wholeN l
def S11 (n : Int) : Prop := -99999999999 <= n /\ n <= 99999999999
theorem S11.i64 {n : Int} (h : S11 n) : I64 n := by unfold S11 at h; unfold I64; omega
theorem digs_fold (u : Nat) : (Lib.decDigits u).foldl digV 0 = u := by
 induction u using Nat.strongRecOn with
 | _ u ih =>
  unfold Lib.decDigits
  split
  . next h =>
    have e := dig_nat h
    simp only [List.foldl_cons, List.foldl_nil, digV, e]
    rw [if_pos (by omega)]
    omega
  . next h =>
    have e := dig_nat (show u % 10 < 10 by omega)
    rw [List.foldl_append, ih (u / 10) (by omega)]
    simp only [List.foldl_cons, List.foldl_nil, digV, e]
    rw [if_pos (by omega)]
    omega
theorem digs_len : ∀ (k u : Nat), u < 10 ^ (k + 1) -> (Lib.decDigits u).length <= k + 1
 | 0, u, h => by
  unfold Lib.decDigits
  rw [dif_pos (by simpa using h)]
  simp
 | k + 1, u, h => by
  unfold Lib.decDigits
  split
  . simp
  . have := digs_len k (u / 10) (by rw [Nat.pow_succ] at h; omega)
    simp only [List.length_append, List.length_cons, List.length_nil]
    omega
theorem whole_itoa {n : Int} (h : S11 n) : wholeV (Lib.itoa n) = n := by
 unfold S11 at h
 unfold wholeV wholeN Lib.itoa
 by_cases h0 : n < 0
 . rw [if_pos h0]
   have hl := digs_len 10 n.natAbs (by omega)
   rw [if_pos (by rfl), List.take_of_length_le (by simp only [List.length_cons]; omega), List.foldl_cons]
   have e : digV 0 45 = 0 := by decide
   rw [e, digs_fold]
   omega
 . rw [if_neg h0]
   have hl := digs_len 10 n.toNat (by omega)
   rw [List.take_of_length_le (by omega), digs_fold, if_neg]
   . omega
   . cases hd : Lib.decDigits n.toNat with
     | nil => simp
     | cons c r =>
      have hc := dig_mem n.toNat c (by rw [hd]; simp)
      intro hh
      obtain rfl : c = 45 := by simpa using hh
      have e45 : (45 : UInt8).toNat = 45 := rfl
      omega
def opdQ (s : ByteArray) : OpdV := if s.data.toList.head? = some 114 then ⟨2, wholeV s.data.toList.tail, 0⟩ else ⟨1, 0, wrap32 (wholeV s.data.toList)⟩
theorem opd_readQ {o : OpdV} (h : OpdOk o) (hn : S11 o.n) (hv : I32b o.v) : opdQ (bA (opdW o)) = o := by
 obtain ⟨k, n, v⟩ := o
 unfold opdQ opdW
 rcases h with ⟨h1, h2⟩ | ⟨h1, h2⟩
 . simp only at h1 h2
   subst h1 h2
   simp only [if_true, bA_data]
   have hv' : -2147483648 <= v /\ v <= 2147483647 := hv
   rw [if_neg, whole_itoa (show S11 v by unfold S11; omega)]
   . congr 1
     unfold wrap32
     omega
   . cases hl : Lib.itoa v with
     | nil => simp
     | cons c r =>
      have hc := itoa_mem v c (by rw [hl]; simp)
      intro hh
      obtain rfl : c = 114 := by simpa using hh
      have : (114 : UInt8).toNat = 114 := rfl
      omega
 . simp only at h1 h2
   subst h1 h2
   have h21 : ¬ ((2 : Int) = 1) := by decide
   simp only [h21, if_false, bA_data, List.head?_cons, List.tail_cons, if_true]
   rw [whole_itoa hn]
def rdQ (f : FormV) (fs : List ByteArray) : PartV :=
 ⟨if f.want 0 then wholeV (fldS f fs 0).data.toList else 0, if f.want 1 then wholeV (fldS f fs 1).data.toList else 0, if f.want 2 then opdQ (fldS f fs 2) else noOpd, if f.want 3 then opdQ (fldS f fs 3) else noOpd, if f.want 4 then opdQ (fldS f fs 4) else noOpd, if f.want 5 then opdQ (fldS f fs 5) else noOpd, if f.want 6 then wholeV (fldS f fs 6).data.toList else 0, if f.want 7 then wholeV (fldS f fs 7).data.toList else 0⟩
structure PartS (q : PartV) : Prop where
 sub : S11 q.sub
 n : S11 q.n
 d : S11 q.d.n /\ I32b q.d.v
 a : S11 q.a.n /\ I32b q.a.v
 b : S11 q.b.n /\ I32b q.b.v
 c : S11 q.c.n /\ I32b q.c.v
 t0 : S11 q.t0
 t1 : S11 q.t1
theorem rdQ_words {f : FormV} {q : PartV} (h : PartOk f q) (hr : PartS q) (rest : List ByteArray) : rdQ f ((wordsF f q 8).map bA ++ rest) = q := by
 have num : ∀ (s : Nat) (n : Int), s < 8 -> S11 n -> stepW q s = Lib.itoa n -> (f.want s = false -> n = 0) -> (if f.want s = true then wholeV (fldS f ((wordsF f q 8).map bA ++ rest) s).data.toList else 0) = n := by
  intro s n hs hn he hz
  cases hw : f.want s with
  | true => rw [if_pos rfl, fld_get f q rest hw hs, bA_data, he, whole_itoa hn]
  | false =>
   rw [if_neg (by decide)]
   exact (hz hw).symm
 have op : ∀ (s : Nat) (o : OpdV), s < 8 -> (S11 o.n /\ I32b o.v) -> stepW q s = opdW o -> ((f.want s = true -> OpdOk o) /\ (f.want s = false -> o = noOpd)) -> (if f.want s = true then opdQ (fldS f ((wordsF f q 8).map bA ++ rest) s) else noOpd) = o := by
  intro s o hs ho he hz
  cases hw : f.want s with
  | true => rw [if_pos rfl, fld_get f q rest hw hs, he, opd_readQ (hz.1 hw) ho.1 ho.2]
  | false =>
   rw [if_neg (by decide)]
   exact (hz.2 hw).symm
 unfold rdQ
 rw [num 0 q.sub (by decide) hr.sub rfl h.sub, num 1 q.n (by decide) hr.n rfl h.n, op 2 q.d (by decide) hr.d rfl h.d, op 3 q.a (by decide) hr.a rfl h.a, op 4 q.b (by decide) hr.b rfl h.b, op 5 q.c (by decide) hr.c rfl h.c, num 6 q.t0 (by decide) hr.t0 rfl h.t0, num 7 q.t1 (by decide) hr.t1 rfl h.t1]
def findV (s : ByteArray) : List ByteArray -> Int -> Int
 | [], _ => -1
 | x :: l, k => if x = s then k else findV s l (k + 1)
def opWs : List ByteArray := [⟨#[]⟩, ⟨#[109, 111, 118]⟩, ⟨#[117, 110]⟩, ⟨#[98, 105, 110]⟩, ⟨#[115, 101, 108]⟩, ⟨#[105, 100]⟩, ⟨#[112, 97, 114, 97, 109]⟩, ⟨#[108, 111, 97, 100]⟩, ⟨#[115, 116, 111, 114, 101]⟩, ⟨#[97, 116, 111, 109]⟩, ⟨#[102, 101, 110, 99, 101]⟩, ⟨#[103, 101, 116]⟩, ⟨#[112, 117, 116]⟩]
def kindWs : List ByteArray := [⟨#[]⟩, ⟨#[106, 117, 109, 112]⟩, ⟨#[98, 114, 97, 110, 99, 104]⟩, ⟨#[98, 97, 114, 114, 105, 101, 114]⟩, ⟨#[99, 111, 108, 108, 101, 99, 116]⟩, ⟨#[101, 120, 105, 116]⟩]
def opQ (w : ByteArray) : Int := findV w opWs 0
def kindQ (w : ByteArray) : Int := findV w kindWs 0
def instQ (op : Int) (fs : List ByteArray) : InstV := let q := rdQ (instF op) fs; ⟨op, q.sub, q.n, q.d, q.a, q.b, q.c⟩
def endQ (k : Int) (fs : List ByteArray) : TermV := let q := rdQ (endF k) fs; ⟨k, q.sub, q.d, q.a, q.b, q.t0, q.t1⟩
def lineQ (c : CdV) (fs : List ByteArray) : CdV :=
 if fldV fs = ⟨#[99, 111, 100, 101]⟩ then { c with n := fun j => if j < 5 then wholeV (fs.tail.getD j ⟨#[]⟩).data.toList else c.n j }
 else if fldV fs = ⟨#[97, 114, 114, 97, 121]⟩ then { c with q := c.q ++ [(fldV fs.tail, wholeV (fs.tail.tail.getD 0 ⟨#[]⟩).data.toList, wholeV (fs.tail.tail.getD 1 ⟨#[]⟩).data.toList, wholeV (fs.tail.tail.getD 2 ⟨#[]⟩).data.toList)] }
 else if fldV fs = ⟨#[108, 111, 111, 112]⟩ then { c with l := c.l ++ [(wholeV (fs.tail.getD 0 ⟨#[]⟩).data.toList, wholeV (fs.tail.getD 1 ⟨#[]⟩).data.toList, wholeV (fs.tail.getD 2 ⟨#[]⟩).data.toList)] }
 else if fldV fs = ⟨#[98, 108, 111, 99, 107]⟩ then { c with b := c.b ++ [([], zeroT)] }
 else match c.b.getLast? with
  | none => c
  | some e => if 0 < opQ (fldV fs) then { c with b := c.b.dropLast ++ [(e.1 ++ [instQ (opQ (fldV fs)) fs.tail], e.2)] }
   else if 0 < kindQ (fldV fs) then { c with b := c.b.dropLast ++ [(e.1, endQ (kindQ (fldV fs)) fs.tail)] } else c
theorem opQ_w : ∀ j : Nat, j < 12 -> opQ ⟨(instF ((j : Int) + 1)).word⟩ = (j : Int) + 1 := by decide +kernel
theorem opQ_k : ∀ j : Nat, j < 5 -> opQ ⟨(endF ((j : Int) + 1)).word⟩ = -1 /\ kindQ ⟨(endF ((j : Int) + 1)).word⟩ = (j : Int) + 1 := by decide +kernel
structure InstS (i : InstV) : Prop where
 ok : InstOk i
 s : PartS i.parts
structure EndS (t : TermV) : Prop where
 ok : EndOk t
 s : PartS t.parts
theorem inst_lineQ (c : CdV) (B : List (List InstV × TermV)) (is : List InstV) (t : TermV) (i : InstV) (hb : c.b = B ++ [(is, t)]) (h : InstS i) : lineQ c ((instW i).map bA) = { c with b := B ++ [(is ++ [i], t)] } := by
 obtain ⟨m, hm⟩ : ∃ m : Nat, i.op = (m : Int) + 1 := ⟨(i.op - 1).toNat, by have := h.ok.op; omega⟩
 have hm12 : m < 12 := by have := h.ok.op; omega
 have hf : fldV ((instW i).map bA) = ⟨(instF ((m : Int) + 1)).word⟩ := by
  show bA (instF i.op).word.toList = _
  rw [hm]
  rfl
 have ht : ((instW i).map bA).tail = (wordsF (instF i.op) i.parts 8).map bA ++ [] := by
  rw [List.append_nil]
  rfl
 obtain ⟨l1, l2, l3, l4⟩ := iw_line m hm12
 have ne : ∀ x : Array UInt8, (instF ((m : Int) + 1)).word ≠ x -> ¬ ((⟨(instF ((m : Int) + 1)).word⟩ : ByteArray) = ⟨x⟩) := fun x hx he => hx (congrArg ByteArray.data he)
 unfold lineQ
 rw [hf, if_neg (ne _ l1), if_neg (ne _ l2), if_neg (ne _ l3), if_neg (ne _ l4), hb, List.getLast?_concat]
 simp only [List.dropLast_concat]
 rw [opQ_w m hm12, if_pos (by omega)]
 have hq : rdQ (instF ((m : Int) + 1)) ((instW i).map bA).tail = i.parts := by
  rw [ht, <- hm]
  exact rdQ_words h.ok.parts h.s []
 have hi : instQ ((m : Int) + 1) ((instW i).map bA).tail = i := by
  unfold instQ
  rw [hq, <- hm]
  rfl
 rw [hi]
theorem end_lineQ (c : CdV) (B : List (List InstV × TermV)) (is : List InstV) (t0 t : TermV) (hb : c.b = B ++ [(is, t0)]) (h : EndS t) : lineQ c ((endW t).map bA) = { c with b := B ++ [(is, t)] } := by
 obtain ⟨m, hm⟩ : ∃ m : Nat, t.kind = (m : Int) + 1 := ⟨(t.kind - 1).toNat, by have := h.ok.kind; omega⟩
 have hm5 : m < 5 := by have := h.ok.kind; omega
 have hf : fldV ((endW t).map bA) = ⟨(endF ((m : Int) + 1)).word⟩ := by
  show bA (endF t.kind).word.toList = _
  rw [hm]
  rfl
 have ht : ((endW t).map bA).tail = (wordsF (endF t.kind) t.parts 8).map bA ++ [] := by
  rw [List.append_nil]
  rfl
 obtain ⟨l1, l2, l3, l4⟩ := ew_line m hm5
 have ne : ∀ x : Array UInt8, (endF ((m : Int) + 1)).word ≠ x -> ¬ ((⟨(endF ((m : Int) + 1)).word⟩ : ByteArray) = ⟨x⟩) := fun x hx he => hx (congrArg ByteArray.data he)
 obtain ⟨o1, o2⟩ := opQ_k m hm5
 unfold lineQ
 rw [hf, if_neg (ne _ l1), if_neg (ne _ l2), if_neg (ne _ l3), if_neg (ne _ l4), hb, List.getLast?_concat]
 simp only [List.dropLast_concat]
 rw [o1, o2, if_neg (by decide), if_pos (by omega)]
 have hq : rdQ (endF ((m : Int) + 1)) ((endW t).map bA).tail = t.parts := by
  rw [ht, <- hm]
  exact rdQ_words h.ok.parts h.s []
 have hi : endQ ((m : Int) + 1) ((endW t).map bA).tail = t := by
  unfold endQ
  rw [hq, <- hm]
  rfl
 rw [hi]
theorem head_lineQ (c : CdV) (n : Nat -> Int) (h : ∀ j, j < 5 -> S11 (n j)) : lineQ c ((headW n).map bA) = { c with n := fun j => if j < 5 then n j else c.n j } := by
 unfold lineQ
 rw [if_pos (show fldV ((headW n).map bA) = ⟨#[99, 111, 100, 101]⟩ from rfl)]
 congr 1
 funext j
 by_cases hj : j < 5
 . rw [if_pos hj, if_pos hj]
   match j, hj with
   | 0, hj => exact (whole_itoa (h 0 hj))
   | 1, hj => exact (whole_itoa (h 1 hj))
   | 2, hj => exact (whole_itoa (h 2 hj))
   | 3, hj => exact (whole_itoa (h 3 hj))
   | 4, hj => exact (whole_itoa (h 4 hj))
 . rw [if_neg hj, if_neg hj]
theorem arr_lineQ (c : CdV) (a : ArV) (h : S11 a.2.1 /\ S11 a.2.2.1 /\ S11 a.2.2.2) : lineQ c ((arrW a).map bA) = { c with q := c.q ++ [a] } := by
 have e : fldV ((arrW a).map bA) = ⟨#[97, 114, 114, 97, 121]⟩ := rfl
 unfold lineQ
 rw [e, if_neg (ba_ne (by decide)), if_pos rfl]
 have e1 : wholeV ((((arrW a).map bA).tail.tail.getD 0 ⟨#[]⟩).data.toList) = a.2.1 := whole_itoa h.1
 have e2 : wholeV ((((arrW a).map bA).tail.tail.getD 1 ⟨#[]⟩).data.toList) = a.2.2.1 := whole_itoa h.2.1
 have e3 : wholeV ((((arrW a).map bA).tail.tail.getD 2 ⟨#[]⟩).data.toList) = a.2.2.2 := whole_itoa h.2.2
 have e0 : fldV ((arrW a).map bA).tail = a.1 := rfl
 rw [e0, e1, e2, e3]
theorem loop_lineQ (c : CdV) (a : LoV) (h : S11 a.1 /\ S11 a.2.1 /\ S11 a.2.2) : lineQ c ((loopW a).map bA) = { c with l := c.l ++ [a] } := by
 have e : fldV ((loopW a).map bA) = ⟨#[108, 111, 111, 112]⟩ := rfl
 unfold lineQ
 rw [e, if_neg (ba_ne (by decide)), if_neg (ba_ne (by decide)), if_pos rfl]
 have e1 : wholeV ((((loopW a).map bA).tail.getD 0 ⟨#[]⟩).data.toList) = a.1 := whole_itoa h.1
 have e2 : wholeV ((((loopW a).map bA).tail.getD 1 ⟨#[]⟩).data.toList) = a.2.1 := whole_itoa h.2.1
 have e3 : wholeV ((((loopW a).map bA).tail.getD 2 ⟨#[]⟩).data.toList) = a.2.2 := whole_itoa h.2.2
 rw [e1, e2, e3]
theorem blk_lineQ (c : CdV) : lineQ c (([[98, 108, 111, 99, 107]] : List (List UInt8)).map bA) = { c with b := c.b ++ [([], zeroT)] } := by
 have e : fldV ((([[98, 108, 111, 99, 107]] : List (List UInt8))).map bA) = ⟨#[98, 108, 111, 99, 107]⟩ := rfl
 unfold lineQ
 rw [e, if_neg (ba_ne (by decide)), if_neg (ba_ne (by decide)), if_neg (ba_ne (by decide)), if_pos rfl]
theorem nil_lineQ (c : CdV) : lineQ c [⟨#[]⟩] = c := by
 have e : fldV [⟨#[]⟩] = ⟨#[]⟩ := rfl
 unfold lineQ
 rw [e, if_neg (ba_ne (by decide)), if_neg (ba_ne (by decide)), if_neg (ba_ne (by decide)), if_neg (ba_ne (by decide))]
 split
 . rfl
 . rw [if_neg (by decide), if_neg (by decide)]
abbrev stQ (c : CdV) (ws : List (List UInt8)) : CdV := lineQ c (ws.map bA)
theorem foldQ_q : ∀ (q : List ArV) (c : CdV), (∀ a, a ∈ q -> S11 a.2.1 /\ S11 a.2.2.1 /\ S11 a.2.2.2) -> (q.map arrW).foldl stQ c = { c with q := c.q ++ q }
 | [], c, _ => by simp
 | a :: q, c, h => by
  rw [List.map_cons, List.foldl_cons]
  show (q.map arrW).foldl stQ (lineQ c ((arrW a).map bA)) = _
  rw [arr_lineQ c a (h a (by simp)), foldQ_q q _ (fun x hx => h x (by simp [hx]))]
  simp
theorem foldQ_l : ∀ (q : List LoV) (c : CdV), (∀ a, a ∈ q -> S11 a.1 /\ S11 a.2.1 /\ S11 a.2.2) -> (q.map loopW).foldl stQ c = { c with l := c.l ++ q }
 | [], c, _ => by simp
 | a :: q, c, h => by
  rw [List.map_cons, List.foldl_cons]
  show (q.map loopW).foldl stQ (lineQ c ((loopW a).map bA)) = _
  rw [loop_lineQ c a (h a (by simp)), foldQ_l q _ (fun x hx => h x (by simp [hx]))]
  simp
theorem foldQ_i (B : List (List InstV × TermV)) (t : TermV) : ∀ (l : List InstV) (is : List InstV) (c : CdV), c.b = B ++ [(is, t)] -> (∀ i, i ∈ l -> InstS i) -> (l.map instW).foldl stQ c = { c with b := B ++ [(is ++ l, t)] }
 | [], is, c, hb, _ => by
  rw [List.append_nil, <- hb]
  rfl
 | i :: l, is, c, hb, h => by
  rw [List.map_cons, List.foldl_cons]
  show (l.map instW).foldl stQ (lineQ c ((instW i).map bA)) = _
  rw [inst_lineQ c B is t i hb (h i (by simp)), foldQ_i B t l (is ++ [i]) _ rfl (fun x hx => h x (by simp [hx]))]
  simp
theorem foldQ_e (c : CdV) (e : List InstV × TermV) (hi : ∀ i, i ∈ e.1 -> InstS i) (ht : EndS e.2) : (blkW e).foldl stQ c = { c with b := c.b ++ [e] } := by
 unfold blkW
 rw [List.foldl_cons, List.foldl_append]
 show [endW e.2].foldl stQ ((e.1.map instW).foldl stQ (lineQ c (([[98, 108, 111, 99, 107]] : List (List UInt8)).map bA))) = _
 rw [blk_lineQ, foldQ_i c.b zeroT e.1 [] _ rfl hi]
 show lineQ _ ((endW e.2).map bA) = _
 rw [end_lineQ _ c.b ([] ++ e.1) zeroT e.2 rfl ht, List.nil_append]
theorem foldQ_b : ∀ (b : List (List InstV × TermV)) (c : CdV), (∀ e, e ∈ b -> (∀ i, i ∈ e.1 -> InstS i) /\ EndS e.2) -> (b.flatMap blkW).foldl stQ c = { c with b := c.b ++ b }
 | [], c, _ => by simp
 | e :: b, c, h => by
  rw [List.flatMap_cons, List.foldl_append, foldQ_e c e (h e (by simp)).1 (h e (by simp)).2, foldQ_b b _ (fun x hx => h x (by simp [hx]))]
  simp
structure RtS (c : CdV) : Prop where
 ok : RtOk c
 n : ∀ j, j < 5 -> S11 (c.n j)
 q : ∀ a, a ∈ c.q -> S11 a.2.1 /\ S11 a.2.2.1 /\ S11 a.2.2.2
 l : ∀ a, a ∈ c.l -> S11 a.1 /\ S11 a.2.1 /\ S11 a.2.2
 b : ∀ e, e ∈ c.b -> (∀ i, i ∈ e.1 -> PartS i.parts) /\ PartS e.2.parts
def splitD (d : UInt8) : List UInt8 -> List (List UInt8)
 | [] => [[]]
 | c :: r => if c = d then [] :: splitD d r else match splitD d r with
  | [] => [[c]]
  | x :: xs => (c :: x) :: xs
theorem splitD_B : ∀ l, splitD 32 l = splitB l
 | [] => rfl
 | c :: r => by
  rw [splitD, splitB, splitD_B r]
  split
  . rfl
  . split <;> simp_all
theorem splitD_app (d : UInt8) : ∀ {p : List UInt8} (q : List UInt8), (∀ c, c ∈ p -> c ≠ d) -> splitD d (p ++ d :: q) = p :: splitD d q
 | [], q, _ => by simp [splitD]
 | c :: r, q, h => by
  have h1 : c ≠ d := h c (by simp)
  have h2 := splitD_app d (p := r) q (fun x hx => h x (by simp [hx]))
  rw [List.cons_append, splitD, if_neg h1, h2]
theorem splitD_lines : ∀ (L : List (List (List UInt8))), LinesOk L -> splitD 10 (L.flatMap lineT) = L.map joinW ++ [[]]
 | [], _ => rfl
 | ws :: L, h => by
  have e : (ws :: L).flatMap lineT = joinW ws ++ 10 :: L.flatMap lineT := by simp [lineT]
  rw [e, splitD_app 10 _ (join_no10 ws (h ws (by simp)).2), splitD_lines L (fun x hx => h x (by simp [hx]))]
  rfl
def readQ (s : List UInt8) : CdV := (splitD 10 s).foldl (fun c l => lineQ c ((splitB l).map bA)) cd0
theorem fold_splitQ : ∀ (L : List (List (List UInt8))) (c : CdV), LinesOk L -> (L.map joinW).foldl (fun c l => lineQ c ((splitB l).map bA)) c = L.foldl stQ c
 | [], _, _ => rfl
 | ws :: L, c, h => by
  rw [List.map_cons, List.foldl_cons, List.foldl_cons]
  have e : splitB (joinW ws) = ws := by
   obtain ⟨h1, h2⟩ := h ws (by simp)
   cases ws with
   | nil => exact absurd rfl h1
   | cons w r => exact splitB_join r w (h2 w (by simp)) (fun x hx => h2 x (by simp [hx]))
  rw [e]
  exact fold_splitQ L _ (fun x hx => h x (by simp [hx]))
theorem readQ_txt {c : CdV} (h : RtS c) : readQ (txtC c) = cutC c := by
 have hb : ∀ e, e ∈ c.b -> (∀ i, i ∈ e.1 -> InstS i) /\ EndS e.2 := fun e he =>
  ⟨fun i hi => ⟨(h.ok.b e he).1 i hi, (h.b e he).1 i hi⟩, ⟨(h.ok.b e he).2, (h.b e he).2⟩⟩
 rw [readQ, txt_lines, splitD_lines _ (lines_ok h.ok), List.foldl_append, fold_splitQ _ _ (lines_ok h.ok)]
 show lineQ _ [⟨#[]⟩] = _
 rw [nil_lineQ]
 unfold linesC
 rw [List.foldl_cons, List.foldl_append, List.foldl_append]
 show (c.b.flatMap blkW).foldl stQ ((c.l.map loopW).foldl stQ ((c.q.map arrW).foldl stQ (lineQ cd0 ((headW c.n).map bA)))) = _
 rw [head_lineQ cd0 c.n h.n, foldQ_q c.q _ h.q, foldQ_l c.l _ h.l, foldQ_b c.b _ hb]
 simp [cd0, cutC]
theorem s11_of {n : Int} (h : -100000 <= n /\ n <= 100000) : S11 n := by unfold S11; omega
theorem wth_s {n lo hi : Int} (h : wthB n lo hi = true) : lo <= n /\ n <= hi := by
 unfold wthB at h
 simpa [Bool.and_eq_true, decide_eq_true_eq] using h
theorem partS_of {p sl r : Int} {n1 n3 : Nat} {sp : Nat -> Int} {f : FormV} {q : PartV} (h : hasV p sl r n1 n3 sp f q = true) (hp : p <= 8) (hsl : sl <= 256) (hr : r <= 256) (h1 : n1 <= 8) (h3 : n3 <= 400)
 (vd : I32b q.d.v) (va : I32b q.a.v) (vb : I32b q.b.v) (vc : I32b q.c.v) : PartS q := by
 have hk := partOk_of h
 unfold hasV at h
 simp only [Bool.and_eq_true] at h
 obtain ⟨hz, ⟨hs, hi⟩, ⟨hd, ha, hb, hc⟩, ht⟩ := h
 have z : S11 0 := by unfold S11; omega
 have reg : ∀ {o : OpdV}, regB r o = true -> S11 o.n := fun {o} ho => by
  unfold regB at ho
  simp only [Bool.and_eq_true] at ho
  have := wth_s ho.2.2
  exact s11_of (by omega)
 have val : ∀ {o : OpdV}, valB r o = true -> S11 o.n := fun {o} ho => by
  unfold valB at ho
  simp only [Bool.or_eq_true, Bool.and_eq_true, decide_eq_true_eq] at ho
  rcases ho with ho | ho
  . rw [ho.2]; exact z
  . exact reg ho
 have zo : ∀ {o : OpdV}, o = noOpd -> S11 o.n := fun {o} ho => by rw [ho]; exact z
 have tt : ∀ j : Nat, (j : Int) < f.targets -> S11 (if j = 0 then q.t0 else q.t1) := fun j hj => by
  have := List.all_eq_true.1 ht j (List.mem_range.2 (by omega))
  have := wth_s this
  exact s11_of (by omega)
 refine ⟨?_, ?_, ⟨?_, vd⟩, ⟨?_, va⟩, ⟨?_, vb⟩, ⟨?_, vc⟩, ?_, ?_⟩
 . cases hw : f.want 0 with
   | false => rw [hk.sub hw]; exact z
   | true =>
    have := not_or hs hw
    unfold hasB at this
    simp only [Bool.and_eq_true] at this
    have := wth_s this.1
    exact s11_of (by omega)
 . cases hw : f.want 1 with
   | false => rw [hk.n hw]; exact z
   | true =>
    have := not_or hi hw
    unfold idxB at this
    split at this
    . have := wth_s this; exact s11_of (by omega)
    . split at this
      . have := wth_s this; exact s11_of (by omega)
      . simp only [Bool.and_eq_true] at this
        have := wth_s this.1
        exact s11_of (by omega)
 . cases hw : f.want 2 with
   | false => exact zo (hk.d.2 hw)
   | true => exact reg (not_or hd hw)
 . cases hw : f.want 3 with
   | false => exact zo (hk.a.2 hw)
   | true => exact val (not_or ha hw)
 . cases hw : f.want 4 with
   | false => exact zo (hk.b.2 hw)
   | true => exact val (not_or hb hw)
 . cases hw : f.want 5 with
   | false => exact zo (hk.c.2 hw)
   | true => exact val (not_or hc hw)
 . cases hw : f.want 6 with
   | false => rw [hk.t0 hw]; exact z
   | true =>
    have hj : ((0 : Nat) : Int) < f.targets := by
     have : ((6 : Nat) : Int) - 6 < f.targets := by simpa [FormV.want] using hw
     omega
    exact tt 0 hj
 . cases hw : f.want 7 with
   | false => rw [hk.t1 hw]; exact z
   | true =>
    have hj : ((1 : Nat) : Int) < f.targets := by
     have : ((7 : Nat) : Int) - 6 < f.targets := by simpa [FormV.want] using hw
     omega
    exact tt 1 hj
theorem okC_wok {c : UInt8} {i : Nat} (h : okC c i = true) : c ≠ 32 /\ c ≠ 10 := by
 constructor
 . rintro rfl
   have : (32 : UInt8).toNat = 32 := rfl
   simp [okC, this] at h
 . rintro rfl
   have : (10 : UInt8).toNat = 10 := rfl
   simp [okC, this] at h
theorem name_wok {s : ByteArray} (h : nameB s = true) : WOk s.data.toList := by
 unfold nameB at h
 simp only [Bool.and_eq_true, List.all_eq_true, List.mem_range] at h
 intro c hc
 obtain ⟨i, hi, rfl⟩ := List.mem_iff_getElem.1 hc
 have hs : i < s.size := by
  have : s.data.toList.length = s.size := by rw [Array.length_toList]; rfl
  omega
 have := h.1 i hs
 rw [List.getD_eq_getElem?_getD, List.getElem?_eq_getElem hi] at this
 exact okC_wok this
theorem instOk_chk {p sl r : Int} {n1 n3 : Nat} {sp : Nat -> Int} {i : InstV} (h : instB p sl r n1 n3 sp i = true) (hr : i.parts.Rng) : InstOk i := by
 unfold instB at h
 simp only [Bool.and_eq_true] at h
 exact ⟨by simpa [instOK] using h.1, partOk_of h.2, hr⟩
theorem endOk_chk {p sl r : Int} {n1 n3 : Nat} {sp : Nat -> Int} {t : TermV} (h : endB p sl r n1 n3 sp t = true) (hr : t.parts.Rng) : EndOk t := by
 unfold endB at h
 simp only [Bool.and_eq_true] at h
 exact ⟨by simpa [endOK] using h.1, partOk_of h.2, hr⟩
theorem sizB_s {g s r sl p : Int} (h : sizB g s r sl p = true) : (1 <= g /\ g <= 256) /\ (1 <= s /\ s <= 32) /\ 0 <= r /\ 0 <= sl /\ 0 <= p := by
 unfold sizB at h
 simp only [Bool.and_eq_true, decide_eq_true_eq] at h
 exact ⟨wth_s h.1, wth_s h.2.1, h.2.2.2.2.1, h.2.2.2.2.2.1, h.2.2.2.2.2.2⟩
theorem rts_of {c : CdV} (hz : chkC c = 0) (hr : c.Rng) : RtS c := by
 unfold chkC checkE at hz
 split at hz
 . rename_i hl
   split at hz
   . rename_i hf
     obtain ⟨b1, b2, b3, br, bs, bp⟩ := limB_bounds hl
     unfold formB at hf
     rw [Bool.and_eq_true, Bool.and_eq_true, Bool.and_eq_true, Bool.and_eq_true] at hf
     obtain ⟨hsz, ha', hlo', h0, hb'⟩ := hf
     have ha := fun j (hj : j < c.q.length) => List.all_eq_true.1 ha' j (List.mem_range.2 hj)
     have hlo := fun j (hj : j < c.l.length) => List.all_eq_true.1 hlo' j (List.mem_range.2 hj)
     have hb := fun j (hj : j < c.b.length) => List.all_eq_true.1 hb' j (List.mem_range.2 hj)
     clear ha' hlo' hb'
     obtain ⟨g1, s1, r0, sl0, p0⟩ := sizB_s hsz
     have hn : ∀ j, j < 5 -> S11 (c.n j) := fun j hj => by
      match j, hj with
      | 0, _ => exact s11_of (by omega)
      | 1, _ => exact s11_of (by omega)
      | 2, _ => exact s11_of (by omega)
      | 3, _ => exact s11_of (by omega)
      | 4, _ => exact s11_of (by omega)
     have hq : ∀ a, a ∈ c.q -> WOk a.1.data.toList /\ S11 a.2.1 /\ S11 a.2.2.1 /\ S11 a.2.2.2 := fun a hm => by
      obtain ⟨j, hj, rfl⟩ := List.mem_iff_getElem.1 hm
      have h := ha j hj
      unfold CdV.nm CdV.sp CdV.ty CdV.ln at h
      rw [getD_of _ _ _ hj] at h
      unfold arrB at h
      simp only [Bool.and_eq_true] at h
      have h1 := wth_s h.2.1
      have h2 := wth_s h.2.2.1
      have h3 := wth_s h.2.2.2
      exact ⟨name_wok h.1, s11_of (by omega), s11_of (by omega), s11_of (by omega)⟩
     have hL : ∀ a, a ∈ c.l -> S11 a.1 /\ S11 a.2.1 /\ S11 a.2.2 := fun a hm => by
      obtain ⟨j, hj, rfl⟩ := List.mem_iff_getElem.1 hm
      have h := hlo j hj
      unfold CdV.hd CdV.rg CdV.bd at h
      rw [getD_of _ _ _ hj] at h
      unfold loopB at h
      simp only [Bool.and_eq_true] at h
      have h1 := wth_s h.1
      have h2 := wth_s h.2.1
      have h3 := wth_s h.2.2
      exact ⟨s11_of (by omega), s11_of (by omega), s11_of (by omega)⟩
     have hB : ∀ e, e ∈ c.b -> (∀ i, i ∈ e.1 -> InstOk i /\ PartS i.parts) /\ EndOk e.2 /\ PartS e.2.parts := fun e hm => by
      obtain ⟨j, hj, rfl⟩ := List.mem_iff_getElem.1 hm
      have h := hb j hj
      unfold blockB at h
      simp only [Bool.and_eq_true, List.all_eq_true, List.mem_range] at h
      have eb : c.b.getD j noB = c.b[j] := getD_of _ _ _ hj
      refine ⟨fun i hi => ?_, ?_⟩
      . obtain ⟨k, hk, rfl⟩ := List.mem_iff_getElem.1 hi
        have hk' : k < c.il j := by unfold CdV.il; rw [eb]; exact hk
        have e : c.is j k = c.b[j].1[k] := by unfold CdV.is; rw [eb, getD_of _ _ _ hk]
        have hi' := h.1 k hk'
        have hrg := hr.insts j k hj hk'
        rw [e] at hi' hrg
        refine ⟨instOk_chk hi' hrg, ?_⟩
        unfold instB at hi'
        simp only [Bool.and_eq_true] at hi'
        exact partS_of hi'.2 bp bs br b1 b3 hrg.d.v hrg.a.v hrg.b.v hrg.c.v
      . have e : c.te j = c.b[j].2 := by unfold CdV.te; rw [eb]
        have hi' := h.2
        have hrg := hr.terms j hj
        rw [e] at hi' hrg
        refine ⟨endOk_chk hi' hrg, ?_⟩
        unfold endB at hi'
        simp only [Bool.and_eq_true] at hi'
        exact partS_of hi'.2 bp bs br b1 b3 hrg.d.v hrg.a.v hrg.b.v hrg.c.v
     exact ⟨⟨fun j hj => (hn j hj).i64, fun a ha => ⟨(hq a ha).1, (hq a ha).2.1.i64, (hq a ha).2.2.1.i64, (hq a ha).2.2.2.i64⟩, fun a ha => ⟨(hL a ha).1.i64, (hL a ha).2.1.i64, (hL a ha).2.2.i64⟩, fun e he => ⟨fun i hi => ((hB e he).1 i hi).1, (hB e he).2.1⟩⟩,
      hn, fun a ha => (hq a ha).2, hL, fun e he => ⟨fun i hi => ((hB e he).1 i hi).2, (hB e he).2.2⟩⟩
   . cases hz
 . cases hz
def grow (m : Int) : Nat -> Int
 | 0 => m
 | k + 1 => grow (m * 10 + 9) k
theorem grow_le : ∀ (k : Nat) {m m' : Int}, m <= m' -> grow m k <= grow m' k
 | 0, _, _, h => h
 | k + 1, _, _, h => grow_le k (by omega)
theorem grow_up : ∀ (d k : Nat) {m : Int}, 0 <= m -> grow m k <= grow m (k + d)
 | 0, _, _, _ => Int.le_refl _
 | d + 1, k, m, h => by
  have h1 : grow m k <= grow (m * 10 + 9) k := grow_le k (by omega)
  have h2 := grow_up d k (m := m * 10 + 9) (by omega)
  show grow m k <= grow (m * 10 + 9) (k + d)
  omega
theorem fold_dig : ∀ (l : List UInt8) (n m : Int), 0 <= n /\ n <= m -> 0 <= l.foldl digV n /\ l.foldl digV n <= grow m l.length
 | [], n, m, h => h
 | c :: l, n, m, h => by
  have h1 : 0 <= digV n c /\ digV n c <= m * 10 + 9 := by
   have hc : (c.toNat : Int) < 256 := by have := c.toNat_lt; omega
   unfold digV
   split <;> omega
  exact fold_dig l (digV n c) (m * 10 + 9) h1
theorem wholeN_le (l : List UInt8) : 0 <= wholeN l /\ wholeN l <= 999999999999 := by
 have h := fold_dig (l.take 12) 0 0 ⟨Int.le_refl _, Int.le_refl _⟩
 have hl : (l.take 12).length <= 12 := by rw [List.length_take]; omega
 have h2 := grow_up (12 - (l.take 12).length) (l.take 12).length (m := 0) (Int.le_refl _)
 rw [show (l.take 12).length + (12 - (l.take 12).length) = 12 by omega] at h2
 have h3 : grow 0 12 = 999999999999 := by decide +kernel
 unfold wholeN
 omega
theorem wholeV_rng (l : List UInt8) : I64 (wholeV l) := by
 have := wholeN_le l
 unfold wholeV I64
 split <;> omega
theorem wrap32_rng (n : Int) : I32b (wrap32 n) := by
 unfold wrap32 I32b
 omega
theorem opdQ_rng (s : ByteArray) : (opdQ s).Rng := by
 unfold opdQ
 split
 . exact ⟨wholeV_rng _, ⟨show (-2147483648 : Int) <= 0 by decide, show (0 : Int) <= 2147483647 by decide⟩⟩
 . exact ⟨zero_rng, wrap32_rng _⟩
theorem iteQ_rng {b : Bool} {l : List UInt8} : I64 (if b then wholeV l else 0) := by
 split
 . exact wholeV_rng _
 . exact zero_rng
theorem iteP_rng {b : Bool} {s : ByteArray} : (if b then opdQ s else noOpd).Rng := by
 split
 . exact opdQ_rng _
 . exact noOpd_rng
theorem rdQ_rng (f : FormV) (fs : List ByteArray) : (rdQ f fs).Rng := ⟨iteQ_rng, iteQ_rng, iteP_rng, iteP_rng, iteP_rng, iteP_rng, iteQ_rng, iteQ_rng⟩
theorem instQ_rng (op : Int) (fs : List ByteArray) : (instQ op fs).parts.Rng := by
 have r := rdQ_rng (instF op) fs
 exact ⟨r.sub, r.n, r.d, r.a, r.b, r.c, zero_rng, zero_rng⟩
theorem endQ_rng (k : Int) (fs : List ByteArray) : (endQ k fs).parts.Rng := by
 have r := rdQ_rng (endF k) fs
 exact ⟨r.sub, zero_rng, r.d, r.a, r.b, noOpd_rng, r.t0, r.t1⟩
theorem lineQ_ok {c : CdV} (h : CdOk c) (fs : List ByteArray) : CdOk (lineQ c fs) := by
 unfold lineQ
 split
 . refine ⟨fun j => ?_, h.q, h.l, h.i, h.t⟩
   simp only
   split
   . exact wholeV_rng _
   . exact h.n j
 split
 . refine ⟨h.n, fun a ha => ?_, h.l, h.i, h.t⟩
   rcases List.mem_append.1 ha with ha | ha
   . exact h.q a ha
   . rw [List.mem_singleton] at ha
     subst ha
     exact ⟨wholeV_rng _, wholeV_rng _, wholeV_rng _⟩
 split
 . refine ⟨h.n, h.q, fun a ha => ?_, h.i, h.t⟩
   rcases List.mem_append.1 ha with ha | ha
   . exact h.l a ha
   . rw [List.mem_singleton] at ha
     subst ha
     exact ⟨wholeV_rng _, wholeV_rng _, wholeV_rng _⟩
 split
 . refine ⟨h.n, h.q, h.l, fun e he => ?_, fun e he => ?_⟩
   . rcases List.mem_append.1 he with he | he
     . exact h.i e he
     . rw [List.mem_singleton] at he
       subst he
       intro x hx
       cases hx
   . rcases List.mem_append.1 he with he | he
     . exact h.t e he
     . rw [List.mem_singleton] at he
       subst he
       exact zeroT_rng
 cases hb : c.b.getLast? with
 | none => exact h
 | some e0 =>
  have he0 : e0 ∈ c.b := List.mem_of_getLast? hb
  simp only
  split
  . refine ⟨h.n, h.q, h.l, fun e he => ?_, fun e he => ?_⟩
    . rcases List.mem_append.1 he with he | he
      . exact h.i e ((List.dropLast_sublist _).subset he)
      . rw [List.mem_singleton] at he
        subst he
        intro x hx
        rcases List.mem_append.1 hx with hx | hx
        . exact h.i e0 he0 x hx
        . rw [List.mem_singleton] at hx
          subst hx
          exact instQ_rng _ _
    . rcases List.mem_append.1 he with he | he
      . exact h.t e ((List.dropLast_sublist _).subset he)
      . rw [List.mem_singleton] at he
        subst he
        exact h.t e0 he0
  split
  . refine ⟨h.n, h.q, h.l, fun e he => ?_, fun e he => ?_⟩
    . rcases List.mem_append.1 he with he | he
      . exact h.i e ((List.dropLast_sublist _).subset he)
      . rw [List.mem_singleton] at he
        subst he
        exact h.i e0 he0
    . rcases List.mem_append.1 he with he | he
      . exact h.t e ((List.dropLast_sublist _).subset he)
      . rw [List.mem_singleton] at he
        subst he
        exact endQ_rng _ _
  . exact h
theorem lineQ_small {c : CdV} {k : Nat} (h : Small c k) (fs : List ByteArray) : Small (lineQ c fs) (k + 1) := by
 obtain ⟨h1, h2, h3, h4⟩ := h
 have h5 : ∀ e, e ∈ c.b -> e.1.length <= k + 1 := fun e he => by have := h4 e he; omega
 unfold lineQ
 split
 . exact ⟨by simp only; omega, by simp only; omega, by simp only; omega, h5⟩
 split
 . exact ⟨by simp; omega, by simp only; omega, by simp only; omega, h5⟩
 split
 . exact ⟨by simp only; omega, by simp; omega, by simp only; omega, h5⟩
 split
 . refine ⟨by simp only; omega, by simp only; omega, by simp; omega, fun e he => ?_⟩
   rcases List.mem_append.1 he with he | he
   . exact h5 e he
   . rw [List.mem_singleton] at he
     subst he
     simp
 cases hb : c.b.getLast? with
 | none => exact ⟨by simp only; omega, by simp only; omega, by simp only; omega, h5⟩
 | some e0 =>
  have he0 : e0 ∈ c.b := List.mem_of_getLast? hb
  have b := h4 e0 he0
  simp only
  split
  . refine ⟨by simp only; omega, by simp only; omega, by simp; omega, fun e he => ?_⟩
    rcases List.mem_append.1 he with he | he
    . exact h5 e ((List.dropLast_sublist _).subset he)
    . rw [List.mem_singleton] at he
      subst he
      simp
      omega
  split
  . refine ⟨by simp only; omega, by simp only; omega, by simp; omega, fun e he => ?_⟩
    rcases List.mem_append.1 he with he | he
    . exact h5 e ((List.dropLast_sublist _).subset he)
    . rw [List.mem_singleton] at he
      subst he
      exact h5 e0 he0
  . exact ⟨by omega, by omega, by omega, h5⟩
def readQk (s : List UInt8) (k : Nat) : CdV := ((splitD 10 s).take k).foldl (fun c l => lineQ c ((splitB l).map bA)) cd0
theorem readQk_succ (s : List UInt8) {k : Nat} (h : k < (splitD 10 s).length) : readQk s (k + 1) = lineQ (readQk s k) ((splitB (splitD 10 s)[k]).map bA) := by
 unfold readQk
 rw [List.take_succ_eq_append_getElem h, List.foldl_append]
 rfl
theorem readQk_all (s : List UInt8) : readQk s (splitD 10 s).length = readQ s := by
 unfold readQk readQ
 rw [List.take_length]
theorem cd0_ok : CdOk cd0 := ⟨fun _ => zero_rng, by simp [cd0], by simp [cd0], by simp [cd0], by simp [cd0]⟩
theorem readQk_ok (s : List UInt8) : ∀ k, k <= (splitD 10 s).length -> CdOk (readQk s k) /\ Small (readQk s k) k
 | 0, _ => ⟨cd0_ok, ⟨by simp [readQk, cd0], by simp [readQk, cd0], by simp [readQk, cd0], by simp [readQk, cd0]⟩⟩
 | k + 1, h => by
  have := readQk_ok s k (by omega)
  rw [readQk_succ s (by omega)]
  exact ⟨lineQ_ok this.1 _, lineQ_small this.2 _⟩
theorem splitD_len (d : UInt8) : ∀ l, (splitD d l).length <= l.length + 1
 | [] => by simp [splitD]
 | c :: r => by
  have := splitD_len d r
  unfold splitD
  split
  . simp; omega
  . split
    . simp
    . next x xs h => rw [h] at this; simp at this ⊢; omega
theorem readQ_ok (s : List UInt8) : CdOk (readQ s) /\ Small (readQ s) (s.length + 1) := by
 have h := readQk_ok s _ (Nat.le_refl _)
 rw [readQk_all] at h
 have hl := splitD_len 10 s
 exact ⟨h.1, ⟨by have := h.2.q; omega, by have := h.2.l; omega, by have := h.2.b; omega, fun e he => by have := h.2.i e he; omega⟩⟩
def parseQB (s : ByteArray) : Bool := decide (chkC (readQ s.data.toList) = 0) && decide ((⟨(txtC (readQ s.data.toList)).toArray⟩ : ByteArray) = s)
theorem bs_txt {l : List UInt8} {s : ByteArray} (h : (⟨l.toArray⟩ : ByteArray) = s) : s.data.toList = l := by
 subst h
 exact List.toList_toArray
theorem parse_agree (s : ByteArray) : parseQB s = parseB s /\ (parseB s = true -> readQ s.data.toList = readV s) := by
 have h1 : parseB s = true -> readQ s.data.toList = readV s := fun h => by
  unfold parseB at h
  simp only [Bool.and_eq_true, decide_eq_true_eq] at h
  have hs := rts_of h.1 (readK_ok s (nLines s)).rng
  have e := bs_txt h.2
  have hq := readQ_txt hs
  have hv := read_txt hs.ok
  rw [<- e] at hq
  rw [hq, <- hv]
  unfold bA
  rw [h.2]
 have h2 : parseQB s = true -> readV s = readQ s.data.toList := fun h => by
  unfold parseQB at h
  simp only [Bool.and_eq_true, decide_eq_true_eq] at h
  have hs := rts_of h.1 (readQ_ok _).1.rng
  have e := bs_txt h.2
  have hq := readQ_txt hs
  have hv := read_txt hs.ok
  unfold bA at hv
  rw [h.2] at hv
  rw [<- e] at hq
  rw [hv, <- hq]
 refine ⟨?_, h1⟩
 rw [Bool.eq_iff_iff]
 constructor
 . intro h
   have e := h2 h
   unfold parseQB at h
   unfold parseB
   rw [e]
   exact h
 . intro h
   have e := h1 h
   unfold parseB at h
   unfold parseQB
   rw [e]
   exact h
end Go.Proofs.YtkncilgmlkeifaaGreatDoor
