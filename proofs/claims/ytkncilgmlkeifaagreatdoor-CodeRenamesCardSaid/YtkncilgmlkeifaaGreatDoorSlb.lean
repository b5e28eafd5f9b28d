import Derived.Test.YtkncilgmlkeifaaGreatDoorMkx
import Derived.Test.YtkncilgmlkeifaaGreatDoorExw
/-
  Slotted codes: what stands in them; a block gets other instructions.
-/
set_option linter.unusedVariables false
set_option linter.unusedSimpArgs false
namespace Go.Proofs.YtkncilgmlkeifaaGreatDoor
open Go.ChangeShapes Go.WideShapes Go.ChangeAt Go.RowKit Go.Shelf

theorem sumL_most {IL : Nat → Nat} {m : Nat} (h : ∀ j, IL j ≤ m) : ∀ n, sumL IL n ≤ n * m
  | 0 => by simp [sumL]
  | n + 1 => by
    have h1 := sumL_most h n
    have h2 := h n
    unfold sumL
    rw [Nat.add_mul]
    omega
section
variable {g s r sl p : Int} {ls : List LoV} {bs : List BlV} {n : Nat → Int}
/-- All but the blocks is right: the checker looks at the blocks. -/
theorem chk_blocks (hn : n 0 = g ∧ n 1 = s ∧ n 2 = r ∧ n 3 = sl ∧ n 4 = p) (hs : sizB g s 0 0 0 = true) (r0 : 0 ≤ r) (r1 : r ≤ 256) (s0 : 0 ≤ sl) (s1 : sl ≤ 256) (p0 : 0 ≤ p) (p1 : p ≤ 8) (hb : 1 ≤ bs.length ∧ bs.length ≤ 60) (hl : ls.length ≤ 400) (h1 : ∀ l, l ∈ ls → LOk r bs.length l) (hil : ∀ e, e ∈ bs → e.1.length ≤ 30) :
    chkC ⟨arM, ls, bs, n⟩ = if ((List.range bs.length).all fun j => blockB p sl r 5 bs.length spA ((⟨arM, ls, bs, n⟩ : CdV).il j) ((⟨arM, ls, bs, n⟩ : CdV).is j) ((⟨arM, ls, bs, n⟩ : CdV).te j)) = true then 0 else 50 := by
  obtain ⟨e0, e1, e2, e3, e4⟩ := hn
  have hil' : ∀ j, (⟨arM, ls, bs, n⟩ : CdV).il j ≤ 30 := fun j => by
    unfold CdV.il
    by_cases hj : j < bs.length
    · rw [getD_of _ _ _ hj]
      exact hil _ (List.getElem_mem hj)
    · rw [List.getD_eq_getElem?_getD, List.getElem?_eq_none (by simpa using hj)]
      exact Nat.zero_le _
  have hsum := sumL_most hil' bs.length
  have hlim : limB r sl p 5 ls.length bs.length (⟨arM, ls, bs, n⟩ : CdV).il (⟨arM, ls, bs, n⟩ : CdV).nm = true := by
    unfold limB
    simp only [Bool.and_eq_true, decide_eq_true_eq]
    exact ⟨by decide, hl, by omega, r1, s1, by omega, by omega, ar_nm⟩
  have hform : formB g s r sl p 5 ls.length bs.length (⟨arM, ls, bs, n⟩ : CdV).nm (⟨arM, ls, bs, n⟩ : CdV).sp (⟨arM, ls, bs, n⟩ : CdV).ty (⟨arM, ls, bs, n⟩ : CdV).ln (⟨arM, ls, bs, n⟩ : CdV).hd (⟨arM, ls, bs, n⟩ : CdV).rg (⟨arM, ls, bs, n⟩ : CdV).bd (⟨arM, ls, bs, n⟩ : CdV).il (⟨arM, ls, bs, n⟩ : CdV).is (⟨arM, ls, bs, n⟩ : CdV).te = ((List.range bs.length).all fun j => blockB p sl r 5 bs.length spA ((⟨arM, ls, bs, n⟩ : CdV).il j) ((⟨arM, ls, bs, n⟩ : CdV).is j) ((⟨arM, ls, bs, n⟩ : CdV).te j)) := by
    have hlo : ((List.range ls.length).all fun j => loopB r bs.length ((⟨arM, ls, bs, n⟩ : CdV).hd j) ((⟨arM, ls, bs, n⟩ : CdV).rg j) ((⟨arM, ls, bs, n⟩ : CdV).bd j)) = true := all_rng fun j hj => by
      have h := h1 _ (List.getElem_mem hj)
      unfold LOk at h
      unfold CdV.hd CdV.rg CdV.bd loopB wthB
      rw [getD_of _ _ _ hj]
      simp only [Bool.and_eq_true, decide_eq_true_eq]
      omega
    have har : ((List.range 5).all fun j => arrB ((⟨arM, ls, bs, n⟩ : CdV).nm j) ((⟨arM, ls, bs, n⟩ : CdV).sp j) ((⟨arM, ls, bs, n⟩ : CdV).ty j) ((⟨arM, ls, bs, n⟩ : CdV).ln j)) = true := ar_ok
    unfold formB
    rw [sizB_of hs r0 s0 p0, har, hlo, decide_eq_true (show 0 < bs.length by omega), show (⟨arM, ls, bs, n⟩ : CdV).sp = spA from sp_arM]
    rfl
  unfold chkC checkE
  simp only [e0, e1, e2, e3, e4]
  rw [show arM.length = 5 from rfl, hlim, hform]
  rfl
end
/-- An instruction that puts a register into a slot; one that gets it back. -/
def putI (b i : Nat) : InstV := ⟨12, 0, ((b % 2 : Nat) : Int), ⟨0, 0, 0⟩, ⟨2, ((i % 6 : Nat) : Int), 0⟩, ⟨0, 0, 0⟩, ⟨0, 0, 0⟩⟩
def getI (b i : Nat) : InstV := ⟨11, 0, ((b % 2 : Nat) : Int), ⟨2, (((i + 1) % 6 : Nat) : Int), 0⟩, ⟨0, 0, 0⟩, ⟨0, 0, 0⟩, ⟨0, 0, 0⟩⟩
/-- The first k instructions of a block, slotted. -/
def slI (b : Nat) (is : List InstV) : Nat → List InstV
  | 0 => []
  | k + 1 => slI b is k ++ [is.getD k noI] ++ if k % 2 = 0 then [putI b k, getI b k] else []
def slB (b : Nat) (e : BlV) : BlV := (slI b e.1 e.1.length, e.2)
/-- The slotted code. -/
def slC (c : CdV) : CdV := ⟨c.q, c.l, c.b.mapIdx slB, fun j => if j = 3 then 2 else c.n j⟩
theorem slI_len (b : Nat) (is : List InstV) : ∀ k, (slI b is k).length ≤ 3 * k
  | 0 => Nat.le_refl _
  | k + 1 => by
    have := slI_len b is k
    unfold slI
    split <;> simp <;> omega
theorem slot_idx (b : Nat) : idxB 3 2 5 spA 4 ((b % 2 : Nat) : Int) = true := by
  unfold idxB wthB
  have : b % 2 < 2 := Nat.mod_lt _ (by decide)
  simp
  omega
theorem put_ok {r : Int} (hr : 6 ≤ r) (n3 b i : Nat) : instB 3 2 r 5 n3 spA (putI b i) = true := by
  have hi : i % 6 < 6 := Nat.mod_lt _ (by decide)
  have h1 := valB_reg hr (x := ((i % 6 : Nat) : Int)) (by omega)
  have h2 := slot_idx b
  unfold putI
  simp only [instB, instOK, instF, hasV, othV, zeroP, FormV.want, InstV.parts, noOpd]
  simp
  exact ⟨h2, h1⟩
theorem get_ok {r : Int} (hr : 6 ≤ r) (n3 b i : Nat) : instB 3 2 r 5 n3 spA (getI b i) = true := by
  have hi : (i + 1) % 6 < 6 := Nat.mod_lt _ (by decide)
  have h1 := regB_of hr (x := (((i + 1) % 6 : Nat) : Int)) (by omega)
  have h2 := slot_idx b
  unfold getI
  simp only [instB, instOK, instF, hasV, othV, zeroP, FormV.want, InstV.parts, noOpd]
  simp
  exact ⟨h2, h1⟩
theorem slI_mem {b : Nat} {is : List InstV} : ∀ {k : Nat}, k ≤ is.length → ∀ i, i ∈ slI b is k → i ∈ is ∨ ∃ j, i = putI b j ∨ i = getI b j
  | 0, _, i, hi => by cases hi
  | k + 1, hk, i, hi => by
    unfold slI at hi
    rcases List.mem_append.1 hi with hi | hi
    · rcases List.mem_append.1 hi with hi | hi
      · exact slI_mem (by omega) i hi
      · rw [List.mem_singleton, getD_of _ _ _ (show k < is.length by omega)] at hi
        exact .inl (hi ▸ List.getElem_mem _)
    · split at hi
      · simp only [List.mem_cons, List.not_mem_nil, or_false] at hi
        exact .inr ⟨k, hi⟩
      · cases hi
/-- The checker accepts the slotted code. -/
theorem sl_chk {c : CdV} (h : MdOk c) : chkC (slC c) = 0 := by
  obtain ⟨g, s, hs, hg, hs8, hn⟩ := h.nums
  have l3 := h.l3
  have b18 := h.b18
  have hlen : (c.b.mapIdx slB).length = c.b.length := List.length_mapIdx
  have hmem : ∀ e, e ∈ c.b.mapIdx slB → ∃ b e', e' ∈ c.b ∧ e = slB b e' := fun e he => by
    obtain ⟨i, hi, rfl⟩ := List.mem_mapIdx.1 he
    exact ⟨i, _, List.getElem_mem hi, rfl⟩
  unfold slC
  rw [h.q, chk_blocks (g := g) (s := s) (r := 6 + 2 * (c.l.length : Int)) (sl := 2) (p := 3) ⟨by simp [hn, nmM], by simp [hn, nmM], by simp [hn, nmM], by simp, by simp [hn, nmM]⟩ hs (by omega) (by omega) (by decide) (by decide) (by decide) (by decide) (by omega) (by omega) (fun l hl => by rw [hlen]; exact h.ls l hl) (fun e he => by
    obtain ⟨b, e', he', rfl⟩ := hmem e he
    have h1 := slI_len b e'.1 e'.1.length
    have h2 := (h.bs e' he').len
    show (slI b e'.1 e'.1.length).length ≤ 30
    omega)]
  rw [if_pos]
  refine all_rng fun j hj => ?_
  unfold CdV.il CdV.is CdV.te blockB
  rw [getD_of _ _ _ hj]
  obtain ⟨b, e', he', heq⟩ := hmem _ (List.getElem_mem hj)
  have hb := h.bs e' he'
  simp only [Bool.and_eq_true]
  rw [heq, hlen]
  refine ⟨all_rng fun k hk => ?_, hb.fin.ok 2⟩
  rw [getD_of _ _ _ hk]
  rcases slI_mem (Nat.le_refl _) _ (List.getElem_mem hk) with hm | ⟨i, hm | hm⟩
  · exact (hb.ins _ hm).ok 2 _
  · rw [hm]
    exact put_ok (by omega) _ _ _
  · rw [hm]
    exact get_ok (by omega) _ _ _
theorem flatB_setI (es1 es2 : List BlE) (e : BlE) (v : Value) (is : List InstV) : (flatB (es1 ++ e :: es2)).set (es1.length * 14) v = flatB (es1 ++ (v, is, e.2.2) :: es2) := by
  rw [flatB_app, flatB_app, List.set_append_right _ _ (by rw [flatB_len]; exact Nat.le_refl _), flatB_len, Nat.sub_self]
  rfl
theorem LX.setI {w W : World} {b n0 gB N cB : Nat} {g s r sl p : Int} {v5 v6 v : Value} {qs : List ArV} {ls : List LoV} {es1 es2 : List BlE} {e : BlE} {is : List InstV} (h : LX w b n0 g s r sl p v5 v6 (.slice (some ⟨gB, 0, none⟩) N cB) qs ls (es1 ++ e :: es2) W) (hN : (es1 ++ e :: es2).length = N) (hr : W.ownsRow n0 61 15 v is.length (flatI is)) :
    LX w b n0 g s r sl p v5 v6 (.slice (some ⟨gB, 0, none⟩) N cB) qs ls (es1 ++ (v, is, e.2.2) :: es2) (W.setCell ⟨gB, es1.length * 14, none⟩ v) := by
  have hb := h.rows.blocks
  rw [hN] at hb
  have hst := hb.stored (es1.length * 14) v
  have ks := grow_kept hb hst.2
  have hN2 : (es1 ++ (v, is, e.2.2) :: es2).length = N := by
    rw [← hN]
    simp
  refine ⟨(ks _ _ _ _ h.box (by decide)).trans h.box, ⟨row_kept h.rows.arr ks (by decide), row_kept h.rows.loops ks (by decide), ?_, fun x hx => ?_⟩, grow_below h.below hb hst.2 h.hn.1 (Nat.le_refl _), h.hn.1, h.hn.2.1, by simpa [World.setCell] using h.hn.2.2⟩
  · rw [hN2, ← flatB_setI es1 es2 e v is]
    exact hst.1
  · rcases List.mem_append.1 hx with hx | hx
    · exact row_kept (h.rows.insts x (List.mem_append.2 (.inl hx))) ks (by decide)
    · rcases List.mem_cons.1 hx with rfl | hx
      · exact row_kept hr ks (by decide)
      · exact row_kept (h.rows.insts x (List.mem_append.2 (.inr (List.mem_cons_of_mem _ hx)))) ks (by decide)
end Go.Proofs.YtkncilgmlkeifaaGreatDoor
