import Derived.Test.YtkncilgmlkeifaaGreatDoorExd
import Derived.Test.YtkncilgmlkeifaaGreatDoorExs
/-
  CodeLimits: the codes that the law makes, and what the checker says of them: plain words.
-/
set_option linter.unusedVariables false
set_option linter.unusedSimpArgs false
namespace Go.Proofs.YtkncilgmlkeifaaGreatDoor
open Go.ChangeShapes Go.WideShapes Go.ChangeAt Go.RowKit Go.Shelf

def lwN (g r s p : Int) (j : Nat) : Int := if j = 0 then g else if j = 1 then 2 else if j = 2 then r else if j = 3 then s else if j = 4 then p else 0
def jmpT : TermV := ⟨1, 0, noOpd, noOpd, noOpd, 0, 0⟩
def fen : InstV := ⟨10, 1, 0, noOpd, noOpd, noOpd, noOpd⟩
def lwI (k : Nat) : List InstV := ex0 :: ex1 0 :: List.replicate k fen
def alph : ByteArray := ⟨#[97, 98, 99, 100, 101, 102, 103, 104, 105, 106, 107, 108, 109, 110, 111, 112]⟩
/-- A code with k blocks, or instructions, more; with these numbers; with these arrays. -/
def lw0 (k : Nat) (g : Int) : CdV := ⟨exQ, [], ([ex0, ex1 0], exE) :: List.replicate k ([], jmpT), lwN g 2 0 0⟩
def lw1 (k : Nat) (g : Int) : CdV := ⟨exQ, [], [(lwI k, exE)], lwN g 2 0 0⟩
def lwX (g r s p : Int) (qs : List ArV) : CdV := ⟨qs, [], [([ex0, ex1 0], exE)], lwN g r s p⟩
def lw (kd : Nat) (m g : Int) : CdV :=
  if kd = 0 then lw0 (399 + m).toNat g else if kd = 1 then lw1 (1998 + m).toNat g else if kd = 2 then lwX g (256 + m) 0 0 exQ else if kd = 3 then lwX g 2 (256 + m) 0 exQ else if kd = 4 then lwX g 2 0 (8 + m) exQ
  else if kd = 5 then lwX g 2 0 0 (List.replicate (8 + m).toNat (⟨#[97]⟩, 1, 1, 8)) else lwX g 2 0 0 [(alph.extract 0 (12 + m).toNat, 1, 1, 8)]
def wantE (m : Int) (wr : Bool) : Int := if m ≤ 0 then (if wr = true then 50 else 0) else 2
def gW (wr : Bool) : Int := if wr = true then 3 else 4
def restC (c : CdV) : Bool := ((List.range c.q.length).all fun j => arrB (c.nm j) (c.sp j) (c.ty j) (c.ln j)) && (((List.range c.l.length).all fun j => loopB (c.n 2) c.b.length (c.hd j) (c.rg j) (c.bd j)) && (decide (0 < c.b.length) && (List.range c.b.length).all fun j => blockB (c.n 4) (c.n 3) (c.n 2) c.q.length c.b.length c.sp (c.il j) (c.is j) (c.te j)))
theorem chk_split (c : CdV) : chkC c = if limB (c.n 2) (c.n 3) (c.n 4) c.q.length c.l.length c.b.length c.il c.nm = true then (if (sizB (c.n 0) (c.n 1) (c.n 2) (c.n 3) (c.n 4) && restC c) = true then 0 else 50) else 2 := rfl
theorem all_range {n : Nat} {f : Nat → Bool} (h : ∀ j, j < n → f j = true) : (List.range n).all f = true := List.all_eq_true.2 fun j hj => h j (by simpa using hj)
theorem m8 {m : Int} (h : -4 ≤ m ∧ m ≤ 3) : m = -4 ∨ m = -3 ∨ m = -2 ∨ m = -1 ∨ m = 0 ∨ m = 1 ∨ m = 2 ∨ m = 3 := by omega
theorem chk2 (m : Int) (h : -4 ≤ m ∧ m ≤ 3) (wr : Bool) : chkC (lwX (gW wr) (256 + m) 0 0 exQ) = wantE m wr := by
  rcases m8 h with rfl | rfl | rfl | rfl | rfl | rfl | rfl | rfl <;> cases wr <;> decide +kernel
theorem chk3 (m : Int) (h : -4 ≤ m ∧ m ≤ 3) (wr : Bool) : chkC (lwX (gW wr) 2 (256 + m) 0 exQ) = wantE m wr := by
  rcases m8 h with rfl | rfl | rfl | rfl | rfl | rfl | rfl | rfl <;> cases wr <;> decide +kernel
theorem chk4 (m : Int) (h : -4 ≤ m ∧ m ≤ 3) (wr : Bool) : chkC (lwX (gW wr) 2 0 (8 + m) exQ) = wantE m wr := by
  rcases m8 h with rfl | rfl | rfl | rfl | rfl | rfl | rfl | rfl <;> cases wr <;> decide +kernel
theorem chk5 (m : Int) (h : -4 ≤ m ∧ m ≤ 3) (wr : Bool) : chkC (lwX (gW wr) 2 0 0 (List.replicate (8 + m).toNat (⟨#[97]⟩, 1, 1, 8))) = wantE m wr := by
  rcases m8 h with rfl | rfl | rfl | rfl | rfl | rfl | rfl | rfl <;> cases wr <;> decide +kernel
theorem chk6 (m : Int) (h : -4 ≤ m ∧ m ≤ 3) (wr : Bool) : chkC (lwX (gW wr) 2 0 0 [(alph.extract 0 (12 + m).toNat, 1, 1, 8)]) = wantE m wr := by
  rcases m8 h with rfl | rfl | rfl | rfl | rfl | rfl | rfl | rfl <;> cases wr <;> decide +kernel
theorem siz_g (wr : Bool) : sizB (gW wr) 2 2 0 0 = !wr := by cases wr <;> decide +kernel
theorem nm_ok : ∀ n3, limB 2 0 0 1 0 n3 (fun _ => 0) (fun j => (exQ.getD j noA).1) = decide (n3 ≤ 400) := fun n3 => by
  have e : ∀ k, sumL (fun _ => 0) k = 0 := fun k => by
    induction k with
    | zero => rfl
    | succ k ih => rw [sumL, ih]
  unfold limB
  rw [e]
  have e2 : ((List.range 1).all fun j => decide ((((exQ.getD j noA).1).size : Int) ≤ 12)) = true := by decide +kernel
  rw [e2]
  simp
theorem lw0_at (k : Nat) (g : Int) (j : Nat) : (lw0 k g).il (j + 1) = 0 := by
  show ((List.replicate k (([] : List InstV), jmpT)).getD j noB).1.length = 0
  rw [List.getD_eq_getElem?_getD, List.getElem?_replicate]
  split <;> rfl
theorem lw0_te (k : Nat) (g : Int) (j : Nat) (hj : j < k) : (lw0 k g).te (j + 1) = jmpT := by
  show ((List.replicate k (([] : List InstV), jmpT)).getD j noB).2 = jmpT
  rw [List.getD_eq_getElem?_getD, List.getElem?_replicate, if_pos hj]
  rfl
theorem blk0_ok : ∀ x, x ∈ List.range' 396 8 → blockB 0 0 2 1 x (fun j => (exQ.getD j noA).2.1) 2 (fun i => ([ex0, ex1 0] : List InstV).getD i noI) exE = true := by decide +kernel
theorem blkj_ok : ∀ x, x ∈ List.range' 396 8 → endB 0 0 2 1 x (fun j => (exQ.getD j noA).2.1) jmpT = true := by decide +kernel
theorem chk0 (k : Nat) (hk : 395 ≤ k ∧ k ≤ 402) (wr : Bool) : chkC (lw0 k (gW wr)) = wantE ((k : Int) - 399) wr := by
  have hl : (lw0 k (gW wr)).b.length = k + 1 := by simp [lw0]
  have hsum : ∀ j, sumL (lw0 k (gW wr)).il (j + 1) = 2 := fun j => by
    induction j with
    | zero => rfl
    | succ j ih => rw [sumL, ih, lw0_at]
  have hlim : limB ((lw0 k (gW wr)).n 2) ((lw0 k (gW wr)).n 3) ((lw0 k (gW wr)).n 4) (lw0 k (gW wr)).q.length (lw0 k (gW wr)).l.length (lw0 k (gW wr)).b.length (lw0 k (gW wr)).il (lw0 k (gW wr)).nm = decide (k + 1 ≤ 400) := by
    rw [hl]
    have e1 := nm_ok (k + 1)
    unfold limB at e1 ⊢
    rw [hsum]
    have e : ∀ j, sumL (fun _ => 0) j = 0 := fun j => by
      induction j with
      | zero => rfl
      | succ j ih => rw [sumL, ih]
    rw [e] at e1
    exact e1
  have hrest : restC (lw0 k (gW wr)) = true := by
    have hm : k + 1 ∈ List.range' 396 8 := by simp; omega
    have e1 : ((List.range 1).all fun j => arrB ((exQ.getD j noA).1) ((exQ.getD j noA).2.1) ((exQ.getD j noA).2.2.1) ((exQ.getD j noA).2.2.2)) = true := by decide +kernel
    have e2 : ((List.range (k + 1)).all fun j => blockB 0 0 2 1 (k + 1) (fun j => (exQ.getD j noA).2.1) ((lw0 k (gW wr)).il j) ((lw0 k (gW wr)).is j) ((lw0 k (gW wr)).te j)) = true := all_range fun j hj => by
      cases j with
      | zero => exact blk0_ok _ hm
      | succ j =>
        rw [lw0_at, lw0_te _ _ _ (by omega)]
        unfold blockB
        rw [blkj_ok _ hm]
        rfl
    unfold restC
    rw [hl]
    show (((List.range 1).all fun j => arrB ((exQ.getD j noA).1) ((exQ.getD j noA).2.1) ((exQ.getD j noA).2.2.1) ((exQ.getD j noA).2.2.2)) && (true && (decide (0 < k + 1) && ((List.range (k + 1)).all fun j => blockB 0 0 2 1 (k + 1) (fun j => (exQ.getD j noA).2.1) ((lw0 k (gW wr)).il j) ((lw0 k (gW wr)).is j) ((lw0 k (gW wr)).te j))))) = true
    rw [e1, e2]
    simp
  rw [chk_split, hlim, hrest, show sizB ((lw0 k (gW wr)).n 0) ((lw0 k (gW wr)).n 1) ((lw0 k (gW wr)).n 2) ((lw0 k (gW wr)).n 3) ((lw0 k (gW wr)).n 4) = sizB (gW wr) 2 2 0 0 from rfl, siz_g]
  unfold wantE
  by_cases h : k + 1 ≤ 400
  · have hm : (k : Int) - 399 ≤ 0 := by omega
    rw [decide_eq_true h, if_pos rfl, if_pos hm]
    cases wr <;> rfl
  · have hm : ¬ ((k : Int) - 399 ≤ 0) := by omega
    rw [decide_eq_false h, if_neg (by simp), if_neg hm]
theorem lwI_len (k : Nat) : (lwI k).length = k + 2 := by simp [lwI]
theorem lwI_at (k j : Nat) (hj : j < k) : (lwI k).getD (j + 2) noI = fen := by
  show (List.replicate k fen).getD j noI = fen
  rw [List.getD_eq_getElem?_getD, List.getElem?_replicate, if_pos hj]
  rfl
theorem chk1 (k : Nat) (wr : Bool) : chkC (lw1 k (gW wr)) = wantE ((k : Int) - 1998) wr := by
  have hil : (lw1 k (gW wr)).il 0 = k + 2 := lwI_len k
  have hlim : limB ((lw1 k (gW wr)).n 2) ((lw1 k (gW wr)).n 3) ((lw1 k (gW wr)).n 4) (lw1 k (gW wr)).q.length (lw1 k (gW wr)).l.length (lw1 k (gW wr)).b.length (lw1 k (gW wr)).il (lw1 k (gW wr)).nm = decide (k + 2 ≤ 2000) := by
    have e2 : ((List.range 1).all fun j => decide ((((exQ.getD j noA).1).size : Int) ≤ 12)) = true := by decide +kernel
    show (decide (1 ≤ 8) && (decide (0 ≤ 400) && (decide (1 ≤ 400) && (decide ((2 : Int) ≤ 256) && (decide ((0 : Int) ≤ 256) && (decide ((0 : Int) ≤ 8) && (decide (0 + (lw1 k (gW wr)).il 0 ≤ 2000) && (List.range 1).all fun j => decide ((((exQ.getD j noA).1).size : Int) ≤ 12)))))))) = _
    rw [e2, hil]
    simp
  have hrest : restC (lw1 k (gW wr)) = true := by
    have e1 : ((List.range 1).all fun j => arrB ((exQ.getD j noA).1) ((exQ.getD j noA).2.1) ((exQ.getD j noA).2.2.1) ((exQ.getD j noA).2.2.2)) = true := by decide +kernel
    have f0 : instB 0 0 2 1 1 (fun j => (exQ.getD j noA).2.1) ex0 = true := by decide +kernel
    have f1 : instB 0 0 2 1 1 (fun j => (exQ.getD j noA).2.1) (ex1 0) = true := by decide +kernel
    have f2 : instB 0 0 2 1 1 (fun j => (exQ.getD j noA).2.1) fen = true := by decide +kernel
    have f3 : endB 0 0 2 1 1 (fun j => (exQ.getD j noA).2.1) exE = true := by decide +kernel
    have e2 : ((List.range 1).all fun j => blockB 0 0 2 1 1 (fun j => (exQ.getD j noA).2.1) ((lw1 k (gW wr)).il j) ((lw1 k (gW wr)).is j) ((lw1 k (gW wr)).te j)) = true := all_range fun j hj => by
      obtain rfl : j = 0 := by omega
      rw [hil]
      unfold blockB
      rw [show (lw1 k (gW wr)).te 0 = exE from rfl, f3, Bool.and_true]
      refine all_range fun i hi => ?_
      show instB 0 0 2 1 1 (fun j => (exQ.getD j noA).2.1) ((lwI k).getD i noI) = true
      match i, hi with
      | 0, _ => exact f0
      | 1, _ => exact f1
      | i + 2, hi => rw [lwI_at k i (by omega)]; exact f2
    show (((List.range 1).all fun j => arrB ((exQ.getD j noA).1) ((exQ.getD j noA).2.1) ((exQ.getD j noA).2.2.1) ((exQ.getD j noA).2.2.2)) && (true && (true && ((List.range 1).all fun j => blockB 0 0 2 1 1 (fun j => (exQ.getD j noA).2.1) ((lw1 k (gW wr)).il j) ((lw1 k (gW wr)).is j) ((lw1 k (gW wr)).te j))))) = true
    rw [e1, e2]
    rfl
  rw [chk_split, hlim, hrest, show sizB ((lw1 k (gW wr)).n 0) ((lw1 k (gW wr)).n 1) ((lw1 k (gW wr)).n 2) ((lw1 k (gW wr)).n 3) ((lw1 k (gW wr)).n 4) = sizB (gW wr) 2 2 0 0 from rfl, siz_g]
  unfold wantE
  by_cases h : k + 2 ≤ 2000
  · have hm : (k : Int) - 1998 ≤ 0 := by omega
    rw [decide_eq_true h, if_pos rfl, if_pos hm]
    cases wr <;> rfl
  · have hm : ¬ ((k : Int) - 1998 ≤ 0) := by omega
    rw [decide_eq_false h, if_neg (by simp), if_neg hm]
theorem lw_chk (kd : Nat) (m : Int) (h : -4 ≤ m ∧ m ≤ 3) (wr : Bool) : chkC (lw kd m (gW wr)) = wantE m wr := by
  unfold lw
  split
  · rw [chk0 _ (by omega)]
    congr 1
    omega
  split
  · rw [chk1]
    congr 1
    omega
  split
  · exact chk2 m h wr
  split
  · exact chk3 m h wr
  split
  · exact chk4 m h wr
  split
  · exact chk5 m h wr
  · exact chk6 m h wr
end Go.Proofs.YtkncilgmlkeifaaGreatDoor
/-
  CodeLimits: the code in its box and its rows, and how they grow.
-/
set_option linter.unusedVariables false
set_option linter.unusedSimpArgs false
namespace Go.Proofs.YtkncilgmlkeifaaGreatDoor
open Go.ChangeShapes Go.WideShapes Go.ChangeAt Go.RowKit Go.Shelf

theorem i64_of {n : Int} (h : -100000 ≤ n ∧ n ≤ 100000) : I64 n := by unfold I64; omega
theorem part_rng {q : PartV} (hs : I64 q.sub) (hn : I64 q.n) (hd : q.d.Rng) (ha : q.a.Rng) (hb : q.b.Rng) (hc : q.c.Rng) (h0 : I64 q.t0) (h1 : I64 q.t1) : q.Rng := ⟨hs, hn, hd, ha, hb, hc, h0, h1⟩
theorem o_r0 : (⟨2, 0, 0⟩ : OpdV).Rng := ⟨zero_rng, by unfold I32b; decide⟩
theorem o_c7 : (⟨1, 0, 7⟩ : OpdV).Rng := ⟨zero_rng, by unfold I32b; decide⟩
theorem ex0_rng : ex0.parts.Rng := ⟨i64_of (by decide), zero_rng, o_r0, noOpd_rng, noOpd_rng, noOpd_rng, zero_rng, zero_rng⟩
theorem ex1_rng : (ex1 0).parts.Rng := ⟨zero_rng, zero_rng, noOpd_rng, o_r0, o_c7, noOpd_rng, zero_rng, zero_rng⟩
theorem exE_rng : exE.parts.Rng := ⟨zero_rng, zero_rng, noOpd_rng, noOpd_rng, noOpd_rng, noOpd_rng, zero_rng, zero_rng⟩
theorem jmp_rng : jmpT.parts.Rng := ⟨zero_rng, zero_rng, noOpd_rng, noOpd_rng, noOpd_rng, noOpd_rng, zero_rng, zero_rng⟩
theorem fen_rng : fen.parts.Rng := ⟨i64_of (by decide), zero_rng, noOpd_rng, noOpd_rng, noOpd_rng, noOpd_rng, zero_rng, zero_rng⟩
theorem lwN_rng {g r s p : Int} (hg : -1000 ≤ g ∧ g ≤ 1000) (hr : -1000 ≤ r ∧ r ≤ 1000) (hs : -1000 ≤ s ∧ s ≤ 1000) (hp : -1000 ≤ p ∧ p ≤ 1000) (j : Nat) : I64 (lwN g r s p j) := by
  unfold lwN
  apply i64_of
  repeat' split
  all_goals omega
/-- What holds of all codes of the law. -/
structure LwOk (c : CdV) : Prop where
  fits : c.Fits
  ok : CdOk c
  names : ∀ a, a ∈ c.q → a.1.size ≤ 9223372036854775807
  insts : ∀ e, e ∈ c.b → e.1.length ≤ 65536
theorem exB_ok : (∀ x, x ∈ ([ex0, ex1 0] : List InstV) → x.parts.Rng) := fun x hx => by
  rcases List.mem_cons.1 hx with rfl | hx
  · exact ex0_rng
  · rw [List.mem_singleton] at hx
    subst hx
    exact ex1_rng
theorem one8 {a : ArV} (h : a.2 = (1, 1, 8)) : I64 a.2.1 ∧ I64 a.2.2.1 ∧ I64 a.2.2.2 := by
  rw [h]
  exact ⟨i64_of (by decide), i64_of (by decide), i64_of (by decide)⟩
theorem lwX_ok {g r s p : Int} (hg : -1000 ≤ g ∧ g ≤ 1000) (hr : -1000 ≤ r ∧ r ≤ 1000) (hs : -1000 ≤ s ∧ s ≤ 1000) (hp : -1000 ≤ p ∧ p ≤ 1000) {qs : List ArV} (hq : qs.length ≤ 100) (h8 : ∀ a, a ∈ qs → a.2 = (1, 1, 8) ∧ a.1.size ≤ 100) : LwOk (lwX g r s p qs) := by
  refine ⟨⟨by show qs.length ≤ _; omega, Nat.zero_le _, by show 1 ≤ 65536; decide⟩, ⟨fun j => lwN_rng hg hr hs hp j, fun a ha => one8 (h8 a ha).1, fun a ha => (by cases ha), fun e he => ?_, fun e he => ?_⟩, fun a ha => by have := (h8 a ha).2; omega, fun e he => ?_⟩
  all_goals
    rw [show (lwX g r s p qs).b = [([ex0, ex1 0], exE)] from rfl, List.mem_singleton] at he
    subst he
  · exact exB_ok
  · exact exE_rng
  · show 2 ≤ 65536
    decide
theorem lw0_ok {g : Int} (hg : -1000 ≤ g ∧ g ≤ 1000) {k : Nat} (hk : k ≤ 1000) : LwOk (lw0 k g) := by
  have hm : ∀ e, e ∈ (lw0 k g).b → e = ([ex0, ex1 0], exE) ∨ e = ([], jmpT) := fun e he => by
    rcases List.mem_cons.1 he with rfl | he
    · exact .inl rfl
    · exact .inr (List.mem_replicate.1 he).2
  refine ⟨⟨by show 1 ≤ 65536; decide, Nat.zero_le _, by show (List.replicate k (([] : List InstV), jmpT)).length + 1 ≤ 65536; rw [List.length_replicate]; omega⟩, ⟨fun j => lwN_rng hg (by decide) (by decide) (by decide) j, fun a ha => ?_, fun a ha => (by cases ha), fun e he => ?_, fun e he => ?_⟩, fun a ha => ?_, fun e he => ?_⟩
  · rw [show (lw0 k g).q = exQ from rfl, List.mem_singleton] at ha
    exact one8 (by rw [ha])
  · rcases hm e he with rfl | rfl
    · exact exB_ok
    · intro x hx
      cases hx
  · rcases hm e he with rfl | rfl
    · exact exE_rng
    · exact jmp_rng
  · rw [show (lw0 k g).q = exQ from rfl, List.mem_singleton] at ha
    rw [ha]
    decide
  · rcases hm e he with rfl | rfl
    · show 2 ≤ 65536
      decide
    · exact Nat.zero_le _
theorem lw1_ok {g : Int} (hg : -1000 ≤ g ∧ g ≤ 1000) {k : Nat} (hk : k ≤ 3000) : LwOk (lw1 k g) := by
  refine ⟨⟨by show 1 ≤ 65536; decide, Nat.zero_le _, by show 1 ≤ 65536; decide⟩, ⟨fun j => lwN_rng hg (by decide) (by decide) (by decide) j, fun a ha => ?_, fun a ha => (by cases ha), fun e he => ?_, fun e he => ?_⟩, fun a ha => ?_, fun e he => ?_⟩
  · rw [show (lw1 k g).q = exQ from rfl, List.mem_singleton] at ha
    exact one8 (by rw [ha])
  · rw [show (lw1 k g).b = [(lwI k, exE)] from rfl, List.mem_singleton] at he
    subst he
    intro x hx
    rcases List.mem_cons.1 hx with rfl | hx
    · exact ex0_rng
    · rcases List.mem_cons.1 hx with rfl | hx
      · exact ex1_rng
      · rw [(List.mem_replicate.1 hx).2]
        exact fen_rng
  · rw [show (lw1 k g).b = [(lwI k, exE)] from rfl, List.mem_singleton] at he
    subst he
    exact exE_rng
  · rw [show (lw1 k g).q = exQ from rfl, List.mem_singleton] at ha
    rw [ha]
    decide
  · rw [show (lw1 k g).b = [(lwI k, exE)] from rfl, List.mem_singleton] at he
    subst he
    show (lwI k).length ≤ 65536
    rw [lwI_len]
    omega
theorem lw_ok (kd : Nat) (m : Int) (h : -4 ≤ m ∧ m ≤ 3) (wr : Bool) : LwOk (lw kd m (gW wr)) := by
  have hg : -1000 ≤ gW wr ∧ gW wr ≤ 1000 := by cases wr <;> decide
  have hq : ∀ a, a ∈ exQ → a.2 = (1, 1, 8) ∧ a.1.size ≤ 100 := fun a ha => by
    rw [List.mem_singleton] at ha
    subst ha
    exact ⟨rfl, by decide⟩
  unfold lw
  split
  · exact lw0_ok hg (by omega)
  split
  · exact lw1_ok hg (by omega)
  split
  · exact lwX_ok hg (by omega) (by omega) (by omega) (by decide) hq
  split
  · exact lwX_ok hg (by omega) (by omega) (by omega) (by decide) hq
  split
  · exact lwX_ok hg (by omega) (by omega) (by omega) (by decide) hq
  split
  · refine lwX_ok hg (by omega) (by omega) (by omega) (by rw [List.length_replicate]; omega) (fun a ha => ?_)
    rw [(List.mem_replicate.1 ha).2]
    exact ⟨rfl, by decide⟩
  · refine lwX_ok hg (by omega) (by omega) (by omega) (by simp) (fun a ha => ?_)
    rw [List.mem_singleton] at ha
    subst ha
    refine ⟨rfl, ?_⟩
    show (alph.extract 0 (12 + m).toNat).size ≤ 100
    rw [ByteArray.size_extract]
    have : alph.size = 16 := rfl
    omega
/-- Text, whatever it says. -/
theorem text_e (c : CdV) (a : CdA) (W : World) (h : CdK c a W) (ho : LwOk c) (hE : EnvP W) : Calls Tryz.prog 15 #[cdval c a] W fun e w' => (∃ s, e = .returned (.tuple #[.string s, .int .i64 (chkC c)])) ∧ Below W.heap.size W w' := by
  by_cases hz : chkC c = 0
  · refine (Text_cok c a W h.mem ho.fits ho.ok.rng hE.tab hz).mono ?_
    rintro e w' ⟨rfl, hb⟩
    exact ⟨⟨_, by rw [hz]⟩, hb⟩
  · refine (Text_cerr c a W h.mem ho.fits hz).mono ?_
    rintro e w' ⟨rfl, hb⟩
    exact ⟨⟨_, rfl⟩, hb⟩
/-- The code in its box, its rows from block n0 on. -/
structure LK (w : World) (b n0 : Nat) (g r s p : Int) (v5 v6 v7 : Value) (qs : List ArV) (ls : List LoV) (es : List BlE) (W : World) : Prop where
  box : W.heap[b]? = some (.cells #[.int .i64 g, .int .i64 2, .int .i64 r, .int .i64 s, .int .i64 p, v5, v6, v7] 36 (0, 0))
  rows : RC n0 v5 v6 v7 qs ls es W
  below : Below w.heap.size w W
  hn : w.heap.size ≤ n0 ∧ w.heap.size ≤ b ∧ n0 ≤ W.heap.size
section
variable {w W W' : World} {b n0 : Nat} {g r s p : Int} {v5 v6 v7 : Value} {qs : List ArV} {ls : List LoV} {es : List BlE}
theorem LK.k (h : LK w b n0 g r s p v5 v6 v7 qs ls es W) (o : Nat) : W.cell? ⟨b, o, none⟩ = (#[.int .i64 g, .int .i64 2, .int .i64 r, .int .i64 s, .int .i64 p, v5, v6, v7] : Array Value)[o]? := by simp [World.cell?, h.box]
theorem LK.fr (h : LK w b n0 g r s p v5 v6 v7 qs ls es W) (o : Nat) : W.frozen? ⟨b, o, none⟩ = false := by simp [World.frozen?, h.box]
theorem LK.c0 (h : LK w b n0 g r s p v5 v6 v7 qs ls es W) : W.cell? ⟨b, 0, none⟩ = some (.int .i64 g) := h.k 0
theorem LK.c1 (h : LK w b n0 g r s p v5 v6 v7 qs ls es W) : W.cell? ⟨b, 1, none⟩ = some (.int .i64 2) := h.k 1
theorem LK.c2 (h : LK w b n0 g r s p v5 v6 v7 qs ls es W) : W.cell? ⟨b, 2, none⟩ = some (.int .i64 r) := h.k 2
theorem LK.c3 (h : LK w b n0 g r s p v5 v6 v7 qs ls es W) : W.cell? ⟨b, 3, none⟩ = some (.int .i64 s) := h.k 3
theorem LK.c4 (h : LK w b n0 g r s p v5 v6 v7 qs ls es W) : W.cell? ⟨b, 4, none⟩ = some (.int .i64 p) := h.k 4
theorem LK.c5 (h : LK w b n0 g r s p v5 v6 v7 qs ls es W) : W.cell? ⟨b, 5, none⟩ = some v5 := h.k 5
theorem LK.c6 (h : LK w b n0 g r s p v5 v6 v7 qs ls es W) : W.cell? ⟨b, 6, none⟩ = some v6 := h.k 6
theorem LK.c7 (h : LK w b n0 g r s p v5 v6 v7 qs ls es W) : W.cell? ⟨b, 7, none⟩ = some v7 := h.k 7
theorem LK.on (h : LK w b n0 g r s p v5 v6 v7 qs ls es W) (hb : Below W.heap.size W W') : LK w b n0 g r s p v5 v6 v7 qs ls es W' :=
  ⟨(hb.block b (Array.getElem?_eq_some_iff.1 h.box).1).trans h.box, h.rows.k36 (K36.below hb), h.below.trans (hb.mono h.below.size), h.hn.1, h.hn.2.1, Nat.le_trans h.hn.2.2 hb.size⟩
theorem LK.alloc (h : LK w b n0 g r s p v5 v6 v7 qs ls es W) (o : Obj) : LK w b n0 g r s p v5 v6 v7 qs ls es (W.alloc o) := h.on ((Below.refl _ _).alloc (Nat.le_refl _) _)
theorem LK.drew (h : LK w b n0 g r s p v5 v6 v7 qs ls es W) : LK w b n0 g r s p v5 v6 v7 qs ls es W.drew := h.on ⟨rfl, rfl, rfl, Nat.le_refl _, fun _ _ => rfl⟩
theorem LK.set0 (h : LK w b n0 g r s p v5 v6 v7 qs ls es W) (x : Int) : LK w b n0 x r s p v5 v6 v7 qs ls es (W.setCell ⟨b, 0, none⟩ (.int .i64 x)) :=
  ⟨by simp [World.setCell, Array.getElem?_modify, h.box], h.rows.k36 (K36.set h.box _ _), h.below.setCell h.hn.2.1 _, h.hn.1, h.hn.2.1, by simpa [World.setCell] using h.hn.2.2⟩
theorem LK.set2 (h : LK w b n0 g r s p v5 v6 v7 qs ls es W) (x : Int) : LK w b n0 g x s p v5 v6 v7 qs ls es (W.setCell ⟨b, 2, none⟩ (.int .i64 x)) :=
  ⟨by simp [World.setCell, Array.getElem?_modify, h.box], h.rows.k36 (K36.set h.box _ _), h.below.setCell h.hn.2.1 _, h.hn.1, h.hn.2.1, by simpa [World.setCell] using h.hn.2.2⟩
theorem LK.set3 (h : LK w b n0 g r s p v5 v6 v7 qs ls es W) (x : Int) : LK w b n0 g r x p v5 v6 v7 qs ls es (W.setCell ⟨b, 3, none⟩ (.int .i64 x)) :=
  ⟨by simp [World.setCell, Array.getElem?_modify, h.box], h.rows.k36 (K36.set h.box _ _), h.below.setCell h.hn.2.1 _, h.hn.1, h.hn.2.1, by simpa [World.setCell] using h.hn.2.2⟩
theorem LK.set4 (h : LK w b n0 g r s p v5 v6 v7 qs ls es W) (x : Int) : LK w b n0 g r s x v5 v6 v7 qs ls es (W.setCell ⟨b, 4, none⟩ (.int .i64 x)) :=
  ⟨by simp [World.setCell, Array.getElem?_modify, h.box], h.rows.k36 (K36.set h.box _ _), h.below.setCell h.hn.2.1 _, h.hn.1, h.hn.2.1, by simpa [World.setCell] using h.hn.2.2⟩
/-- Behind an append to a row of the code: the box is as it was. -/
theorem LK.boxg (h : LK w b n0 g r s p v5 v6 v7 qs ls es W) {e size n : Nat} {v : Value} {xs : List Value} (hr : W.ownsRow n0 e size v n xs) (hg : W.grownBy W' v.ownBlock) (he : 36 ≠ e) :
    W'.heap[b]? = some (.cells #[.int .i64 g, .int .i64 2, .int .i64 r, .int .i64 s, .int .i64 p, v5, v6, v7] 36 (0, 0)) ∧ Below w.heap.size w W' ∧ n0 ≤ W'.heap.size :=
  ⟨(grow_kept hr hg _ _ _ _ h.box he).trans h.box, grow_below h.below hr hg h.hn.1 (Nat.le_refl _), Nat.le_trans h.hn.2.2 hg.size⟩
theorem LK.fr' (h : W'.heap[b]? = some (.cells #[.int .i64 g, .int .i64 2, .int .i64 r, .int .i64 s, .int .i64 p, v5, v6, v7] 36 (0, 0))) (o : Nat) : W'.frozen? ⟨b, o, none⟩ = false := by simp [World.frozen?, h]
theorem LK.ck' (h : W'.heap[b]? = some (.cells #[.int .i64 g, .int .i64 2, .int .i64 r, .int .i64 s, .int .i64 p, v5, v6, v7] 36 (0, 0))) : W'.cell? ⟨b, 5, none⟩ = some v5 ∧ W'.cell? ⟨b, 7, none⟩ = some v7 := by simp [World.cell?, h]
/-- A new block behind the others. -/
theorem LK.push7 (h : LK w b n0 g r s p v5 v6 v7 qs ls es W) {v : Value} {x : BlE} (hx : x.1 = .slice none 0 0 ∧ x.2.1 = []) (hr : W'.ownsRow n0 55 14 v (es.length + 1) (flatB es ++ blC x)) (hg : W.grownBy W' v7.ownBlock) :
    LK w b n0 g r s p v5 v6 v qs ls (es ++ [x]) (W'.setCell ⟨b, 7, none⟩ v) := by
  obtain ⟨hb, hbw, hs⟩ := h.boxg h.rows.blocks hg (by decide)
  have kg := grow_kept h.rows.blocks hg
  have ks := K36.set hb 7 v
  refine ⟨by simp [World.setCell, Array.getElem?_modify, hb], ⟨row_kept (row_kept h.rows.arr kg (by decide)) ks.1 (by decide), row_kept (row_kept h.rows.loops kg (by decide)) ks.1 (by decide), ?_, fun e he => ?_⟩, hbw.setCell h.hn.2.1 v, h.hn.1, h.hn.2.1, by simpa [World.setCell] using hs⟩
  · rw [List.length_append, flatB_snoc]
    exact row_kept hr ks.1 (by decide)
  · rcases List.mem_append.1 he with he | he
    · exact row_kept (row_kept (h.rows.insts e he) kg (by decide)) ks.1 (by decide)
    · rw [List.mem_singleton] at he
      subst he
      rw [hx.1, hx.2]
      exact World.ownsRow_nil _ _ _ _
/-- A new array behind the others. -/
theorem LK.push5 (h : LK w b n0 g r s p v5 v6 v7 qs ls es W) {v : Value} {x : ArV} (hr : W'.ownsRow n0 91 4 v (qs.length + 1) (flatA qs ++ arC x)) (hg : W.grownBy W' v5.ownBlock) :
    LK w b n0 g r s p v v6 v7 (qs ++ [x]) ls es (W'.setCell ⟨b, 5, none⟩ v) := by
  obtain ⟨hb, hbw, hs⟩ := h.boxg h.rows.arr hg (by decide)
  have kg := grow_kept h.rows.arr hg
  have ks := K36.set hb 5 v
  refine ⟨by simp [World.setCell, Array.getElem?_modify, hb], ⟨?_, row_kept (row_kept h.rows.loops kg (by decide)) ks.1 (by decide), row_kept (row_kept h.rows.blocks kg (by decide)) ks.1 (by decide), fun e he => row_kept (row_kept (h.rows.insts e he) kg (by decide)) ks.1 (by decide)⟩, hbw.setCell h.hn.2.1 v, h.hn.1, h.hn.2.1, by simpa [World.setCell] using hs⟩
  rw [List.length_append, flatA_snoc]
  exact row_kept hr ks.1 (by decide)
/-- A new instruction in the only block. -/
theorem LK.pushI {gB cB : Nat} {vI : Value} {is : List InstV} {te : TermV} (h : LK w b n0 g r s p v5 v6 (.slice (some ⟨gB, 0, none⟩) 1 cB) qs ls [(vI, is, te)] W) {v : Value} {i : InstV} (hr : W'.ownsRow n0 61 15 v (is.length + 1) (flatI is ++ i.cells)) (hg : W.grownBy W' vI.ownBlock) :
    LK w b n0 g r s p v5 v6 (.slice (some ⟨gB, 0, none⟩) 1 cB) qs ls [(v, is ++ [i], te)] (W'.setCell ⟨gB, 0, none⟩ v) := by
  have hi := h.rows.insts _ (List.mem_singleton.2 rfl)
  simp only at hi
  obtain ⟨hb, hbw, hs⟩ := h.boxg hi hg (by decide)
  have kg := grow_kept hi hg
  have hB := row_kept h.rows.blocks kg (by decide)
  have hst := hB.stored 0 v
  have ks := grow_kept hB hst.2
  refine ⟨(ks _ _ _ _ hb (by decide)).trans hb, ⟨row_kept (row_kept h.rows.arr kg (by decide)) ks (by decide), row_kept (row_kept h.rows.loops kg (by decide)) ks (by decide), hst.1, fun e he => ?_⟩, grow_below hbw hB hst.2 h.hn.1 (Nat.le_refl _), h.hn.1, h.hn.2.1, by simpa [World.setCell] using hs⟩
  rw [List.mem_singleton] at he
  subst he
  rw [List.length_append, flatI_snoc]
  exact row_kept hr ks (by decide)
/-- The name of the only array. -/
theorem LK.name {gA cA : Nat} {nm nm' : ByteArray} {x : Int × Int × Int} (h : LK w b n0 g r s p (.slice (some ⟨gA, 0, none⟩) 1 cA) v6 v7 [(nm, x)] ls es W) :
    LK w b n0 g r s p (.slice (some ⟨gA, 0, none⟩) 1 cA) v6 v7 [(nm', x)] ls es (W.setCell ⟨gA, 0, none⟩ (.string nm')) := by
  have hst := h.rows.arr.stored 0 (.string nm')
  have ks := grow_kept h.rows.arr hst.2
  exact ⟨(ks _ _ _ _ h.box (by decide)).trans h.box, ⟨hst.1, row_kept h.rows.loops ks (by decide), row_kept h.rows.blocks ks (by decide), fun e he => row_kept (h.rows.insts e he) ks (by decide)⟩, grow_below h.below h.rows.arr hst.2 h.hn.1 (Nat.le_refl _), h.hn.1, h.hn.2.1, by simpa [World.setCell] using h.hn.2.2⟩
theorem LK.cdk (h : LK w b n0 g r s p v5 v6 v7 qs ls es W) (hq : ∀ a, a ∈ qs → a.1.size ≤ 9223372036854775807) (hi : ∀ e, e ∈ es → e.2.1.length ≤ 65536) :
    ∃ a : CdA, v5 = .slice a.a1 qs.length a.c1 ∧ v6 = .slice a.a2 ls.length a.c2 ∧ v7 = .slice a.a3 es.length a.c3 ∧ CdK ⟨qs, ls, es.map (·.2), lwN g r s p⟩ a W := h.rows.cdk (lwN g r s p) hq hi
end
end Go.Proofs.YtkncilgmlkeifaaGreatDoor
