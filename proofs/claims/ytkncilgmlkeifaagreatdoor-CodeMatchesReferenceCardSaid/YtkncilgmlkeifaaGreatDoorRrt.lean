import Derived.Test.YtkncilgmlkeifaaGreatDoorPar
import Derived.Lib.ParseIntBCases
import Derived.Lib.ItoaNum
/-
  The text of a code, read again (plain facts): words and lines, numbers and operands.
-/
set_option linter.unusedVariables false
set_option linter.unusedSimpArgs false
namespace Go.Proofs.YtkncilgmlkeifaaGreatDoor
def bA (l : List UInt8) : ByteArray := ⟨l.toArray⟩
def WOk (w : List UInt8) : Prop := ∀ c, c ∈ w -> c ≠ 32 /\ c ≠ 10
def OpdOk (o : OpdV) : Prop := (o.k = 1 /\ o.n = 0) \/ (o.k = 2 /\ o.v = 0)
end Go.Proofs.YtkncilgmlkeifaaGreatDoor
/-
  The text of a code, read again (plain facts): parts, instructions, ends.
-/
namespace Go.Proofs.YtkncilgmlkeifaaGreatDoor
open Go.ChangeShapes Go.WideShapes Go.ChangeAt Go.RowKit Go.Shelf
structure PartOk (f : FormV) (q : PartV) : Prop where
 sub : f.want 0 = false -> q.sub = 0
 n : f.want 1 = false -> q.n = 0
 d : (f.want 2 = true -> OpdOk q.d) /\ (f.want 2 = false -> q.d = noOpd)
 a : (f.want 3 = true -> OpdOk q.a) /\ (f.want 3 = false -> q.a = noOpd)
 b : (f.want 4 = true -> OpdOk q.b) /\ (f.want 4 = false -> q.b = noOpd)
 c : (f.want 5 = true -> OpdOk q.c) /\ (f.want 5 = false -> q.c = noOpd)
 t0 : f.want 6 = false -> q.t0 = 0
 t1 : f.want 7 = false -> q.t1 = 0
theorem opd0 {o : OpdV} (hk : o.k = 0) (hn : o.n = 0) (hv : o.v = 0) : o = noOpd := by
 obtain ⟨k, n, v⟩ := o
 simp only at hk hn hv
 subst hk hn hv
 rfl
theorem regB_ok {r : Int} {o : OpdV} (h : regB r o = true) : OpdOk o := by
 unfold regB at h
 simp only [Bool.and_eq_true, decide_eq_true_eq] at h
 exact .inr ⟨h.1, h.2.1⟩
theorem valB_ok {r : Int} {o : OpdV} (h : valB r o = true) : OpdOk o := by
 unfold valB at h
 simp only [Bool.or_eq_true, Bool.and_eq_true, decide_eq_true_eq] at h
 rcases h with h | h
 . exact .inl h
 . exact regB_ok h
theorem not_or {x y : Bool} (h : (!x || y) = true) (hx : x = true) : y = true := by
 subst hx
 simpa using h
theorem partOk_of {p sl r : Int} {n1 n3 : Nat} {sp : Nat -> Int} {f : FormV} {q : PartV} (h : hasV p sl r n1 n3 sp f q = true) : PartOk f q := by
 unfold hasV at h
 simp only [Bool.and_eq_true] at h
 obtain ⟨hz, _, ⟨hd, ha, hb, hc⟩, _⟩ := h
 unfold zeroP at hz
 simp only [Bool.and_eq_true, beq_iff_eq, othV] at hz
 obtain ⟨z0, z1, z2, z3, z4, z5, z6, z7, z8, z9, z10, z11, z12, z13, z14, z15⟩ := hz
 exact ⟨fun w => by simpa [w] using z0, fun w => by simpa [w] using z1,
  ⟨fun w => regB_ok (not_or hd w), fun w => opd0 (by simpa [w] using z2) (by simpa [w] using z3) (by simpa [w] using z4)⟩,
  ⟨fun w => valB_ok (not_or ha w), fun w => opd0 (by simpa [w] using z5) (by simpa [w] using z6) (by simpa [w] using z7)⟩,
  ⟨fun w => valB_ok (not_or hb w), fun w => opd0 (by simpa [w] using z8) (by simpa [w] using z9) (by simpa [w] using z10)⟩,
  ⟨fun w => valB_ok (not_or hc w), fun w => opd0 (by simpa [w] using z11) (by simpa [w] using z12) (by simpa [w] using z13)⟩,
  fun w => by simpa [w] using z14, fun w => by simpa [w] using z15⟩
structure InstOk (i : InstV) : Prop where
 op : 1 <= i.op /\ i.op <= 12
 parts : PartOk (instF i.op) i.parts
 rng : i.parts.Rng
structure EndOk (t : TermV) : Prop where
 kind : 1 <= t.kind /\ t.kind <= 5
 parts : PartOk (endF t.kind) t.parts
 rng : t.parts.Rng
end Go.Proofs.YtkncilgmlkeifaaGreatDoor
/-
  The text of a code, read again (plain facts): the lines of a code.
-/
namespace Go.Proofs.YtkncilgmlkeifaaGreatDoor
open Go.ChangeShapes Go.WideShapes Go.ChangeAt Go.RowKit Go.Shelf
structure RtOk (c : CdV) : Prop where
 n : ∀ j, j < 5 -> I64 (c.n j)
 q : ∀ a, a ∈ c.q -> WOk a.1.data.toList /\ I64 a.2.1 /\ I64 a.2.2.1 /\ I64 a.2.2.2
 l : ∀ a, a ∈ c.l -> I64 a.1 /\ I64 a.2.1 /\ I64 a.2.2
 b : ∀ e, e ∈ c.b -> (∀ i, i ∈ e.1 -> InstOk i) /\ EndOk e.2
end Go.Proofs.YtkncilgmlkeifaaGreatDoor
/-
  The reference reads what the program reads (plain facts): its reader of a text as a plain function; what the checker accepts has short numbers; both readers accept the same texts and read the same codes.
-/
namespace Go.Proofs.YtkncilgmlkeifaaGreatDoor
open Go.ChangeShapes Go.WideShapes Go.ChangeAt Go.RowKit Go.Shelf
def S11 (n : Int) : Prop := -99999999999 <= n /\ n <= 99999999999
theorem S11.i64 {n : Int} (h : S11 n) : I64 n := by unfold S11 at h; unfold I64; omega
structure PartS (q : PartV) : Prop where
 sub : S11 q.sub
 n : S11 q.n
 d : S11 q.d.n /\ I32b q.d.v
 a : S11 q.a.n /\ I32b q.a.v
 b : S11 q.b.n /\ I32b q.b.v
 c : S11 q.c.n /\ I32b q.c.v
 t0 : S11 q.t0
 t1 : S11 q.t1
structure RtS (c : CdV) : Prop where
 ok : RtOk c
 n : ∀ j, j < 5 -> S11 (c.n j)
 q : ∀ a, a ∈ c.q -> S11 a.2.1 /\ S11 a.2.2.1 /\ S11 a.2.2.2
 l : ∀ a, a ∈ c.l -> S11 a.1 /\ S11 a.2.1 /\ S11 a.2.2
 b : ∀ e, e ∈ c.b -> (∀ i, i ∈ e.1 -> PartS i.parts) /\ PartS e.2.parts
theorem s11_of {n : Int} (h : -100000 <= n /\ n <= 100000) : S11 n := by unfold S11; omega
theorem wth_s {n lo hi : Int} (h : wthB n lo hi = true) : lo <= n /\ n <= hi := by
 unfold wthB at h
 simpa [Bool.and_eq_true, decide_eq_true_eq] using h
theorem partS_of {p sl r : Int} {n1 n3 : Nat} {sp : Nat -> Int} {f : FormV} {q : PartV} (h : hasV p sl r n1 n3 sp f q = true) (hp : p <= 8) (hsl : sl <= 256) (hr : r <= 256) (h1 : n1 <= 8) (h3 : n3 <= 400)
 (vd : I32b q.d.v) (va : I32b q.a.v) (vb : I32b q.b.v) (vc : I32b q.c.v) : PartS q := by
 have hk := partOk_of h
 unfold hasV at h
 simp only [Bool.and_eq_true] at h
 obtain ⟨hz, ⟨hs, hi⟩, ⟨hd, ha, hb, hc⟩, ht⟩ := h
 have z : S11 0 := by unfold S11; omega
 have reg : ∀ {o : OpdV}, regB r o = true -> S11 o.n := fun {o} ho => by
  unfold regB at ho
  simp only [Bool.and_eq_true] at ho
  have := wth_s ho.2.2
  exact s11_of (by omega)
 have val : ∀ {o : OpdV}, valB r o = true -> S11 o.n := fun {o} ho => by
  unfold valB at ho
  simp only [Bool.or_eq_true, Bool.and_eq_true, decide_eq_true_eq] at ho
  rcases ho with ho | ho
  . rw [ho.2]; exact z
  . exact reg ho
 have zo : ∀ {o : OpdV}, o = noOpd -> S11 o.n := fun {o} ho => by rw [ho]; exact z
 have tt : ∀ j : Nat, (j : Int) < f.targets -> S11 (if j = 0 then q.t0 else q.t1) := fun j hj => by
  have := List.all_eq_true.1 ht j (List.mem_range.2 (by omega))
  have := wth_s this
  exact s11_of (by omega)
 refine ⟨?_, ?_, ⟨?_, vd⟩, ⟨?_, va⟩, ⟨?_, vb⟩, ⟨?_, vc⟩, ?_, ?_⟩
 . cases hw : f.want 0 with
   | false => rw [hk.sub hw]; exact z
   | true =>
    have := not_or hs hw
    unfold hasB at this
    simp only [Bool.and_eq_true] at this
    have := wth_s this.1
    exact s11_of (by omega)
 . cases hw : f.want 1 with
   | false => rw [hk.n hw]; exact z
   | true =>
    have := not_or hi hw
    unfold idxB at this
    split at this
    . have := wth_s this; exact s11_of (by omega)
    . split at this
      . have := wth_s this; exact s11_of (by omega)
      . simp only [Bool.and_eq_true] at this
        have := wth_s this.1
        exact s11_of (by omega)
 . cases hw : f.want 2 with
   | false => exact zo (hk.d.2 hw)
   | true => exact reg (not_or hd hw)
 . cases hw : f.want 3 with
   | false => exact zo (hk.a.2 hw)
   | true => exact val (not_or ha hw)
 . cases hw : f.want 4 with
   | false => exact zo (hk.b.2 hw)
   | true => exact val (not_or hb hw)
 . cases hw : f.want 5 with
   | false => exact zo (hk.c.2 hw)
   | true => exact val (not_or hc hw)
 . cases hw : f.want 6 with
   | false => rw [hk.t0 hw]; exact z
   | true =>
    have hj : ((0 : Nat) : Int) < f.targets := by
     have : ((6 : Nat) : Int) - 6 < f.targets := by simpa [FormV.want] using hw
     omega
    exact tt 0 hj
 . cases hw : f.want 7 with
   | false => rw [hk.t1 hw]; exact z
   | true =>
    have hj : ((1 : Nat) : Int) < f.targets := by
     have : ((7 : Nat) : Int) - 6 < f.targets := by simpa [FormV.want] using hw
     omega
    exact tt 1 hj
theorem okC_wok {c : UInt8} {i : Nat} (h : okC c i = true) : c ≠ 32 /\ c ≠ 10 := by
 constructor
 . rintro rfl
   have : (32 : UInt8).toNat = 32 := rfl
   simp [okC, this] at h
 . rintro rfl
   have : (10 : UInt8).toNat = 10 := rfl
   simp [okC, this] at h
theorem name_wok {s : ByteArray} (h : nameB s = true) : WOk s.data.toList := by
 unfold nameB at h
 simp only [Bool.and_eq_true, List.all_eq_true, List.mem_range] at h
 intro c hc
 obtain ⟨i, hi, rfl⟩ := List.mem_iff_getElem.1 hc
 have hs : i < s.size := by
  have : s.data.toList.length = s.size := by rw [Array.length_toList]; rfl
  omega
 have := h.1 i hs
 rw [List.getD_eq_getElem?_getD, List.getElem?_eq_getElem hi] at this
 exact okC_wok this
theorem instOk_chk {p sl r : Int} {n1 n3 : Nat} {sp : Nat -> Int} {i : InstV} (h : instB p sl r n1 n3 sp i = true) (hr : i.parts.Rng) : InstOk i := by
 unfold instB at h
 simp only [Bool.and_eq_true] at h
 exact ⟨by simpa [instOK] using h.1, partOk_of h.2, hr⟩
theorem endOk_chk {p sl r : Int} {n1 n3 : Nat} {sp : Nat -> Int} {t : TermV} (h : endB p sl r n1 n3 sp t = true) (hr : t.parts.Rng) : EndOk t := by
 unfold endB at h
 simp only [Bool.and_eq_true] at h
 exact ⟨by simpa [endOK] using h.1, partOk_of h.2, hr⟩
theorem sizB_s {g s r sl p : Int} (h : sizB g s r sl p = true) : (1 <= g /\ g <= 256) /\ (1 <= s /\ s <= 32) /\ 0 <= r /\ 0 <= sl /\ 0 <= p := by
 unfold sizB at h
 simp only [Bool.and_eq_true, decide_eq_true_eq] at h
 exact ⟨wth_s h.1, wth_s h.2.1, h.2.2.2.2.1, h.2.2.2.2.2.1, h.2.2.2.2.2.2⟩
theorem rts_of {c : CdV} (hz : chkC c = 0) (hr : c.Rng) : RtS c := by
 unfold chkC checkE at hz
 split at hz
 . rename_i hl
   split at hz
   . rename_i hf
     obtain ⟨b1, b2, b3, br, bs, bp⟩ := limB_bounds hl
     unfold formB at hf
     rw [Bool.and_eq_true, Bool.and_eq_true, Bool.and_eq_true, Bool.and_eq_true] at hf
     obtain ⟨hsz, ha', hlo', h0, hb'⟩ := hf
     have ha := fun j (hj : j < c.q.length) => List.all_eq_true.1 ha' j (List.mem_range.2 hj)
     have hlo := fun j (hj : j < c.l.length) => List.all_eq_true.1 hlo' j (List.mem_range.2 hj)
     have hb := fun j (hj : j < c.b.length) => List.all_eq_true.1 hb' j (List.mem_range.2 hj)
     clear ha' hlo' hb'
     obtain ⟨g1, s1, r0, sl0, p0⟩ := sizB_s hsz
     have hn : ∀ j, j < 5 -> S11 (c.n j) := fun j hj => by
      match j, hj with
      | 0, _ => exact s11_of (by omega)
      | 1, _ => exact s11_of (by omega)
      | 2, _ => exact s11_of (by omega)
      | 3, _ => exact s11_of (by omega)
      | 4, _ => exact s11_of (by omega)
     have hq : ∀ a, a ∈ c.q -> WOk a.1.data.toList /\ S11 a.2.1 /\ S11 a.2.2.1 /\ S11 a.2.2.2 := fun a hm => by
      obtain ⟨j, hj, rfl⟩ := List.mem_iff_getElem.1 hm
      have h := ha j hj
      unfold CdV.nm CdV.sp CdV.ty CdV.ln at h
      rw [getD_of _ _ _ hj] at h
      unfold arrB at h
      simp only [Bool.and_eq_true] at h
      have h1 := wth_s h.2.1
      have h2 := wth_s h.2.2.1
      have h3 := wth_s h.2.2.2
      exact ⟨name_wok h.1, s11_of (by omega), s11_of (by omega), s11_of (by omega)⟩
     have hL : ∀ a, a ∈ c.l -> S11 a.1 /\ S11 a.2.1 /\ S11 a.2.2 := fun a hm => by
      obtain ⟨j, hj, rfl⟩ := List.mem_iff_getElem.1 hm
      have h := hlo j hj
      unfold CdV.hd CdV.rg CdV.bd at h
      rw [getD_of _ _ _ hj] at h
      unfold loopB at h
      simp only [Bool.and_eq_true] at h
      have h1 := wth_s h.1
      have h2 := wth_s h.2.1
      have h3 := wth_s h.2.2
      exact ⟨s11_of (by omega), s11_of (by omega), s11_of (by omega)⟩
     have hB : ∀ e, e ∈ c.b -> (∀ i, i ∈ e.1 -> InstOk i /\ PartS i.parts) /\ EndOk e.2 /\ PartS e.2.parts := fun e hm => by
      obtain ⟨j, hj, rfl⟩ := List.mem_iff_getElem.1 hm
      have h := hb j hj
      unfold blockB at h
      simp only [Bool.and_eq_true, List.all_eq_true, List.mem_range] at h
      have eb : c.b.getD j noB = c.b[j] := getD_of _ _ _ hj
      refine ⟨fun i hi => ?_, ?_⟩
      . obtain ⟨k, hk, rfl⟩ := List.mem_iff_getElem.1 hi
        have hk' : k < c.il j := by unfold CdV.il; rw [eb]; exact hk
        have e : c.is j k = c.b[j].1[k] := by unfold CdV.is; rw [eb, getD_of _ _ _ hk]
        have hi' := h.1 k hk'
        have hrg := hr.insts j k hj hk'
        rw [e] at hi' hrg
        refine ⟨instOk_chk hi' hrg, ?_⟩
        unfold instB at hi'
        simp only [Bool.and_eq_true] at hi'
        exact partS_of hi'.2 bp bs br b1 b3 hrg.d.v hrg.a.v hrg.b.v hrg.c.v
      . have e : c.te j = c.b[j].2 := by unfold CdV.te; rw [eb]
        have hi' := h.2
        have hrg := hr.terms j hj
        rw [e] at hi' hrg
        refine ⟨endOk_chk hi' hrg, ?_⟩
        unfold endB at hi'
        simp only [Bool.and_eq_true] at hi'
        exact partS_of hi'.2 bp bs br b1 b3 hrg.d.v hrg.a.v hrg.b.v hrg.c.v
     exact ⟨⟨fun j hj => (hn j hj).i64, fun a ha => ⟨(hq a ha).1, (hq a ha).2.1.i64, (hq a ha).2.2.1.i64, (hq a ha).2.2.2.i64⟩, fun a ha => ⟨(hL a ha).1.i64, (hL a ha).2.1.i64, (hL a ha).2.2.i64⟩, fun e he => ⟨fun i hi => ((hB e he).1 i hi).1, (hB e he).2.1⟩⟩,
      hn, fun a ha => (hq a ha).2, hL, fun e he => ⟨fun i hi => ((hB e he).1 i hi).2, (hB e he).2.2⟩⟩
   . cases hz
 . cases hz
def grow (m : Int) : Nat -> Int
 | 0 => m
 | k + 1 => grow (m * 10 + 9) k
end Go.Proofs.YtkncilgmlkeifaaGreatDoor
