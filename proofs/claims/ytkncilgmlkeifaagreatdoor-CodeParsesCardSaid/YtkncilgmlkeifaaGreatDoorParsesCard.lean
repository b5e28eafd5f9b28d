/-
  CodeParses: for every description x of a code, every edit z of a text and every string s, the law warpwrightlaw05.CodeParses returns true, and its arguments read afterwards as before. Conditions: the library's three tables and the two variables strconv.ErrRange and strconv.ErrSyntax read at the start as the program's text lays them (the card ties this).
-/
import Derived.Test.YtkncilgmlkeifaaGreatDoorPsw
import Derived.Test.YtkncilgmlkeifaaGreatDoorPip
import Derived.Test.YtkncilgmlkeifaaGreatDoorEdt
import Derived.Test.YtkncilgmlkeifaaGreatDoorExs
import Derived.Test.YtkncilgmlkeifaaGreatDoorMkd
import Derived.Test.YtkncilgmlkeifaaGreatDoorRrt
import Derived.Carry
import Derived.ChangeSlices
import Derived.ChangeSame
import Derived.ChangeMaps5
import Derived.Lib.SmallJoins
set_option linter.unusedVariables false
set_option linter.unusedSimpArgs false
set_option maxRecDepth 100000
namespace Go.Proofs.YtkncilgmlkeifaaGreatDoor
open Go.ChangeShapes Go.WideShapes Go.ChangeAt Go.RowKit Go.Shelf
theorem eqI_eq {i j : InstV} (h : eqI i j = true) : i = j := by
 obtain ⟨_, _, _, ⟨_, _, _⟩, ⟨_, _, _⟩, ⟨_, _, _⟩, ⟨_, _, _⟩⟩ := i
 obtain ⟨_, _, _, ⟨_, _, _⟩, ⟨_, _, _⟩, ⟨_, _, _⟩, ⟨_, _, _⟩⟩ := j
 simp only [eqI, Bool.and_eq_true, beq_iff_eq] at h
 simp only [InstV.mk.injEq, OpdV.mk.injEq, h, and_self]
theorem eqT_eq {t u : TermV} (h : eqT t u = true) : t = u := by
 obtain ⟨_, _, ⟨_, _, _⟩, ⟨_, _, _⟩, ⟨_, _, _⟩, _, _⟩ := t
 obtain ⟨_, _, ⟨_, _, _⟩, ⟨_, _, _⟩, ⟨_, _, _⟩, _, _⟩ := u
 simp only [eqT, Bool.and_eq_true, beq_iff_eq] at h
 simp only [TermV.mk.injEq, OpdV.mk.injEq, h, and_self]
theorem bs_of {x y : ByteArray} (h : x.toList = y.toList) : x = y := by
 rw [ByteArray.toList_eq, ByteArray.toList_eq] at h
 exact ByteArray.ext (Array.toList_inj.1 h)
theorem same_cutC {c d : CdV} (h : sameCd c d = true) : cutC c = cutC d := by
 simp only [sameCd, sameC, sameHd, Bool.and_eq_true, decide_eq_true_eq, List.all_eq_true, List.mem_range] at h
 obtain ⟨⟨h0, h1, h2, h3, h4, hq, hl, hA, hL⟩, hb, hB⟩ := h
 have eq : c.q = d.q := List.ext_getElem hq fun j k1 k2 => by
  have := hA j k1
  simp only [eqA, CdV.nm, CdV.sp, CdV.ty, CdV.ln, getD_of _ _ _ k1, getD_of _ _ _ k2, Bool.and_eq_true, beq_iff_eq] at this
  exact Prod.ext (bs_of this.1) (Prod.ext this.2.1 (Prod.ext this.2.2.1 this.2.2.2))
 have el : c.l = d.l := List.ext_getElem hl fun j k1 k2 => by
  have := hL j k1
  simp only [eqL, CdV.hd, CdV.rg, CdV.bd, getD_of _ _ _ k1, getD_of _ _ _ k2, Bool.and_eq_true, beq_iff_eq] at this
  exact Prod.ext this.1 (Prod.ext this.2.1 this.2.2)
 have eb : c.b = d.b := List.ext_getElem hb fun j k1 k2 => by
  have := hB j k1
  simp only [sameB, CdV.il, CdV.is, CdV.te, getD_of _ _ _ k1, getD_of _ _ _ k2, Bool.and_eq_true, decide_eq_true_eq, List.all_eq_true, List.mem_range] at this
  obtain ⟨e1, e2, e3⟩ := this
  refine Prod.ext (List.ext_getElem e1 fun i i1 i2 => ?_) (eqT_eq e2)
  have := eqI_eq (e3 i i1)
  rwa [getD_of _ _ _ i1, getD_of _ _ _ i2] at this
 unfold cutC
 rw [eq, el, eb]
 congr 1
 funext j
 by_cases hj : j < 5
 . have : j = 0 \/ j = 1 \/ j = 2 \/ j = 3 \/ j = 4 := by omega
   rcases this with rfl | rfl | rfl | rfl | rfl <;> assumption
 . rw [if_neg hj, if_neg hj]
theorem same_self (c : CdV) : sameCd c c = true := same_cut c
def tC (c : CdV) : ByteArray := if chkC c = 0 then ⟨(txtC c).toArray⟩ else ⟨#[]⟩
theorem par_in (s : ByteArray) : inC s = parseC s /\ inE s = parseE s := by
 obtain ⟨h1, h2⟩ := parse_agree s
 unfold inC inE parseC parseE
 rw [h1]
 by_cases h : parseB s = true
 . simp only [if_pos h]
   exact ⟨h2 h, trivial⟩
 . simp only [if_neg h]
   exact ⟨trivial, trivial⟩
theorem par_zero {s : ByteArray} (h : parseE s = 0) : parseB s = true := by
 unfold parseE at h
 split at h
 . assumption
 . exact absurd h (by decide)
theorem par_own {s : ByteArray} (h : parseB s = true) : parseC s = readV s /\ chkC (readV s) = 0 /\ (⟨(txtC (readV s)).toArray⟩ : ByteArray) = s := by
 refine ⟨by unfold parseC; rw [if_pos h], ?_⟩
 unfold parseB at h
 simpa only [Bool.and_eq_true, decide_eq_true_eq] using h
theorem par_same {C : CdV} (hr : C.Rng) {s : ByteArray} (h : parseB s = true) : sameCd C (parseC s) = (s.toList == (tC C).toList) := by
 obtain ⟨hP, hz, ht⟩ := par_own h
 rw [hP, Bool.eq_iff_iff, beq_iff_eq]
 constructor
 . intro hs
   have e := same_cutC hs
   have e1 : txtC C = txtC (readV s) := by rw [<- cut_txt C, e, cut_txt]
   have e2 : chkC C = 0 := by rw [<- cut_chk C, e, cut_chk, hz]
   unfold tC
   rw [if_pos e2, e1, ht]
 . intro hs
   have hs := bs_of hs
   unfold tC at hs
   by_cases hc : chkC C = 0
   . rw [if_pos hc] at hs
     have e : readV s = cutC C := by
      rw [<- (parse_agree s).2 h, hs]
      exact readQ_txt (rts_of hc hr)
     rw [e]
     exact same_cut C
   . rw [if_neg hc] at hs
     subst hs
     exact absurd h (by decide +kernel)
theorem par_fits (s : ByteArray) (hs : s.size <= 65535) : (parseC s).Fits := by
 unfold parseC
 split
 . exact readK_fits s (by omega)
 . exact zero_fits
theorem par_rng (s : ByteArray) : (parseC s).Rng := by
 unfold parseC
 split
 . exact (readK_ok s _).rng
 . exact cd0_ok.rng
theorem parts_cnt {f : FormV} {q : PartV} (h : q.Rng) : ∀ s, s <= 8 -> (partsT f q s).length <= 23 * cnt f s
 | 0, _ => Nat.le_refl _
 | s + 1, hs => by
  have ih := parts_cnt (f := f) h s (by omega)
  rw [partsT, cnt, List.length_append]
  split
  . have := stepT_len h (s := s) (by omega)
    omega
  . simp only [List.length_nil]
    omega
theorem i_cnt : ∀ m : Nat, m < 12 -> cnt (instF ((m : Int) + 1)) 8 <= 4 /\ (instF ((m : Int) + 1)).word.toList.length <= 10 := by decide +kernel
theorem e_cnt : ∀ m : Nat, m < 5 -> cnt (endF ((m : Int) + 1)) 8 <= 5 /\ (endF ((m : Int) + 1)).word.toList.length <= 10 := by decide +kernel
theorem inst_ln {i : InstV} (h : InstOk i) : (instT i).length <= 103 := by
 obtain ⟨m, hm⟩ : ∃ m : Nat, i.op = (m : Int) + 1 := ⟨(i.op - 1).toNat, by have := h.op; omega⟩
 have h1 := i_cnt m (by have := h.op; omega)
 have h2 := parts_cnt (f := instF i.op) h.rng 8 (Nat.le_refl _)
 rw [<- hm] at h1
 unfold instT
 simp only [List.length_append, List.length_cons, List.length_nil]
 omega
theorem end_ln {t : TermV} (h : EndOk t) : (endT t).length <= 126 := by
 obtain ⟨m, hm⟩ : ∃ m : Nat, t.kind = (m : Int) + 1 := ⟨(t.kind - 1).toNat, by have := h.kind; omega⟩
 have h1 := e_cnt m (by have := h.kind; omega)
 have h2 := parts_cnt (f := endF t.kind) h.rng 8 (Nat.le_refl _)
 rw [<- hm] at h1
 unfold endT
 simp only [List.length_append, List.length_cons, List.length_nil]
 omega
theorem md_len {c : CdV} (h : MdOk c) : (txtC c).length <= 30000 := by
 have r := h.ok
 have l3 := h.l3
 have b18 := h.b18
 have h0 := headT_len (g := c.n 0) (s := c.n 1) (r := c.n 2) (sl := c.n 3) (p := c.n 4) (fun j hj => by
  match j, hj with
  | 0, _ => exact r.n 0
  | 1, _ => exact r.n 1
  | 2, _ => exact r.n 2
  | 3, _ => exact r.n 3
  | 4, _ => exact r.n 4)
 have lq : c.q.length = 5 := by rw [h.q]; rfl
 have h1 := catT_len (F := fun j => arrT (c.nm j) (c.sp j) (c.ty j) (c.ln j)) (n := 5) (m := 200) (fun j hj => by
  have hj' : j < c.q.length := by omega
  have ha := r.q _ (List.getElem_mem hj')
  refine arrT_len ?_ ?_
  . simp only [CdV.nm, getD_of _ _ _ hj']
    have : ∀ a, a ∈ c.q -> a.1.size <= 12 := by
     rw [h.q]
     intro a ha
     simp only [arM, List.mem_cons, List.not_mem_nil, or_false] at ha
     rcases ha with rfl | rfl | rfl | rfl | rfl <;> decide
    exact this _ (List.getElem_mem hj')
  . simp only [CdV.sp, CdV.ty, CdV.ln, getD_of _ _ _ hj']
    exact fun k _ => f3_rng ha.1 ha.2.1 ha.2.2 k) 5 (Nat.le_refl _)
 have h2 := catT_len (F := fun j => loopT (c.hd j) (c.rg j) (c.bd j)) (n := c.l.length) (m := 200) (fun j hj => by
  have ha := r.l _ (List.getElem_mem hj)
  refine loopT_len ?_
  simp only [CdV.hd, CdV.rg, CdV.bd, getD_of _ _ _ hj]
  exact fun k _ => f3_rng ha.1 ha.2.1 ha.2.2 k) _ (Nat.le_refl _)
 have h3 := catT_len (F := fun j => blockT (c.il j) (c.is j) (c.te j)) (n := c.b.length) (m := 1100) (fun j hj => by
  have hb := h.bs _ (List.getElem_mem hj)
  have e1 : c.il j = (c.b[j]).1.length := by unfold CdV.il; rw [getD_of _ _ _ hj]
  have e2 : c.te j = (c.b[j]).2 := by unfold CdV.te; rw [getD_of _ _ _ hj]
  have h4 := catT_len (F := fun k => instT (c.is j k)) (n := (c.b[j]).1.length) (m := 103) (fun k hk => by
   have e3 : c.is j k = (c.b[j]).1[k] := by unfold CdV.is; rw [getD_of _ _ _ hj, getD_of _ _ _ hk]
   show (instT (c.is j k)).length <= 103
   rw [e3]
   have hi := hb.ins _ (List.getElem_mem hk)
   exact inst_ln (instOk_chk (hi.ok 0 0) hi.rng)) _ (Nat.le_refl _)
  have h5 := end_ln (endOk_chk (hb.fin.ok 0) hb.fin.rng)
  have h6 := hb.len
  show (blockT (c.il j) (c.is j) (c.te j)).length <= 1100
  unfold blockT
  rw [e1, e2, instsT_cat]
  simp only [List.length_append, List.length_cons, List.length_nil]
  omega) _ (Nat.le_refl _)
 unfold txtC textT
 rw [lq]
 simp only [List.length_append]
 have h3' : c.b.length * 1100 <= 18 * 1100 := Nat.mul_le_mul_right _ (by omega)
 have h2' : c.l.length * 200 <= 3 * 200 := Nat.mul_le_mul_right _ l3
 omega
theorem ps_h (A : Option Addr) (nx cx : Nat) (f : Nat -> Int) (kd a t b : Int) (w : World) (hE : EnvP w) (hB : RBy w A nx f) (hn : nx <= 9223372036854775807) (wk : 0 <= kd /\ kd <= 255) (wa : 0 <= a /\ a <= 65535) (wt : 0 <= t /\ t <= 65535) :
 PsH w tC (fun C => C.Fits /\ C.Rng /\ (txtC C).length <= 30000) parseC parseE (exC 0) A nx cx kd a t b where
 g0 := ⟨ex_fits 0, ex_rng, by decide +kernel⟩
 ex V hV := examples_any V (hE.on hV)
 md V hV := (made_any A nx cx f V (hB.on hV) hn).mono fun e w' ⟨d, a, he, hm, hb⟩ => ⟨d, a, he, ⟨⟨hm.1.fits, hm.1.ok.rng, md_len hm.1⟩, hm.2⟩, hb⟩
 e0 V := (example_ck V).mono fun e w' ⟨a, he, hk, hb⟩ => ⟨a, by rw [he, <- ex_val 0]; rfl, hk, hb⟩
 ti C a V hg hk := (TextIn_c C a V hk.mem hg.1 hg.2.1).mono fun e w' hh => ⟨⟨_, hh.1⟩, hh.2⟩
 sz C hg := by
  unfold tC
  split
  . show (txtC C).toArray.size <= _
    simpa using hg.2.2
  . decide
 ed s V hs := (edited_any s kd a t b V (by omega) wk wa wt).mono fun e w' ⟨⟨X, h1, h2⟩, hb⟩ => ⟨⟨X, h1, by omega⟩, hb⟩
 pa s V hs hV := Parse_c s V (by omega) (hE.on hV)
 pi s V hs := by
  have H := ParseIn_any s hs V
  rw [(par_in s).1, (par_in s).2] at H
  exact H
 s1 s d d' V hs h1 h2 := by
  have H := Same_c (parseC s) (parseC s) d d' V h1.mem h2.mem (par_fits s hs) (par_fits s hs)
  rw [same_self] at H
  exact H
 s2 C s a d V hg hs hz h1 h2 := by
  have H := Same_c C (parseC s) a d V h1.mem h2.mem hg.1 (par_fits s hs)
  rw [par_same hg.2.1 (par_zero hz)] at H
  exact H
 tx s d V hs hV hz hk := by
  obtain ⟨hP, hc, ht⟩ := par_own (par_zero hz)
  have H := Text_cok (parseC s) d V hk.mem (par_fits s hs) (par_rng s) (hE.on hV).tab (by rw [hP]; exact hc)
  rw [show (⟨(txtC (parseC s)).toArray⟩ : ByteArray) = s by rw [hP]; exact ht] at H
  exact H
 pe s := by
  unfold parseE
  split
  . exact Or.inl rfl
  . exact Or.inr rfl
end Go.Proofs.YtkncilgmlkeifaaGreatDoor
namespace Go.Proofs.YtkncilgmlkeifaaGreatDoor
open Go.Joins Go.ChangeShapes Go.WideShapes Go.ChangeAt Go.RowKit
theorem laidOut : laidOutB Tryz.prog = true := by kernel_rfl
theorem array1' {α : Type} {cs : Array α} (h : cs.size = 1) : ∃ c0, cs = #[c0] := by
 obtain ⟨l⟩ := cs
 match l, h with
 | [c0], _ => exact ⟨c0, rfl⟩
theorem array8' {α : Type} {cs : Array α} (h : cs.size = 8) : ∃ c0 c1 c2 c3 c4 c5 c6 c7, cs = #[c0, c1, c2, c3, c4, c5, c6, c7] := by
 obtain ⟨l⟩ := cs
 match l, h with
 | [c0, c1, c2, c3, c4, c5, c6, c7], _ => exact ⟨c0, c1, c2, c3, c4, c5, c6, c7, rfl⟩
theorem u8_wf {n : Int} (h : (Lit.int .u8 n).wf = true) : 0 <= n /\ n <= 255 := by
 simp [Lit.wf, IntKind.min, IntKind.max, IntKind.bits, IntKind.signed] at h
 omega
theorem array4' {α : Type} {cs : Array α} (h : cs.size = 4) : ∃ c0 c1 c2 c3, cs = #[c0, c1, c2, c3] := by
 obtain ⟨l⟩ := cs
 match l, h with
 | [c0, c1, c2, c3], _ => exact ⟨c0, c1, c2, c3, rfl⟩
theorem u16_wf {n : Int} (h : (Lit.int .u16 n).wf = true) : 0 <= n /\ n <= 65535 := by
 simp [Lit.wf, IntKind.min, IntKind.max, IntKind.bits, IntKind.signed] at h
 omega
section
variable {H : Type} {enc : TypeId × Value -> H} {W : World} {b0 : Nat} {v : Value} {d : DataW H} {p : List MemPlace}
theorem open_bytes {y : DataW H × List MemPlace} {fuel : Nat} (hf : DataW.trod enc Tryz.prog W 0 (fun _ => true) true fuel 22 [v] = some y) (hlt : ∀ x ∈ y.2, x.block < W.heap.size) :
 ∃ (A : Option Addr) (n c : Nat) (f : Nat -> Int), v = .slice A n c /\ n <= maxLen /\ RBy W A n f := by
 rcases open_ints Tryz.underlying22 Tryz.underlying5 (by kernel_rfl) hf with ⟨hcs, hx⟩ | ⟨a, len', cap', zs, hcs, _, hl, hm, hz, hx, hcell, hwz⟩
 . simp at hcs
   subst hcs
   exact ⟨_, _, _, fun _ => 0, rfl, Nat.zero_le _, fun h => absurd h (by omega)⟩
 . simp at hcs
   subst hcs
   simp only [if_true] at hz
   subst hx
   refine ⟨_, _, _, fun j => zs.getD j 0, rfl, Nat.le_trans hl hm, fun hn => ?_⟩
   obtain ⟨b, off, spot⟩ := a
   have hspot : spot = none := by simpa [Addr.add] using World.cell?_spot (hcell 0 (by omega))
   subst hspot
   have hb : b < W.heap.size := World.block_lt_of_cell? W _ (hcell 0 (by omega))
   refine ⟨b, off, rfl, hb, fun j hj => ⟨by rw [<- add_plain]; exact hcell j (by omega), ?_⟩⟩
   have hm : zs.getD j 0 ∈ zs := by
    rw [List.getD_eq_getElem?_getD, List.getElem?_eq_getElem (by omega)]
    exact List.getElem_mem _
   exact u8_wf (hwz _ hm)
theorem open_raw (hv : Value.okWide Tryz.prog W .any b0 24 v) (h : DataW.Trod enc Tryz.prog W 0 (fun _ => true) true 24 v d p) (hlt : ∀ x ∈ p, x.block < W.heap.size) :
 ∃ (A : Option Addr) (n c : Nat) (f : Nat -> Int), v = .agg #[.slice A n c] /\ n <= maxLen /\ RBy W A n f := by
 obtain ⟨cs, rfl, hsz⟩ := okWide_struct Tryz.underlying24 hv
 obtain ⟨c0, rfl⟩ := array1' (hsz.trans (by kernel_rfl))
 obtain ⟨fuel, hf⟩ := h
 obtain ⟨y0, n, hx, _, h0⟩ := trod_struct1 Tryz.underlying24 hf
 simp only [Prod.mk.injEq] at hx
 have h0' : DataW.trod enc Tryz.prog W 0 (fun _ => true) true n 22 [c0] = some y0 := by
  have hc : Tryz.prog.cellsOf 22 = 1 := by kernel_rfl
  simpa [Value.cells, hc] using h0
 obtain ⟨A, m, c, f, rfl, hm, hr⟩ := open_bytes h0' (fun x hx' => hlt x (by rw [hx.2]; simpa using hx'))
 exact ⟨A, m, c, f, rfl, hm, hr⟩
theorem open_edit (hv : Value.okWide Tryz.prog W .any b0 71 v) (h : DataW.Trod enc Tryz.prog W 0 (fun _ => true) true 71 v d p) :
 ∃ kd a t b : Int, v = .agg #[.int .u8 kd, .int .u16 a, .int .u16 t, .int .u8 b] /\ (0 <= kd /\ kd <= 255) /\ (0 <= a /\ a <= 65535) /\ (0 <= t /\ t <= 65535) := by
 obtain ⟨cs, rfl, hsz⟩ := okWide_struct Tryz.underlying71 hv
 obtain ⟨c0, c1, c2, c3, rfl⟩ := array4' (hsz.trans (by kernel_rfl))
 obtain ⟨fuel, hf⟩ := h
 have hc5 : Tryz.prog.cellsOf 5 = 1 := by kernel_rfl
 have hc69 : Tryz.prog.cellsOf 69 = 1 := by kernel_rfl
 obtain ⟨xs, n, _, _, _, hl, hel⟩ := DataW.trod_struct Tryz.underlying71 hf
 match xs, hl with
 | [y0, y1, y2, y3], _ =>
  have h0 := hel 0 _ rfl
  have h1 := hel 1 _ rfl
  have h2 := hel 2 _ rfl
  have h3 := hel 3 _ rfl
  simp [Value.cells, hc5, hc69] at h0 h1 h2 h3
  obtain ⟨kd, e0, _, w0⟩ := DataW.trod_int Tryz.underlying5 h0
  obtain ⟨a, e1, _, w1⟩ := DataW.trod_int Tryz.underlying69 h1
  obtain ⟨t, e2, _, w2⟩ := DataW.trod_int Tryz.underlying69 h2
  obtain ⟨b, e3, _, w3⟩ := DataW.trod_int Tryz.underlying5 h3
  simp at e0 e1 e2 e3
  subst e0 e1 e2 e3
  exact ⟨kd, a, t, b, rfl, u8_wf w0, u16_wf w1, u16_wf w2⟩
end
end Go.Proofs.YtkncilgmlkeifaaGreatDoor
namespace Go.Proofs.YtkncilgmlkeifaaGreatDoor.codeParses
open Go.ChangeShapes Go.WideShapes Go.ChangeAt Go.RowKit
theorem lifted (os : Os) (started : os.Started) (H : Type) (enc : TypeId × Value -> H) (F : Stop.Interp) :
 ReturnsInHanded {} Tryz.checked os 5 .any ((OpenSpec.ofChange Rows.codeParsesSpec).preRow enc Tryz.prog Tryz.f5 [] false laid5) (((OpenSpec.ofChange Rows.codeParsesSpec).at F).post enc Tryz.prog Tryz.f5 false true false false) := by
 refine returnsInHanded_of_row (C := Tryz.checked) own started (by kernel_rfl) Tryz.func5
  (witness_row_at (enc := enc) (C := Tryz.checked) false (World.doorLaid Tryz.prog 400 os) #[.agg #[.slice none 0 0], .agg #[.int .u8 0, .int .u16 0, .int .u16 0, .int .u8 0], .string ⟨#[]⟩] rfl (by kernel_rfl) (by kernel_rfl) (by kernel_rfl) (OpenSpec.preRow_of_B rfl 8 (by kernel_rfl) (by kernel_rfl) (door_met os _))) ?_
 intro W base args ds gs before hval0 hW _ _ _ hL hsh _
 have hval : ∀ (j : Nat) t v, Tryz.f5.params[j]? = some t -> args[j]? = some v -> Value.okWide Tryz.prog W .any base t v := hval0
 have hW' := hW
 obtain ⟨p, q, hA0, hV, rfl, hfz, hnd⟩ := hW
 have hA : DataW.TrodAll enc Tryz.prog W 0 (fun _ => true) true Tryz.f5.params.toList args.toList ds p := hA0
 rw [Tryz.params5] at hA hval
 obtain ⟨v0, vs0, d0, ds0, p0, q0, hargs, rfl, rfl, h0, r0⟩ := trodAll_cons hA
 obtain ⟨v1, vs1, d1, ds1, p1, q1, rfl, rfl, rfl, h1, r1⟩ := trodAll_cons r0
 obtain ⟨v2, vs2, d2, ds2, p2, q2, rfl, rfl, rfl, h2, r2⟩ := trodAll_cons r1
 obtain ⟨rfl, rfl, rfl⟩ := trodAll_nil r2
 obtain rfl : args = #[v0, v1, v2] := by cases args; simp_all
 obtain ⟨rfl, rfl⟩ := trodVars_none hV
 have hlt0 : ∀ x ∈ p0, x.block < W.heap.size := fun x hx => hW'.lt x (by simp [hx])
 have g0 : ∀ (W' : World), Below W.heap.size W W' -> DataW.Trod enc Tryz.prog W' 0 (fun b => decide (b < W.heap.size)) true 24 v0 d0 p0 := fun W' hn => Below.trod laidOut (by kernel_rfl) (of_decide_eq_true (by kernel_rfl)) h0 hn hlt0
 have hlt1 : ∀ x ∈ p1, x.block < W.heap.size := fun x hx => hW'.lt x (by simp [hx])
 have g1 : ∀ (W' : World), Below W.heap.size W W' -> DataW.Trod enc Tryz.prog W' 0 (fun b => decide (b < W.heap.size)) true 71 v1 d1 p1 := fun W' hn => Below.trod laidOut (by kernel_rfl) (of_decide_eq_true (by kernel_rfl)) h1 hn hlt1
 obtain ⟨A, nx, cx, f, rfl, hm, hr⟩ := open_raw (hval 0 24 v0 rfl rfl) h0 hlt0
 obtain ⟨kd, a, t, b, rfl, wk, wa, wt⟩ := open_edit (hval 1 71 v1 rfl rfl) h1
 obtain ⟨s, rfl, rfl, rfl, ws⟩ := Go.ChangeMaps.open_string Tryz.underlying9 (hval 2 9 v2 rfl rfl) h2
 clear hA0 hval0
 have he : EnvP W := env_of_laid hL
 have hm2 : nx <= 9223372036854775807 := by unfold maxLen at hm; omega
 refine (parses_of tC _ parseC parseE (exC 0) A nx cx kd a t b s W (by unfold maxLen at ws; omega) (ps_h A nx cx f kd a t b W he hr hm2 wk wa wt)).mono fun e W' ⟨he', hg⟩ => ?_
 subst he'
 exact ⟨_, rfl, _, _, _, [], _, [], hW', (trodAll_cons_mk (shut_bool Tryz.underlying4 _) trodAll_mk0), (trodAll_cons_mk (g0 _ hg) (trodAll_cons_mk (g1 _ hg) (trodAll_cons_mk (Go.ChangeMaps.shut_string Tryz.underlying9 ws) trodAll_mk0))), rfl, hg.frame _, fun h => by cases h⟩
theorem row_holds : Rows.CodeParsesSaid :=
 OpenClaim.holds_of_cond 5 Tryz.f5 rfl rfl rfl rfl rfl rfl rfl ⟨rfl, rfl, rfl, rfl, rfl⟩ rfl rfl rfl rfl rfl (by kernel_rfl) Tryz.func5 (by kernel_rfl)
  (of_decide_eq_true (by kernel_rfl)) (by unfold Func.isWrapper; first | (rw [if_pos (by decide +kernel)]; kernel_rfl) | (rw [if_neg (by decide +kernel)]; exact ⟨rfl, rfl⟩))
  (fun os started H enc _ F0 => by rw [OpenClaim.pre_eq_preRow]; exact lifted os started H enc F0)
end Go.Proofs.YtkncilgmlkeifaaGreatDoor.codeParses
namespace Go.Proofs.YtkncilgmlkeifaaGreatDoor
open Go
theorem codeParses_card_holds : Rows.CodeParsesCardSaid :=
 Claim7.holds_tied_plain_at .later [] [.data, .data, .data, .sentinel, .sentinel] true (true, "3208f3d9b3fc8fa5a2ce130b2a76f99328675c1c0e26b6f9a693437d4338b297") true
  codeParses.row_holds (fun _ h => by cases h) (by kernel_rfl) (fun _ h => by cases h) codeParses_row_tie rfl ⟨rfl, rfl⟩ (by kernel_rfl) rfl
  (fun f fn hf hfn => by
   obtain rfl : f = 5 := Option.some.inj ((show Tryz.prog.funcNamed "warpwright/warpwrightlaw05.CodeParses" = some 5 by kernel_rfl).symm.trans hf) |>.symm
   obtain rfl : fn = Tryz.f5 := (Option.some.inj (Tryz.func5.symm.trans hfn)).symm
   exact ⟨by kernel_rfl, fun j t ht => by
    rw [Tryz.params5] at ht
    have hm : t ∈ [24, 71, 9] := by simpa using Array.mem_of_getElem? ht
    have hall : ([24, 71, 9].all fun u => !Tryz.prog.wantsStandIn u) = true := by kernel_rfl
    exact (show Tryz.prog.wantsStandIn t = false by simpa using List.all_eq_true.1 hall t hm)⟩)
  (by kernel_rfl)
end Go.Proofs.YtkncilgmlkeifaaGreatDoor
