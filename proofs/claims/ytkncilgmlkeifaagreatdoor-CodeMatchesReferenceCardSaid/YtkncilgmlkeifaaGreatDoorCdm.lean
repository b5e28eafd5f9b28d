import Derived.Test.YtkncilgmlkeifaaGreatDoorRst
import Derived.Test.YtkncilgmlkeifaaGreatDoorChk
import Derived.Laws.OwnMore
import Derived.Deep.Onto
import Derived.Test.YtkncilgmlkeifaaGreatDoorRls
import Derived.Test.YtkncilgmlkeifaaGreatDoorRbx
import Derived.Test.YtkncilgmlkeifaaGreatDoorTxt
import Derived.Test.YtkncilgmlkeifaaGreatDoorRfe
import Derived.Test.YtkncilgmlkeifaaGreatDoorGrd
import Derived.RangeFuncLeaves
import Derived.RangeFuncNested
import Derived.Lib.AtoiAllCases
/-
  Package code: the reader: what it holds, as the words that Check and Text read.
-/
set_option linter.unusedVariables false
set_option linter.unusedSimpArgs false
namespace Go.Proofs.YtkncilgmlkeifaaGreatDoor
open Go.ChangeShapes Go.WideShapes Go.ChangeAt Go.RowKit Go.Shelf
theorem flat_get {α : Type} (f : α -> List Value) (sz : Nat) (hf : ∀ x, (f x).length = sz) : ∀ (l : List α) (j i : Nat) (hj : j < l.length), i < sz -> (l.flatMap f)[j * sz + i]? = (f l[j])[i]?
 | [], j, i, hj, _ => absurd hj (by simp)
 | x :: l, 0, i, hj, hi => by
  rw [List.flatMap_cons, Nat.zero_mul, Nat.zero_add, List.getElem?_append_left (by rw [hf]; exact hi)]
  rfl
 | x :: l, j + 1, i, hj, hi => by
  have e : (j + 1) * sz + i = sz + (j * sz + i) := by rw [Nat.add_mul]; omega
  rw [List.flatMap_cons, e, List.getElem?_append_right (by rw [hf]; omega), hf, Nat.add_sub_cancel_left, flat_get f sz hf l j i (by simpa using hj) hi]
  rfl
theorem own_cells {W : World} {base e sz n : Nat} {v : Value} {xs : List Value} (h : W.ownsRow base e sz v n xs) : ∃ A c, v = .slice A n c /\ (0 < n -> ∃ b, A = some ⟨b, 0, none⟩ /\ b < W.heap.size /\ ∀ i, i < n * sz -> W.cell? ⟨b, i, none⟩ = xs[i]?) := by
 by_cases hn : 0 < n
 . rcases h.2 with ⟨_, h0⟩ | ⟨g, cap, cur, rfl, hb, hg, rest⟩
   . omega
   . exact ⟨_, cap, rfl, fun _ => ⟨g, rfl, (Array.getElem?_eq_some_iff.1 hg).1, fun i hi => h.cellAt i hi⟩⟩
 . rcases h.2 with ⟨rfl, h0⟩ | ⟨g, cap, cur, rfl, hb, hg, rest⟩
   . exact ⟨none, 0, by rw [h0], fun hh => absurd hh hn⟩
   . exact ⟨_, cap, rfl, fun hh => absurd hh hn⟩
theorem own_flat {α : Type} {W : World} {base e sz : Nat} {v : Value} {l : List α} (f : α -> List Value) (hf : ∀ x, (f x).length = sz) (h : W.ownsRow base e sz v l.length (l.flatMap f)) :
 ∃ A c, v = .slice A l.length c /\ (0 < l.length -> ∃ b, A = some ⟨b, 0, none⟩ /\ b < W.heap.size /\ ∀ j (hj : j < l.length) i, i < sz -> W.cell? ⟨b, 0 + j * sz + i, none⟩ = (f l[j])[i]?) := by
 obtain ⟨A, c, hv, hc⟩ := own_cells h
 refine ⟨A, c, hv, fun hn => ?_⟩
 obtain ⟨b, hA, hlt, hcell⟩ := hc hn
 refine ⟨b, hA, hlt, fun j hj i hi => ?_⟩
 have hle : j * sz + sz <= l.length * sz := by rw [<- Nat.succ_mul]; exact Nat.mul_le_mul_right _ hj
 rw [Nat.zero_add, hcell _ (by omega), flat_get f sz hf l j i hj hi]
theorem getD_of {α : Type} (l : List α) (d : α) (j : Nat) (hj : j < l.length) : l.getD j d = l[j] := by
 rw [List.getD_eq_getElem?_getD, List.getElem?_eq_getElem hj]
 rfl
def noA : ArV := (⟨#[]⟩, 0, 0, 0)
def noL : LoV := (0, 0, 0)
theorem rar_of {W : World} {base : Nat} {v : Value} {qs : List ArV} (h : W.ownsRow base 91 4 v qs.length (flatA qs)) :
 ∃ A c, v = .slice A qs.length c /\ RAr W W.heap.size A qs.length (fun j => (qs.getD j noA).1) (fun j => (qs.getD j noA).2.1) (fun j => (qs.getD j noA).2.2.1) (fun j => (qs.getD j noA).2.2.2) := by
 obtain ⟨A, c, hv, hc⟩ := own_flat arC (fun x => rfl) h
 refine ⟨A, c, hv, fun hn => ?_⟩
 obtain ⟨b, hA, hlt, hcell⟩ := hc hn
 refine ⟨b, 0, hA, hlt, fun j hj => ?_⟩
 simp only [getD_of _ _ _ hj]
 exact ⟨hcell j hj 0 (by decide), hcell j hj 1 (by decide), hcell j hj 2 (by decide), hcell j hj 3 (by decide)⟩
theorem rlo_of {W : World} {base : Nat} {v : Value} {ls : List LoV} (h : W.ownsRow base 85 3 v ls.length (flatL ls)) :
 ∃ A c, v = .slice A ls.length c /\ RLo W W.heap.size A ls.length (fun j => (ls.getD j noL).1) (fun j => (ls.getD j noL).2.1) (fun j => (ls.getD j noL).2.2) := by
 obtain ⟨A, c, hv, hc⟩ := own_flat loC (fun x => rfl) h
 refine ⟨A, c, hv, fun hn => ?_⟩
 obtain ⟨b, hA, hlt, hcell⟩ := hc hn
 refine ⟨b, 0, hA, hlt, fun j hj => ?_⟩
 simp only [getD_of _ _ _ hj]
 exact ⟨hcell j hj 0 (by decide), hcell j hj 1 (by decide), hcell j hj 2 (by decide)⟩
def noI : InstV := ⟨0, 0, 0, noOpd, noOpd, noOpd, noOpd⟩
theorem rin_of {W : World} {base : Nat} {v : Value} {is : List InstV} (h : W.ownsRow base 61 15 v is.length (flatI is)) :
 ∃ A c, v = .slice A is.length c /\ RIn W W.heap.size A is.length (fun j => is.getD j noI) := by
 obtain ⟨A, c, hv, hc⟩ := own_flat InstV.cells (fun x => rfl) h
 refine ⟨A, c, hv, fun hn => ?_⟩
 obtain ⟨b, hA, hlt, hcell⟩ := hc hn
 refine ⟨b, 0, hA, hlt, fun j hj => ?_⟩
 simp only [getD_of _ _ _ hj]
 exact ⟨hcell j hj 0 (by decide), hcell j hj 1 (by decide), hcell j hj 2 (by decide), hcell j hj 3 (by decide), hcell j hj 4 (by decide), hcell j hj 5 (by decide), hcell j hj 6 (by decide), hcell j hj 7 (by decide), hcell j hj 8 (by decide), hcell j hj 9 (by decide), hcell j hj 10 (by decide), hcell j hj 11 (by decide), hcell j hj 12 (by decide), hcell j hj 13 (by decide), hcell j hj 14 (by decide)⟩
def adr : Value -> Option Addr
 | .slice A _ _ => A
 | _ => none
def cpc : Value -> Nat
 | .slice _ _ c => c
 | _ => 0
def noE : BlE := (.slice none 0 0, [], ⟨0, 0, noOpd, noOpd, noOpd, 0, 0⟩)
theorem rbl_of {W : World} {base : Nat} {v : Value} {es : List BlE} (h : W.ownsRow base 55 14 v es.length (flatB es)) (hs : ∀ e, e ∈ es -> ∃ A c, e.1 = .slice A e.2.1.length c) :
 ∃ A c, v = .slice A es.length c /\ RBl W W.heap.size A es.length (fun j => adr (es.getD j noE).1) (fun j => (es.getD j noE).2.1.length) (fun j => cpc (es.getD j noE).1) (fun j => (es.getD j noE).2.2) := by
 obtain ⟨A, c, hv, hc⟩ := own_flat blC (fun x => rfl) h
 refine ⟨A, c, hv, fun hn => ?_⟩
 obtain ⟨b, hA, hlt, hcell⟩ := hc hn
 refine ⟨b, 0, hA, hlt, fun j hj => ?_⟩
 simp only [getD_of _ _ _ hj]
 obtain ⟨A', c', he⟩ := hs es[j] (List.getElem_mem hj)
 refine ⟨?_, hcell j hj 1 (by decide), hcell j hj 2 (by decide), hcell j hj 3 (by decide), hcell j hj 4 (by decide), hcell j hj 5 (by decide), hcell j hj 6 (by decide), hcell j hj 7 (by decide), hcell j hj 8 (by decide), hcell j hj 9 (by decide), hcell j hj 10 (by decide), hcell j hj 11 (by decide), hcell j hj 12 (by decide), hcell j hj 13 (by decide)⟩
 have h0 := hcell j hj 0 (by decide)
 rw [show (blC es[j])[0]? = some es[j].1 from rfl, he] at h0
 rw [he]
 exact h0
theorem RM.words {rb n0 n1 : Nat} {g : Nat -> Value} {qs : List ArV} {ls : List LoV} {init : List BlE} {last : Option BlE} {W : World} (h : RM rb n0 n1 g qs ls init last W) (hnm : ∀ a, a ∈ qs -> a.1.size <= 9223372036854775807) (hil : ∀ e, e ∈ init ++ last.toList -> e.2.1.length <= 65536) :
 ∃ A1 c1 A2 c2 A3 c3, g 5 = .slice A1 qs.length c1 /\ g 6 = .slice A2 ls.length c2 /\ g 7 = .slice A3 (init ++ last.toList).length c3 /\
  CodeM qs.length ls.length (init ++ last.toList).length A1 A2 A3 (fun j => (qs.getD j noA).1) (fun j => (qs.getD j noA).2.1) (fun j => (qs.getD j noA).2.2.1) (fun j => (qs.getD j noA).2.2.2) (fun j => (ls.getD j noL).1) (fun j => (ls.getD j noL).2.1) (fun j => (ls.getD j noL).2.2)
   (fun j => adr ((init ++ last.toList).getD j noE).1) (fun j => ((init ++ last.toList).getD j noE).2.1.length) (fun j => cpc ((init ++ last.toList).getD j noE).1) (fun j i => ((init ++ last.toList).getD j noE).2.1.getD i noI) (fun j => ((init ++ last.toList).getD j noE).2.2) W W.heap.size := by
 obtain ⟨A1, c1, h1, r1⟩ := rar_of h.arr
 obtain ⟨A2, c2, h2, r2⟩ := rlo_of h.loops
 have hrow : ∀ e, e ∈ init ++ last.toList -> W.ownsRow n0 61 15 e.1 e.2.1.length (flatI e.2.1) := by
  intro e he
  rw [List.mem_append] at he
  rcases he with he | he
  . exact (h.old e he).1
  . have : last = some e := by cases last with
     | none => cases he
     | some x => simp [Option.toList] at he; rw [he]
    exact (h.new e this).mono h.hn.1
 obtain ⟨A3, c3, h3, r3⟩ := rbl_of h.blocks (fun e he => by
  obtain ⟨A, c, hv, _⟩ := rin_of (hrow e he)
  exact ⟨A, c, hv⟩)
 refine ⟨A1, c1, A2, c2, A3, c3, h1, h2, h3, r1, r2, r3, fun j hj => ?_, fun j hj => ?_, fun j => ?_⟩
 . obtain ⟨A, c, hv, hr⟩ := rin_of (hrow _ (List.getElem_mem hj))
   simp only [getD_of _ _ _ hj]
   rw [hv]
   exact hr
 . simp only [getD_of _ _ _ hj]
   exact hil _ (List.getElem_mem hj)
 . show (qs.getD j noA).1.size <= _
   by_cases hj : j < qs.length
   . rw [getD_of _ _ _ hj]
     exact hnm _ (List.getElem_mem hj)
   . rw [List.getD_eq_getElem?_getD, List.getElem?_eq_none (by omega)]
     decide
def cd0 : CdV := ⟨[], [], [], fun _ => 0⟩
def trimL (l : ByteArray) : ByteArray := ⟨(Lib.trimSuffix l.data.toList [10]).toArray⟩
def readK (s : ByteArray) : Nat -> CdV
 | 0 => cd0
 | k + 1 => lineV (readK s k) (cutL (trimL (lineN s k)))
def readV (s : ByteArray) : CdV := readK s (nLines s)
theorem trimL_size (l : ByteArray) : (trimL l).size <= l.size := by
 show (Array.size _) <= _
 unfold Lib.trimSuffix
 rw [Lib.size_eq]
 split
 . simp
 . simp
theorem splitB_size : ∀ (l : List UInt8), (splitB l).length <= l.length + 1 /\ ∀ x, x ∈ splitB l -> x.length <= l.length
 | [] => ⟨by simp [splitB], by simp [splitB]⟩
 | c :: r => by
  obtain ⟨h1, h2⟩ := splitB_size r
  by_cases hc : c = 32
  . rw [splitB, if_pos hc]
    refine ⟨by simp; omega, fun x hx => ?_⟩
    rcases List.mem_cons.1 hx with rfl | hx
    . simp
    . have := h2 x hx
      simp; omega
  . rw [splitB, if_neg hc]
    cases e : splitB r with
    | nil =>
     refine ⟨by simp, fun x hx => ?_⟩
     rw [List.mem_singleton] at hx
     subst hx
     simp
    | cons y ys =>
     rw [e] at h1 h2
     refine ⟨by simp at h1 ⊢; omega, fun x hx => ?_⟩
     rcases List.mem_cons.1 hx with rfl | hx
     . have := h2 y (by simp)
       simp; omega
     . have := h2 x (List.mem_cons_of_mem _ hx)
       simp; omega
theorem cutL_size (s : ByteArray) : (cutL s).length <= s.size + 1 /\ ∀ x, x ∈ cutL s -> x.size <= s.size := by
 obtain ⟨h1, h2⟩ := splitB_size s.data.toList
 rw [<- Lib.size_eq] at h1 h2
 refine ⟨by unfold cutL; simpa using h1, fun x hx => ?_⟩
 unfold cutL at hx
 obtain ⟨l, hl, rfl⟩ := List.mem_map.1 hx
 exact h2 l hl
def cntW (x : Array UInt8) : Nat -> Nat
 | 0 => 0
 | k + 1 => cntW x k + if (instF ((k : Int) + 1)).word = x then 1 else 0
theorem cntW_zero {x : Array UInt8} : ∀ {k : Nat}, (∀ i, i < k -> (instF ((i : Int) + 1)).word ≠ x) -> cntW x k = 0
 | 0, _ => rfl
 | k + 1, h => by rw [cntW, cntW_zero (fun i hi => h i (by omega)), if_neg (h k (by omega))]
theorem cntW_one (x : Array UInt8) : cntW x 12 <= 1 := by
 by_cases h : ∃ i : Nat, i < 12 /\ (instF ((i : Int) + 1)).word = x
 . obtain ⟨i, hi, rfl⟩ := h
   have : i = 0 \/ i = 1 \/ i = 2 \/ i = 3 \/ i = 4 \/ i = 5 \/ i = 6 \/ i = 7 \/ i = 8 \/ i = 9 \/ i = 10 \/ i = 11 := by omega
   rcases this with rfl | rfl | rfl | rfl | rfl | rfl | rfl | rfl | rfl | rfl | rfl | rfl <;> decide +kernel
 . rw [cntW_zero (fun i hi e => h ⟨i, hi, e⟩)]
   omega
theorem stI_cnt (wd : ByteArray) (fs : List ByteArray) (is : List InstV) : ∀ k, (stI wd fs is k).2.length = is.length + cntW wd.data k
 | 0 => rfl
 | k + 1 => by
  have h := stI_cnt wd fs is k
  unfold stI
  simp only
  rw [cntW]
  split
  . rw [List.length_append, h]; rfl
  . rw [h]; omega
theorem stI_len (wd : ByteArray) (fs : List ByteArray) (is : List InstV) : (stI wd fs is 12).2.length <= is.length + 1 := by
 have := cntW_one wd.data
 rw [stI_cnt]
 omega
structure Small (c : CdV) (k : Nat) : Prop where
 q : c.q.length <= k
 l : c.l.length <= k
 b : c.b.length <= k
 i : ∀ e, e ∈ c.b -> e.1.length <= k
theorem lineV_small {c : CdV} {k : Nat} (h : Small c k) (fs : List ByteArray) : Small (lineV c fs) (k + 1) := by
 obtain ⟨h1, h2, h3, h4⟩ := h
 have h5 : ∀ e, e ∈ c.b -> e.1.length <= k + 1 := fun e he => by have := h4 e he; omega
 unfold lineV
 split
 . exact ⟨by simp only; omega, by simp only; omega, by simp only; omega, h5⟩
 split
 . exact ⟨by simp; omega, by simp only; omega, by simp only; omega, h5⟩
 split
 . exact ⟨by simp only; omega, by simp; omega, by simp only; omega, h5⟩
 split
 . refine ⟨by simp only; omega, by simp only; omega, by simp; omega, fun e he => ?_⟩
   rcases List.mem_append.1 he with he | he
   . exact h5 e he
   . rw [List.mem_singleton] at he
     subst he
     simp
 cases hb : c.b.getLast? with
 | none => exact ⟨by simp only; omega, by simp only; omega, by simp only; omega, h5⟩
 | some e0 =>
  have he0 : e0 ∈ c.b := List.mem_of_getLast? hb
  refine ⟨by simp only; omega, by simp only; omega, by simp; omega, fun e he => ?_⟩
  rcases List.mem_append.1 he with he | he
  . exact h5 e ((List.dropLast_sublist _).subset he)
  . rw [List.mem_singleton] at he
    subst he
    have a := stI_len (fldV fs) fs.tail e0.1
    have b := h4 e0 he0
    show (stI (fldV fs) fs.tail e0.1 12).2.length <= _
    omega
theorem readK_small (s : ByteArray) : ∀ k, Small (readK s k) k
 | 0 => ⟨by simp [readK, cd0], by simp [readK, cd0], by simp [readK, cd0], by simp [readK, cd0]⟩
 | k + 1 => lineV_small (readK_small s k) _
theorem fld_size {fs : List ByteArray} {n : Nat} (h : ∀ x, x ∈ fs -> x.size <= n) : (fldV fs).size <= n := by
 unfold fldV
 cases fs with
 | nil => exact Nat.zero_le _
 | cons x xs => exact h x (by simp)
theorem lineV_names {c : CdV} {n : Nat} (h : ∀ a, a ∈ c.q -> a.1.size <= n) {fs : List ByteArray} (hf : ∀ x, x ∈ fs -> x.size <= n) : ∀ a, a ∈ (lineV c fs).q -> a.1.size <= n := by
 unfold lineV
 split
 . exact h
 split
 . intro a ha
   rcases List.mem_append.1 ha with ha | ha
   . exact h a ha
   . rw [List.mem_singleton] at ha
     subst ha
     exact fld_size (fun x hx => hf x (List.mem_of_mem_tail hx))
 split
 . exact h
 split
 . exact h
 cases hb : c.b.getLast? with
 | none => exact h
 | some e => exact h
theorem line_fields (s : ByteArray) (k : Nat) : ∀ x, x ∈ cutL (trimL (lineN s k)) -> x.size <= s.size := fun x hx => by
 have h1 := (cutL_size (trimL (lineN s k))).2 x hx
 have h2 := trimL_size (lineN s k)
 have h3 := lineN_size s k
 omega
theorem line_len (s : ByteArray) (k : Nat) : (cutL (trimL (lineN s k))).length <= s.size + 1 := by
 have h1 := (cutL_size (trimL (lineN s k))).1
 have h2 := trimL_size (lineN s k)
 have h3 := lineN_size s k
 omega
theorem readK_names (s : ByteArray) : ∀ k, ∀ a, a ∈ (readK s k).q -> a.1.size <= s.size
 | 0 => by simp [readK, cd0]
 | k + 1 => lineV_names (readK_names s k) (line_fields s k)
structure CdA where
 a1 : Option Addr
 c1 : Nat
 a2 : Option Addr
 c2 : Nat
 a3 : Option Addr
 c3 : Nat
 ia : Nat -> Option Addr
 ic : Nat -> Nat
def noB : List InstV × TermV := ([], zeroT)
section
variable (c : CdV)
def CdV.nm (j : Nat) : ByteArray := (c.q.getD j noA).1
def CdV.sp (j : Nat) : Int := (c.q.getD j noA).2.1
def CdV.ty (j : Nat) : Int := (c.q.getD j noA).2.2.1
def CdV.ln (j : Nat) : Int := (c.q.getD j noA).2.2.2
def CdV.hd (j : Nat) : Int := (c.l.getD j noL).1
def CdV.rg (j : Nat) : Int := (c.l.getD j noL).2.1
def CdV.bd (j : Nat) : Int := (c.l.getD j noL).2.2
def CdV.il (j : Nat) : Nat := (c.b.getD j noB).1.length
def CdV.is (j i : Nat) : InstV := (c.b.getD j noB).1.getD i noI
def CdV.te (j : Nat) : TermV := (c.b.getD j noB).2
end
def CdM (c : CdV) (a : CdA) (w : World) : Prop := CodeM c.q.length c.l.length c.b.length a.a1 a.a2 a.a3 c.nm c.sp c.ty c.ln c.hd c.rg c.bd a.ia c.il a.ic c.is c.te w w.heap.size
def cdval (c : CdV) (a : CdA) : Value := .agg #[(c.n 0), (c.n 1), (c.n 2), (c.n 3), (c.n 4), .slice a.a1 c.q.length a.c1, .slice a.a2 c.l.length a.c2, .slice a.a3 c.b.length a.c3]
theorem CdM.on {c : CdV} {a : CdA} {w W : World} (h : CdM c a w) (hb : Below w.heap.size w W) : CdM c a W := CodeM.at h hb
def chkC (c : CdV) : Int := checkE (c.n 0) (c.n 1) (c.n 2) (c.n 3) (c.n 4) c.q.length c.l.length c.b.length c.nm c.sp c.ty c.ln c.hd c.rg c.bd c.il c.is c.te
def txtC (c : CdV) : List UInt8 := textT (c.n 0) (c.n 1) (c.n 2) (c.n 3) (c.n 4) c.q.length c.l.length c.b.length c.nm c.sp c.ty c.ln c.hd c.rg c.bd c.il c.is c.te
def CdV.Fits (c : CdV) : Prop := c.q.length <= 65536 /\ c.l.length <= 65536 /\ c.b.length <= 65536
def CdV.Rng (c : CdV) : Prop := CodeR (c.n 0) (c.n 1) (c.n 2) (c.n 3) (c.n 4) c.b.length c.sp c.ty c.ln c.hd c.rg c.bd c.il c.is c.te
theorem Check_c (c : CdV) (a : CdA) (w : World) (h : CdM c a w) (hf : c.Fits) :
 Calls Tryz.prog 17 #[cdval c a] w fun e w' => e = .returned (.int .i64 (chkC c)) /\ Below w.heap.size w w' :=
 Check_any _ _ _ _ _ _ _ _ _ _ _ _ _ _ _ _ _ _ _ _ _ _ _ _ _ _ w h (by have := hf.1; omega) (by have := hf.2.1; omega) (by have := hf.2.2; omega)
theorem Text_cerr (c : CdV) (a : CdA) (w : World) (h : CdM c a w) (hf : c.Fits) (hz : chkC c ≠ 0) :
 Calls Tryz.prog 15 #[cdval c a] w fun e w' => e = .returned (.tuple #[.string ⟨#[]⟩, (chkC c)]) /\ Below w.heap.size w w' :=
 Text_err _ _ _ _ _ _ _ _ _ _ _ _ _ _ _ _ _ _ _ _ _ _ _ _ _ _ w h (by have := hf.1; omega) (by have := hf.2.1; omega) (by have := hf.2.2; omega) hz
theorem Text_cok (c : CdV) (a : CdA) (w : World) (h : CdM c a w) (hf : c.Fits) (hr : c.Rng) (hE : EnvT w) (hz : chkC c = 0) :
 Calls Tryz.prog 15 #[cdval c a] w fun e w' => e = .returned (.tuple #[.string ⟨(txtC c).toArray⟩, (0:Int)]) /\ Below w.heap.size w w' :=
 Text_ok _ _ _ _ _ _ _ _ _ _ _ _ _ _ _ _ _ _ _ _ _ _ _ _ _ _ w h hr hE hz (by have := hf.1; omega) (by have := hf.2.1; omega) (by have := hf.2.2; omega)
def reachC (c : CdV) : Nat -> Bool := reachV c.b.length c.te
theorem Reach_c (c : CdV) (a : CdA) (w : World) (h : CdM c a w) (hf : c.Fits) :
 Calls Tryz.prog 19 #[cdval c a] w fun e w' => e = .returned (.slice (some ⟨w.heap.size + 1, 0, none⟩) c.b.length c.b.length) /\ w'.rowIs (w.heap.size + 1) 4 c.b.length (fun j => .bool (reachC c j)) /\ Below w.heap.size w w' :=
 Reach_any _ _ _ _ _ _ _ _ _ _ _ _ _ _ _ _ _ _ w h.blocks hf.2.2
def sameCd (c d : CdV) : Bool := sameC (sameHd (c.n 0) (c.n 1) (c.n 2) (c.n 3) (c.n 4) (d.n 0) (d.n 1) (d.n 2) (d.n 3) (d.n 4) c.q.length c.l.length d.q.length d.l.length c.nm d.nm c.sp c.ty c.ln d.sp d.ty d.ln c.hd c.rg c.bd d.hd d.rg d.bd) c.b.length d.b.length c.il d.il c.is d.is c.te d.te
theorem Same_c (c d : CdV) (a b : CdA) (w : World) (h : CdM c a w) (k : CdM d b w) (hf : c.Fits) (kf : d.Fits) :
 Calls Tryz.prog 33 #[cdval c a, cdval d b] w fun e w' => e = .returned (.bool (sameCd c d)) /\ Below w.heap.size w w' :=
 Same_any _ _ _ _ _ _ _ _ _ _ _ _ _ _ _ _ _ _ _ _ _ _ _ _ _ _ _ _ _ _ _ _ _ _ _ _ _ _ _ _ _ _ _ _ _ _ _ _ _ _ _ _ w hf.1 hf.2.1 hf.2.2 kf.2.2 h.arr k.arr h.loops k.loops h.blocks k.blocks (fun j hj => ⟨h.insts j hj, h.lens j hj⟩) (fun j hj => ⟨k.insts j hj, k.lens j hj⟩)
def K36 (W W' : World) : Prop := Kept (. ≠ 36) W W' /\ W.heap.size <= W'.heap.size
theorem K36.refl (W : World) : K36 W W := ⟨fun _ _ _ _ _ _ => rfl, Nat.le_refl _⟩
theorem K36.trans {A B C : World} (h : K36 A B) (k : K36 B C) : K36 A C :=
 ⟨fun i D T fr hi hT => (k.1 i D T fr ((h.1 i D T fr hi hT).trans hi) hT).trans (h.1 i D T fr hi hT), Nat.le_trans h.2 k.2⟩
theorem K36.set {W : World} {b : Nat} {C : Array Value} {fr : Nat × Nat} (hb : W.heap[b]? = some (.cells C 36 fr)) (o : Nat) (u : Value) : K36 W (W.setCell ⟨b, o, none⟩ u) := by
 refine ⟨fun k D T f hk hT => Below.heap_setCell W ⟨b, o, none⟩ u k ?_, by simp [World.setCell]⟩
 rintro rfl
 rw [hb] at hk
 injection hk with hk
 injection hk with _ h2 _
 exact hT h2.symm
theorem K36.below {W W' : World} (h : Below W.heap.size W W') : K36 W W' := ⟨fun k _ _ _ hk _ => h.block k (Array.getElem?_eq_some_iff.1 hk).1, h.size⟩
theorem K36.put {W : World} {D : Nat} {o o' : Obj} (h : W.heap[D]? = some o) (ho : o.isCells = false) : K36 W (W.putObj D o') :=
 ⟨fun k C T fr hk _ => World.putObj_heap_other (fun e => by subst e; rw [hk] at h; cases h; cases ho), by simp⟩
def CdK (c : CdV) (a : CdA) (W : World) : Prop := ∀ W', K36 W W' -> CdM c a W'
theorem CdK.mem {c : CdV} {a : CdA} {W : World} (h : CdK c a W) : CdM c a W := h W (K36.refl W)
theorem CdK.k {c : CdV} {a : CdA} {W W' : World} (h : CdK c a W) (k : K36 W W') : CdK c a W' := fun V hV => h V (k.trans hV)
theorem CdK.on {c : CdV} {a : CdA} {W W' : World} (h : CdK c a W) (k : Below W.heap.size W W') : CdK c a W' := h.k (K36.below k)
section
variable {rb n0 n1 : Nat} {g : Nat -> Value} {qs : List ArV} {ls : List LoV} {init : List BlE} {last : Option BlE} {W W' : World}
theorem RM.k36 (h : RM rb n0 n1 g qs ls init last W) (hk : K36 W W') : RM rb n0 n1 g qs ls init last W' := by
 obtain ⟨hk, hs⟩ := hk
 refine ⟨?_, row_kept h.arr hk (by decide), row_kept h.loops hk (by decide), row_kept h.blocks hk (by decide), fun e he => ⟨row_kept (h.old e he).1 hk (by decide), (h.old e he).2⟩, fun e he => row_kept (h.new e he) hk (by decide), ?_⟩
 . obtain ⟨c, hc, _⟩ := id h.row
   exact h.row.of_block (hk _ _ _ _ hc (by decide))
 . have := h.hn
   omega
end
theorem getD_map_snd (es : List BlE) (j : Nat) : (es.map (·.2)).getD j noB = (es.getD j noE).2 := by
 rw [List.getD_eq_getElem?_getD, List.getElem?_map, List.getD_eq_getElem?_getD]
 cases es[j]? with
 | none => rfl
 | some e => rfl
theorem HC.code {rb n0 : Nat} {c : CdV} {W : World} (h : HC rb n0 c W) (hq : ∀ a, a ∈ c.q -> a.1.size <= 9223372036854775807) (hb : ∀ e, e ∈ c.b -> e.1.length <= 65536) :
 ∃ a g, W.rowIs rb 166 9 g /\ (∀ j, j < 5 -> g j = .int .i64 (c.n j)) /\ g 5 = .slice a.a1 c.q.length a.c1 /\ g 6 = .slice a.a2 c.l.length a.c2 /\ g 7 = .slice a.a3 c.b.length a.c3 /\ CdK c a W := by
 obtain ⟨n1, g, init, last, h1, h2, h3, h4⟩ := h
 have hlen : (init ++ last.toList).length = c.b.length := by rw [<- h3, List.length_map]
 have hil : ∀ e, e ∈ init ++ last.toList -> e.2.1.length <= 65536 := fun e he => hb e.2 (by rw [<- h3]; exact List.mem_map.2 ⟨e, he, rfl⟩)
 obtain ⟨A1, c1, A2, c2, A3, c3, g5, g6, g7, hw⟩ := h1.words hq hil
 rw [hlen] at g7
 refine ⟨⟨A1, c1, A2, c2, A3, c3, fun j => adr ((init ++ last.toList).getD j noE).1, fun j => cpc ((init ++ last.toList).getD j noE).1⟩, g, h1.row, h4, g5, g6, g7, fun W' hk => ?_⟩
 obtain ⟨B1, d1, B2, d2, B3, d3, k5, k6, k7, kw⟩ := (h1.k36 hk).words hq hil
 rw [hlen] at k7 kw
 rw [g5] at k5
 rw [g6] at k6
 rw [g7] at k7
 injection k5 with e1 _ e2
 injection k6 with e3 _ e4
 injection k7 with e5 _ e6
 subst e1 e2 e3 e4 e5 e6
 have hx : ∀ j, ((init ++ last.toList).getD j noE).2 = c.b.getD j noB := fun j => by rw [<- h3, getD_map_snd]
 unfold CdM
 have e1 : c.il = fun j => ((init ++ last.toList).getD j noE).2.1.length := by funext j; rw [hx]; rfl
 have e2 : c.is = fun j i => ((init ++ last.toList).getD j noE).2.1.getD i noI := by funext j i; rw [hx]; rfl
 have e3 : c.te = fun j => ((init ++ last.toList).getD j noE).2.2 := by funext j; rw [hx]; rfl
 rw [e1, e2, e3]
 exact kw
theorem atoiV_rng (l : List UInt8) : I64 (atoiV l) := by
 unfold atoiV
 split
 . rename_i v h
   exact Lib.atoiAll_bounds h
 . unfold Lib.atoiSat
   split
   . exact ⟨by decide, by decide⟩
   . exact ⟨by decide, by decide⟩
 . exact ⟨by decide, by decide⟩
theorem zero_rng : I64 0 := ⟨by decide, by decide⟩
theorem noOpd_rng : noOpd.Rng := ⟨zero_rng, ⟨by decide, by decide⟩⟩
theorem opdR_rng (s : ByteArray) : (opdR s).Rng := by
 unfold opdR
 split
 . exact ⟨atoiV_rng _, ⟨show (-2147483648 : Int) <= 0 by decide, show (0 : Int) <= 2147483647 by decide⟩⟩
 . exact ⟨zero_rng, pintV_rng _⟩
theorem ite_rng {b : Bool} {l : List UInt8} : I64 (if b then atoiV l else 0) := by
 split
 . exact atoiV_rng _
 . exact zero_rng
theorem iteO_rng {b : Bool} {s : ByteArray} : (if b then opdR s else noOpd).Rng := by
 split
 . exact opdR_rng _
 . exact noOpd_rng
theorem rdV_rng (f : FormV) (fs : List ByteArray) : (rdV f fs).Rng := ⟨ite_rng, ite_rng, iteO_rng, iteO_rng, iteO_rng, iteO_rng, ite_rng, ite_rng⟩
theorem stI_rng (wd : ByteArray) (fs : List ByteArray) (is : List InstV) (h : ∀ x, x ∈ is -> x.parts.Rng) : ∀ k, ∀ x, x ∈ (stI wd fs is k).2 -> x.parts.Rng
 | 0 => h
 | k + 1 => by
  have hk := stI_rng wd fs is h k
  unfold stI
  simp only
  split
  . intro x hx
    rcases List.mem_append.1 hx with hx | hx
    . exact hk x hx
    . rw [List.mem_singleton] at hx
      subst hx
      have r := rdV_rng (instF ((k : Int) + 1)) (stI wd fs is k).1
      exact ⟨r.sub, r.n, r.d, r.a, r.b, r.c, zero_rng, zero_rng⟩
  . exact hk
theorem stT_rng (wd : ByteArray) (fs : List ByteArray) (t : TermV) (h : t.parts.Rng) : ∀ k, (stT wd fs t k).2.parts.Rng
 | 0 => h
 | k + 1 => by
  have hk := stT_rng wd fs t h k
  unfold stT
  simp only
  split
  . have r := rdV_rng (endF ((k : Int) + 1)) (stT wd fs t k).1
    exact ⟨r.sub, zero_rng, r.d, r.a, r.b, noOpd_rng, r.t0, r.t1⟩
  . exact hk
structure CdOk (c : CdV) : Prop where
 n : ∀ j, I64 (c.n j)
 q : ∀ a, a ∈ c.q -> I64 a.2.1 /\ I64 a.2.2.1 /\ I64 a.2.2.2
 l : ∀ a, a ∈ c.l -> I64 a.1 /\ I64 a.2.1 /\ I64 a.2.2
 i : ∀ e, e ∈ c.b -> ∀ x, x ∈ e.1 -> x.parts.Rng
 t : ∀ e, e ∈ c.b -> e.2.parts.Rng
theorem zeroT_rng : zeroT.parts.Rng := ⟨zero_rng, zero_rng, noOpd_rng, noOpd_rng, noOpd_rng, noOpd_rng, zero_rng, zero_rng⟩
theorem CdOk.rng {c : CdV} (h : CdOk c) : c.Rng := by
 refine ⟨⟨h.n 0, h.n 1, h.n 2, h.n 3, h.n 4⟩, fun j => ?_, fun j => ?_, fun j k hj hk => ?_, fun j hj => ?_⟩
 . unfold CdV.sp CdV.ty CdV.ln
   by_cases hj : j < c.q.length
   . rw [getD_of _ _ _ hj]
     exact h.q _ (List.getElem_mem hj)
   . rw [List.getD_eq_getElem?_getD, List.getElem?_eq_none (by omega)]
     exact ⟨zero_rng, zero_rng, zero_rng⟩
 . unfold CdV.hd CdV.rg CdV.bd
   by_cases hj : j < c.l.length
   . rw [getD_of _ _ _ hj]
     exact h.l _ (List.getElem_mem hj)
   . rw [List.getD_eq_getElem?_getD, List.getElem?_eq_none (by omega)]
     exact ⟨zero_rng, zero_rng, zero_rng⟩
 . unfold CdV.il at hk
   unfold CdV.is
   rw [getD_of _ _ _ hj] at hk ⊢
   rw [getD_of _ _ _ hk]
   exact h.i _ (List.getElem_mem hj) _ (List.getElem_mem hk)
 . unfold CdV.te
   rw [getD_of _ _ _ hj]
   exact h.t _ (List.getElem_mem hj)
theorem lineV_ok {c : CdV} (h : CdOk c) (fs : List ByteArray) : CdOk (lineV c fs) := by
 unfold lineV
 split
 . refine ⟨fun j => ?_, h.q, h.l, h.i, h.t⟩
   simp only
   split
   . exact atoiV_rng _
   . exact h.n j
 split
 . refine ⟨h.n, fun a ha => ?_, h.l, h.i, h.t⟩
   rcases List.mem_append.1 ha with ha | ha
   . exact h.q a ha
   . rw [List.mem_singleton] at ha
     subst ha
     exact ⟨atoiV_rng _, atoiV_rng _, atoiV_rng _⟩
 split
 . refine ⟨h.n, h.q, fun a ha => ?_, h.i, h.t⟩
   rcases List.mem_append.1 ha with ha | ha
   . exact h.l a ha
   . rw [List.mem_singleton] at ha
     subst ha
     exact ⟨atoiV_rng _, atoiV_rng _, atoiV_rng _⟩
 split
 . refine ⟨h.n, h.q, h.l, fun e he => ?_, fun e he => ?_⟩
   . rcases List.mem_append.1 he with he | he
     . exact h.i e he
     . rw [List.mem_singleton] at he
       subst he
       intro x hx
       cases hx
   . rcases List.mem_append.1 he with he | he
     . exact h.t e he
     . rw [List.mem_singleton] at he
       subst he
       exact zeroT_rng
 cases hb : c.b.getLast? with
 | none => exact h
 | some e0 =>
  have he0 : e0 ∈ c.b := List.mem_of_getLast? hb
  refine ⟨h.n, h.q, h.l, fun e he => ?_, fun e he => ?_⟩
  . rcases List.mem_append.1 he with he | he
    . exact h.i e ((List.dropLast_sublist _).subset he)
    . rw [List.mem_singleton] at he
      subst he
      exact stI_rng _ _ _ (h.i e0 he0) _
  . rcases List.mem_append.1 he with he | he
    . exact h.t e ((List.dropLast_sublist _).subset he)
    . rw [List.mem_singleton] at he
      subst he
      exact stT_rng _ _ _ (h.t e0 he0) _
theorem readK_ok (s : ByteArray) : ∀ k, CdOk (readK s k)
 | 0 => ⟨fun _ => zero_rng, by simp [readK, cd0], by simp [readK, cd0], by simp [readK, cd0], by simp [readK, cd0]⟩
 | k + 1 => lineV_ok (readK_ok s k) _
theorem readK_fits (s : ByteArray) (hs : s.size <= 65536) : (readV s).Fits := by
 have h := readK_small s (nLines s)
 have hn := nLines_le s
 exact ⟨by have := h.q; show (readK s (nLines s)).q.length <= _; omega, by have := h.l; show (readK s (nLines s)).l.length <= _; omega, by have := h.b; show (readK s (nLines s)).b.length <= _; omega⟩
end Go.Proofs.YtkncilgmlkeifaaGreatDoor
