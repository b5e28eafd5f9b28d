/-
  Words and contracts for LaunchMatchesReference: the boxes of the law, and what the calls leave of them.
-/
import Derived.Test.YtjknmancnfeifaaNumL
import Derived.Test.YtjknmancnfeifaaRch
import Derived.Test.YtjknmancnfeifaaRid
set_option linter.unusedVariables false
set_option linter.unusedSimpArgs false
namespace Go.Proofs.Ytjknmancnfeifaa
open Go.ChangeShapes Go.WideShapes Go.ChangeAt Go.RowKit

/-- Block b is two numbers. -/
def At2 (w : World) (b : Nat) (x y : Int) : Prop := w.heap[b]? = some (.cells #[.int .i64 x, .int .i64 y] 28 (0, 0))
section
variable {w w' : World} {b : Nat} {g s p x y : Int} {v : Value}
theorem At2.c0 (h : At2 w b x y) : w.cell? ⟨b, 0, none⟩ = some (.int .i64 x) := by unfold At2 at h; simp [World.cell?, h]
theorem At2.c1 (h : At2 w b x y) : w.cell? ⟨b, 1, none⟩ = some (.int .i64 y) := by unfold At2 at h; simp [World.cell?, h]
theorem At2.lt (h : At2 w b x y) : b < w.heap.size := lt_of_block h
theorem At2.of_block (h : At2 w b x y) (e : w'.heap[b]? = w.heap[b]?) : At2 w' b x y := e.trans h
theorem Cd.set1 (h : Cd w b g s p v) (u : Int) : Cd (w.setCell ⟨b, 1, none⟩ (.int .i64 u)) b g u p v := by
  unfold Cd at h ⊢
  simp [World.setCell, Array.getElem?_modify, h]
end
/-- The boxes: code, its launch, the launch that came in, the odd code, the two numbers. -/
structure ML (w : World) (B8 B9 B4 B10 B5 : Nat) (g s gr gl x y : Int) (p na ca c3 nl cl : Nat) (AA AR AL : Option Addr) (W : World) : Prop where
  cd : Cd W B8 g s p (.slice AA na ca)
  lb : Lb W B9 gr (.slice AR p c3)
  ll : Lb W B4 gl (.slice AL nl cl)
  od : Cd W B10 x y p (.slice AA na ca)
  at2 : At2 W B5 x y
  bel : Below w.heap.size w W
section
variable {w W W' : World} {B8 B9 B4 B10 B5 : Nat} {g s gr gl x y : Int} {p na ca c3 nl cl : Nat} {AA AR AL : Option Addr}
theorem ML.on (h : ML w B8 B9 B4 B10 B5 g s gr gl x y p na ca c3 nl cl AA AR AL W) (hb : Below W.heap.size W W') : ML w B8 B9 B4 B10 B5 g s gr gl x y p na ca c3 nl cl AA AR AL W' :=
  ⟨h.cd.on hb, h.lb.of_block (hb.block _ h.lb.lt), h.ll.of_block (hb.block _ h.ll.lt), h.od.on hb, h.at2.of_block (hb.block _ h.at2.lt), h.bel.trans (hb.mono h.bel.size)⟩
theorem ML.drew (h : ML w B8 B9 B4 B10 B5 g s gr gl x y p na ca c3 nl cl AA AR AL W) : ML w B8 B9 B4 B10 B5 g s gr gl x y p na ca c3 nl cl AA AR AL W.drew := h.on (Below.refl _ _).drew
theorem ML.alloc {o : Obj} (h : ML w B8 B9 B4 B10 B5 g s gr gl x y p na ca c3 nl cl AA AR AL W) : ML w B8 B9 B4 B10 B5 g s gr gl x y p na ca c3 nl cl AA AR AL (W.alloc o) := h.on ((Below.refl _ _).alloc (Nat.le_refl _) o)
abbrev MLS (w : World) (B8 B9 B4 B10 B5 : Nat) (g s gr gl x y : Int) (p na ca c3 nl cl : Nat) (AA AR AL : Option Addr) (W : World) : Prop :=
  W.cell? ⟨B8, 0, none⟩ = some (.int .i64 g) ∧ W.cell? ⟨B8, 1, none⟩ = some (.int .i64 s) ∧ W.cell? ⟨B8, 2, none⟩ = some (.int .i64 0) ∧ W.cell? ⟨B8, 3, none⟩ = some (.int .i64 0) ∧ W.cell? ⟨B8, 4, none⟩ = some (.int .i64 p) ∧ W.cell? ⟨B8, 5, none⟩ = some (.slice AA na ca) ∧ W.cell? ⟨B8, 6, none⟩ = some (.slice none 0 0) ∧ W.cell? ⟨B8, 7, none⟩ = some (.slice none 0 0) ∧
  W.cell? ⟨B9, 0, none⟩ = some (.int .i64 gr) ∧ W.cell? ⟨B9, 1, none⟩ = some (.slice AR p c3) ∧ W.cell? ⟨B4, 0, none⟩ = some (.int .i64 gl) ∧ W.cell? ⟨B4, 1, none⟩ = some (.slice AL nl cl) ∧
  W.cell? ⟨B10, 0, none⟩ = some (.int .i64 x) ∧ W.cell? ⟨B10, 1, none⟩ = some (.int .i64 y) ∧ W.cell? ⟨B10, 2, none⟩ = some (.int .i64 0) ∧ W.cell? ⟨B10, 3, none⟩ = some (.int .i64 0) ∧ W.cell? ⟨B10, 4, none⟩ = some (.int .i64 p) ∧ W.cell? ⟨B10, 5, none⟩ = some (.slice AA na ca) ∧ W.cell? ⟨B10, 6, none⟩ = some (.slice none 0 0) ∧ W.cell? ⟨B10, 7, none⟩ = some (.slice none 0 0) ∧
  ML w B8 B9 B4 B10 B5 g s gr gl x y p na ca c3 nl cl AA AR AL W
theorem ML.all (h : ML w B8 B9 B4 B10 B5 g s gr gl x y p na ca c3 nl cl AA AR AL W) : MLS w B8 B9 B4 B10 B5 g s gr gl x y p na ca c3 nl cl AA AR AL W :=
  ⟨h.cd.c0, h.cd.c1, h.cd.c2, h.cd.c3, h.cd.c4, h.cd.c5, h.cd.c6, h.cd.c7, h.lb.c0, h.lb.c1, h.ll.c0, h.ll.c1, h.od.c0, h.od.c1, h.od.c2, h.od.c3, h.od.c4, h.od.c5, h.od.c6, h.od.c7, h⟩
theorem ML.of (h : MLS w B8 B9 B4 B10 B5 g s gr gl x y p na ca c3 nl cl AA AR AL W) : ML w B8 B9 B4 B10 B5 g s gr gl x y p na ca c3 nl cl AA AR AL W := h.2.2.2.2.2.2.2.2.2.2.2.2.2.2.2.2.2.2.2.2
theorem check_M (h : ML w B8 B9 B4 B10 B5 g s gr gl x y p na ca c3 nl cl AA AR AL W) (g' s' p' gr' : Int) (n1 c1 na' ca' : Nat) (A1 A2 : Option Addr) :
    Calls Try.prog 12 #[.agg #[.int .i64 g', .int .i64 s', .int .i64 0, .int .i64 0, .int .i64 p', .slice A1 n1 c1, .slice none 0 0, .slice none 0 0], .agg #[.int .i64 gr', .slice A2 na' ca']] W fun e w' => e = .returned (.int .i64 (chkV g' s' p' gr' na')) ∧ ML w B8 B9 B4 B10 B5 g s gr gl x y p na ca c3 nl cl AA AR AL w' :=
  (Check_any g' s' 0 0 p' gr' n1 c1 0 0 0 0 na' ca' A1 none none A2 W).mono fun e w' ⟨he, hb⟩ => ⟨he, h.on hb⟩
theorem rcheck_M (h : ML w B8 B9 B4 B10 B5 g s gr gl x y p na ca c3 nl cl AA AR AL W) (g' s' p' gr' : Int) (n1 c1 na' ca' : Nat) (A1 A2 : Option Addr) :
    Calls Try.prog 13 #[.agg #[.int .i64 g', .int .i64 s', .int .i64 0, .int .i64 0, .int .i64 p', .slice A1 n1 c1, .slice none 0 0, .slice none 0 0], .agg #[.int .i64 gr', .slice A2 na' ca']] W fun e w' => e = .returned (.int .i64 (chkV g' s' p' gr' na')) ∧ ML w B8 B9 B4 B10 B5 g s gr gl x y p na ca c3 nl cl AA AR AL w' :=
  (rCheck_any g' s' 0 0 p' gr' n1 c1 0 0 0 0 na' ca' A1 none none A2 W).mono fun e w' ⟨he, hb⟩ => ⟨he, h.on hb⟩
end
/-- The number of an item, or 0, and the error. -/
def idX (g s gr item op : Int) : Int := if 1 ≤ op ∧ op ≤ 7 ∧ 0 ≤ item ∧ item < gr * g then idN g s gr item op else 0
def idE (g gr item op : Int) : Int := if 1 ≤ op ∧ op ≤ 7 ∧ 0 ≤ item ∧ item < gr * g then 0 else 1
/-- .. with the near numbers. -/
structure MN (w : World) (B8 B9 B5 B11 : Nat) (g s gr x y x2 y2 : Int) (p na ca c3 : Nat) (AA AR : Option Addr) (W : World) : Prop where
  cd : Cd W B8 g s p (.slice AA na ca)
  lb : Lb W B9 gr (.slice AR p c3)
  at2 : At2 W B5 x y
  near : At2 W B11 x2 y2
  bel : Below w.heap.size w W
section
variable {w W W' : World} {B8 B9 B5 B11 : Nat} {g s gr x y x2 y2 : Int} {p na ca c3 : Nat} {AA AR : Option Addr}
theorem MN.on (h : MN w B8 B9 B5 B11 g s gr x y x2 y2 p na ca c3 AA AR W) (hb : Below W.heap.size W W') : MN w B8 B9 B5 B11 g s gr x y x2 y2 p na ca c3 AA AR W' :=
  ⟨h.cd.on hb, h.lb.of_block (hb.block _ h.lb.lt), h.at2.of_block (hb.block _ h.at2.lt), h.near.of_block (hb.block _ h.near.lt), h.bel.trans (hb.mono h.bel.size)⟩
theorem MN.drew (h : MN w B8 B9 B5 B11 g s gr x y x2 y2 p na ca c3 AA AR W) : MN w B8 B9 B5 B11 g s gr x y x2 y2 p na ca c3 AA AR W.drew := h.on (Below.refl _ _).drew
theorem MN.alloc {o : Obj} (h : MN w B8 B9 B5 B11 g s gr x y x2 y2 p na ca c3 AA AR W) : MN w B8 B9 B5 B11 g s gr x y x2 y2 p na ca c3 AA AR (W.alloc o) := h.on ((Below.refl _ _).alloc (Nat.le_refl _) o)
abbrev MNS (w : World) (B8 B9 B5 B11 : Nat) (g s gr x y x2 y2 : Int) (p na ca c3 : Nat) (AA AR : Option Addr) (W : World) : Prop :=
  W.cell? ⟨B8, 0, none⟩ = some (.int .i64 g) ∧ W.cell? ⟨B8, 1, none⟩ = some (.int .i64 s) ∧ W.cell? ⟨B8, 2, none⟩ = some (.int .i64 0) ∧ W.cell? ⟨B8, 3, none⟩ = some (.int .i64 0) ∧ W.cell? ⟨B8, 4, none⟩ = some (.int .i64 p) ∧ W.cell? ⟨B8, 5, none⟩ = some (.slice AA na ca) ∧ W.cell? ⟨B8, 6, none⟩ = some (.slice none 0 0) ∧ W.cell? ⟨B8, 7, none⟩ = some (.slice none 0 0) ∧
  W.cell? ⟨B9, 0, none⟩ = some (.int .i64 gr) ∧ W.cell? ⟨B9, 1, none⟩ = some (.slice AR p c3) ∧ W.cell? ⟨B5, 0, none⟩ = some (.int .i64 x) ∧ W.cell? ⟨B5, 1, none⟩ = some (.int .i64 y) ∧ W.cell? ⟨B11, 0, none⟩ = some (.int .i64 x2) ∧ W.cell? ⟨B11, 1, none⟩ = some (.int .i64 y2) ∧
  MN w B8 B9 B5 B11 g s gr x y x2 y2 p na ca c3 AA AR W
theorem MN.all (h : MN w B8 B9 B5 B11 g s gr x y x2 y2 p na ca c3 AA AR W) : MNS w B8 B9 B5 B11 g s gr x y x2 y2 p na ca c3 AA AR W :=
  ⟨h.cd.c0, h.cd.c1, h.cd.c2, h.cd.c3, h.cd.c4, h.cd.c5, h.cd.c6, h.cd.c7, h.lb.c0, h.lb.c1, h.at2.c0, h.at2.c1, h.near.c0, h.near.c1, h⟩
theorem MN.of (h : MNS w B8 B9 B5 B11 g s gr x y x2 y2 p na ca c3 AA AR W) : MN w B8 B9 B5 B11 g s gr x y x2 y2 p na ca c3 AA AR W := h.2.2.2.2.2.2.2.2.2.2.2.2.2.2
theorem id_M (h : MN w B8 B9 B5 B11 g s gr x y x2 y2 p na ca c3 AA AR W) (hk : chkB g s p gr p = true) (item op : Int) :
    Calls Try.prog 14 #[.agg #[.int .i64 g, .int .i64 s, .int .i64 0, .int .i64 0, .int .i64 p, .slice AA na ca, .slice none 0 0, .slice none 0 0], .agg #[.int .i64 gr, .slice AR p c3], .agg #[.int .i64 item, .int .i64 op]] W fun e w' => e = .returned (.agg #[.int .i32 (idX g s gr item op), .int .i64 (idE g gr item op)]) ∧ MN w B8 B9 B5 B11 g s gr x y x2 y2 p na ca c3 AA AR w' := by
  unfold idX idE
  by_cases hi : 1 ≤ op ∧ op ≤ 7 ∧ 0 ≤ item ∧ item < gr * g
  · simp only [if_pos hi]
    exact (id_yes g s 0 0 p gr na ca 0 0 0 0 p c3 AA none none AR item op W hk hi.1 hi.2.1 hi.2.2.1 hi.2.2.2).mono fun e w' ⟨he, hb⟩ => ⟨he, h.on hb⟩
  · simp only [if_neg hi]
    exact (id_no g s 0 0 p gr na ca 0 0 0 0 p c3 AA none none AR item op W hk hi).mono fun e w' ⟨he, hb⟩ => ⟨he, h.on hb⟩
theorem IdIn_M (h : MN w B8 B9 B5 B11 g s gr x y x2 y2 p na ca c3 AA AR W) (hk : chkB g s p gr p = true) (item op : Int) :
    Calls Try.prog 15 #[.agg #[.int .i64 g, .int .i64 s, .int .i64 0, .int .i64 0, .int .i64 p, .slice AA na ca, .slice none 0 0, .slice none 0 0], .agg #[.int .i64 gr, .slice AR p c3], .int .i64 item, .int .i64 op] W fun e w' => e = .returned (.agg #[.int .i32 (idX g s gr item op), .int .i64 (idE g gr item op)]) ∧ MN w B8 B9 B5 B11 g s gr x y x2 y2 p na ca c3 AA AR w' := by
  unfold idX idE
  by_cases hi : 1 ≤ op ∧ op ≤ 7 ∧ 0 ≤ item ∧ item < gr * g
  · simp only [if_pos hi]
    exact (IdIn_yes g s 0 0 p gr na ca 0 0 0 0 p c3 AA none none AR item op W hk hi.1 hi.2.1 hi.2.2.1 hi.2.2.2).mono fun e w' ⟨he, hb⟩ => ⟨he, h.on hb⟩
  · simp only [if_neg hi]
    exact (IdIn_no g s 0 0 p gr na ca 0 0 0 0 p c3 AA none none AR item op W hk hi).mono fun e w' ⟨he, hb⟩ => ⟨he, h.on hb⟩
end
/-- The boxes ahead of the two stores. -/
structure M0 (w : World) (B8 B9 B4 B10 B5 : Nat) (g s gr gl x y : Int) (p na ca c3 nl cl : Nat) (AA AR AL : Option Addr) (W : World) : Prop where
  cd : Cd W B8 g s p (.slice AA na ca)
  lb : Lb W B9 gr (.slice AR p c3)
  ll : Lb W B4 gl (.slice AL nl cl)
  od : Cd W B10 g s p (.slice AA na ca)
  at2 : At2 W B5 x y
  bel : Below w.heap.size w W
  n8 : B8 ≠ B10
  n9 : B9 ≠ B10
  n4 : B4 ≠ B10
  n5 : B5 ≠ B10
  low : w.heap.size ≤ B10
theorem M0.start {w w1 w2 w3 : World} {o0 : Obj} {g s gr gl x y : Int} {p na ca c3 nl cl : Nat} {AA AR AL : Option Addr}
    (h1 : Below (w.heap.size + 1 + 1 + 1) (((w.alloc o0).alloc (.cells #[.int .i64 gl, .slice AL nl cl] 27)).alloc (.cells #[.int .i64 x, .int .i64 y] 28)) w1) (h2 : Below w1.heap.size w1 w2)
    (h3 : Below (w2.heap.size + 1) (w2.alloc (.cells #[.int .i64 g, .int .i64 s, .int .i64 0, .int .i64 0, .int .i64 p, .slice AA na ca, .slice none 0 0, .slice none 0 0] 34)) w3) :
    M0 w w2.heap.size w3.heap.size (w.heap.size + 1) (w3.heap.size + 1) (w.heap.size + 1 + 1) g s gr gl x y p na ca c3 nl cl AA AR AL
      ((w3.alloc (.cells #[.int .i64 gr, .slice AR p c3] 27)).alloc (.cells #[.int .i64 g, .int .i64 s, .int .i64 0, .int .i64 0, .int .i64 p, .slice AA na ca, .slice none 0 0, .slice none 0 0] 34)) := by
  have z1 : w.heap.size + 1 + 1 + 1 ≤ w1.heap.size := by have := h1.size; simpa using this
  have z2 := h2.size
  have z3 : w2.heap.size + 1 ≤ w3.heap.size := by have := h3.size; simpa using this
  have b4 : Lb w1 (w.heap.size + 1) gl (.slice AL nl cl) := (h1.block _ (by omega)).trans ((Below.heap_alloc _ _ _ (by simp)).trans (by have := heap_alloc_new (w.alloc o0) (.cells #[.int .i64 gl, .slice AL nl cl] 27); rw [World.size_alloc] at this; exact this))
  have b5 : At2 w1 (w.heap.size + 1 + 1) x y := (h1.block _ (by omega)).trans (blk3 w _ _ _ _)
  have k : ∀ b, b < w1.heap.size → ((w3.alloc (.cells #[.int .i64 gr, .slice AR p c3] 27)).alloc (.cells #[.int .i64 g, .int .i64 s, .int .i64 0, .int .i64 0, .int .i64 p, .slice AA na ca, .slice none 0 0, .slice none 0 0] 34)).heap[b]? = w1.heap[b]? := fun b hb => by
    rw [Below.heap_alloc _ _ _ (by simp; omega), Below.heap_alloc _ _ _ (by omega), h3.block _ (by omega), Below.heap_alloc _ _ _ (by omega), h2.block _ hb]
  have c8 : Cd w3 w2.heap.size g s p (.slice AA na ca) := (h3.block _ (by omega)).trans (heap_alloc_new _ _)
  have c9 : Lb (w3.alloc (.cells #[.int .i64 gr, .slice AR p c3] 27)) w3.heap.size gr (.slice AR p c3) := heap_alloc_new _ _
  have c10 := heap_alloc_new (w3.alloc (.cells #[.int .i64 gr, .slice AR p c3] 27)) (.cells #[.int .i64 g, .int .i64 s, .int .i64 0, .int .i64 0, .int .i64 p, .slice AA na ca, .slice none 0 0, .slice none 0 0] 34)
  rw [World.size_alloc] at c10
  refine ⟨?_, ?_, b4.of_block (k _ (by omega)), c10, b5.of_block (k _ (by omega)), ?_, by omega, by omega, by omega, by omega, by omega⟩
  · exact (c8.of_block (Below.heap_alloc _ _ _ (by omega))).of_block (Below.heap_alloc _ _ _ (by simp; omega))
  · exact c9.of_block (Below.heap_alloc _ _ _ (by simp))
  · have a1 : Below w.heap.size w w1 := ((((Below.refl w.heap.size w).alloc (Nat.le_refl _) _).alloc (by simp) _).alloc (by simp; omega) _).trans (h1.mono (by omega))
    have a2 := (a1.trans (h2.mono (by omega))).alloc (by omega) (.cells #[.int .i64 g, .int .i64 s, .int .i64 0, .int .i64 0, .int .i64 p, .slice AA na ca, .slice none 0 0, .slice none 0 0] 34)
    exact ((a2.trans (h3.mono (by omega))).alloc (by omega) _).alloc (by simp; omega) _
theorem M0.stored {w W : World} {B8 B9 B4 B10 B5 : Nat} {g s gr gl x y : Int} {p na ca c3 nl cl : Nat} {AA AR AL : Option Addr} (h : M0 w B8 B9 B4 B10 B5 g s gr gl x y p na ca c3 nl cl AA AR AL W) :
    ML w B8 B9 B4 B10 B5 g s gr gl x y p na ca c3 nl cl AA AR AL ((W.setCell ⟨B10, 0, none⟩ (.int .i64 x)).setCell ⟨B10, 1, none⟩ (.int .i64 y)) := by
  have k : ∀ b, b ≠ B10 → ((W.setCell ⟨B10, 0, none⟩ (.int .i64 x)).setCell ⟨B10, 1, none⟩ (.int .i64 y)).heap[b]? = W.heap[b]? := fun b hb => by
    rw [Below.heap_setCell _ _ _ b hb, Below.heap_setCell _ _ _ b hb]
  exact ⟨h.cd.of_block (k _ h.n8), h.lb.of_block (k _ h.n9), h.ll.of_block (k _ h.n4), (h.od.set0 x).set1 y, h.at2.of_block (k _ h.n5), (h.bel.setCell h.low _).setCell h.low _⟩
theorem M0.stored' {w W : World} {B8 B9 B4 B10 B5 : Nat} {g s gr gl x y : Int} {p na ca c3 nl cl : Nat} {AA AR AL : Option Addr} (h : M0 w B8 B9 B4 B10 B5 g s gr gl x y p na ca c3 nl cl AA AR AL W) :
    ML w B8 B9 B4 B10 B5 g s gr gl x y p na ca c3 nl cl AA AR AL ((W.setCell ⟨B10, 1, none⟩ (.int .i64 y)).setCell ⟨B10, 0, none⟩ (.int .i64 x)) := by
  have k : ∀ b, b ≠ B10 → ((W.setCell ⟨B10, 1, none⟩ (.int .i64 y)).setCell ⟨B10, 0, none⟩ (.int .i64 x)).heap[b]? = W.heap[b]? := fun b hb => by
    rw [Below.heap_setCell _ _ _ b hb, Below.heap_setCell _ _ _ b hb]
  exact ⟨h.cd.of_block (k _ h.n8), h.lb.of_block (k _ h.n9), h.ll.of_block (k _ h.n4), (h.od.set1 y).set0 x, h.at2.of_block (k _ h.n5), (h.bel.setCell h.low _).setCell h.low _⟩
theorem MN.start {w W : World} {B8 B9 B4 B10 B5 : Nat} {g s gr gl x y : Int} {p na ca c3 nl cl : Nat} {AA AR AL : Option Addr} (h : ML w B8 B9 B4 B10 B5 g s gr gl x y p na ca c3 nl cl AA AR AL W) (x2 y2 : Int) :
    MN w B8 B9 B5 W.heap.size g s gr x y x2 y2 p na ca c3 AA AR (W.alloc (.cells #[.int .i64 x2, .int .i64 y2] 28)) := by
  have h2 := h.alloc (o := .cells #[.int .i64 x2, .int .i64 y2] 28)
  exact ⟨h2.cd, h2.lb, h2.at2, heap_alloc_new _ _, h2.bel⟩
theorem andK (L : Int) (K : Nat) (hK : K ≤ 255) : ∃ m : Int, 0 ≤ m ∧ m ≤ K ∧ bits BinOp.and IntKind.i64 L K = m := by
  have h : bits BinOp.and IntKind.i64 L K = IntKind.i64.wrap ((BitVec.ofInt 64 L &&& BitVec.ofInt 64 K).toNat : Int) := rfl
  have h2 : (BitVec.ofInt 64 L &&& BitVec.ofInt 64 K).toNat ≤ K := by
    rw [BitVec.toNat_and]
    refine Nat.le_trans Nat.and_le_right ?_
    rw [BitVec.toNat_ofInt]; omega
  obtain ⟨q, hq⟩ : ∃ q, (BitVec.ofInt 64 L &&& BitVec.ofInt 64 K).toNat = q := ⟨_, rfl⟩
  rw [hq] at h h2
  refine ⟨(q : Int), by omega, by omega, ?_⟩
  rw [h]
  exact IntWalk.i64_in _ (by omega)
end Go.Proofs.Ytjknmancnfeifaa
