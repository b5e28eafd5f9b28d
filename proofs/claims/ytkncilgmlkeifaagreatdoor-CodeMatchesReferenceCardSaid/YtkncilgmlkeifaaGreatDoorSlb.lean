import Derived.Test.YtkncilgmlkeifaaGreatDoorMky
import Derived.Test.YtkncilgmlkeifaaGreatDoorExw
/-
  Slotted codes: what stands in them; a block gets other instructions.
-/
set_option linter.unusedVariables false
set_option linter.unusedSimpArgs false
namespace Go.Proofs.YtkncilgmlkeifaaGreatDoor
open Go.ChangeShapes Go.WideShapes Go.ChangeAt Go.RowKit Go.Shelf
section
variable {g s r sl p : Int} {ls : List LoV} {bs : List BlV} {n : Nat -> Int}
end
def putI (b i : Nat) : InstV := ⟨12, 0, ((b % 2 : Nat) : Int), ⟨0, 0, 0⟩, ⟨2, ((i % 6 : Nat) : Int), 0⟩, ⟨0, 0, 0⟩, ⟨0, 0, 0⟩⟩
def getI (b i : Nat) : InstV := ⟨11, 0, ((b % 2 : Nat) : Int), ⟨2, (((i + 1) % 6 : Nat) : Int), 0⟩, ⟨0, 0, 0⟩, ⟨0, 0, 0⟩, ⟨0, 0, 0⟩⟩
def slI (b : Nat) (is : List InstV) : Nat -> List InstV
 | 0 => []
 | k + 1 => slI b is k ++ [is.getD k noI] ++ if k % 2 = 0 then [putI b k, getI b k] else []
def slB (b : Nat) (e : BlV) : BlV := (slI b e.1 e.1.length, e.2)
def slC (c : CdV) : CdV := ⟨c.q, c.l, c.b.mapIdx slB, fun j => if j = 3 then 2 else c.n j⟩
theorem slI_len (b : Nat) (is : List InstV) : ∀ k, (slI b is k).length <= 3 * k
 | 0 => Nat.le_refl _
 | k + 1 => by
  have := slI_len b is k
  unfold slI
  split <;> simp <;> omega
theorem slot_idx (b : Nat) : idxB 3 2 5 spA 4 ((b % 2 : Nat) : Int) = true := by
 unfold idxB wthB
 have : b % 2 < 2 := Nat.mod_lt _ (by decide)
 simp
 omega
theorem put_ok {r : Int} (hr : 6 <= r) (n3 b i : Nat) : instB 3 2 r 5 n3 spA (putI b i) = true := by
 have hi : i % 6 < 6 := Nat.mod_lt _ (by decide)
 have h1 := valB_reg hr (x := ((i % 6 : Nat) : Int)) (by omega)
 have h2 := slot_idx b
 unfold putI
 simp only [instB, instOK, instF, hasV, othV, zeroP, FormV.want, InstV.parts, noOpd]
 simp
 exact ⟨h2, h1⟩
theorem get_ok {r : Int} (hr : 6 <= r) (n3 b i : Nat) : instB 3 2 r 5 n3 spA (getI b i) = true := by
 have hi : (i + 1) % 6 < 6 := Nat.mod_lt _ (by decide)
 have h1 := regB_of hr (x := (((i + 1) % 6 : Nat) : Int)) (by omega)
 have h2 := slot_idx b
 unfold getI
 simp only [instB, instOK, instF, hasV, othV, zeroP, FormV.want, InstV.parts, noOpd]
 simp
 exact ⟨h2, h1⟩
theorem slI_mem {b : Nat} {is : List InstV} : ∀ {k : Nat}, k <= is.length -> ∀ i, i ∈ slI b is k -> i ∈ is \/ ∃ j, i = putI b j \/ i = getI b j
 | 0, _, i, hi => by cases hi
 | k + 1, hk, i, hi => by
  unfold slI at hi
  rcases List.mem_append.1 hi with hi | hi
  . rcases List.mem_append.1 hi with hi | hi
    . exact slI_mem (by omega) i hi
    . rw [List.mem_singleton, getD_of _ _ _ (show k < is.length by omega)] at hi
      exact .inl (hi ▸ List.getElem_mem _)
  . split at hi
    . simp only [List.mem_cons, List.not_mem_nil, or_false] at hi
      exact .inr ⟨k, hi⟩
    . cases hi
theorem LX.setI {w W : World} {b n0 gB N cB : Nat} {g s r sl p : Int} {v5 v6 v : Value} {qs : List ArV} {ls : List LoV} {es1 es2 : List BlE} {e : BlE} {is : List InstV} (h : LX w b n0 g s r sl p v5 v6 (.slice (some ⟨gB, 0, none⟩) N cB) qs ls (es1 ++ e :: es2) W) (hN : (es1 ++ e :: es2).length = N) (hr : W.ownsRow n0 61 15 v is.length (flatI is)) :
 LX w b n0 g s r sl p v5 v6 (.slice (some ⟨gB, 0, none⟩) N cB) qs ls (es1 ++ (v, is, e.2.2) :: es2) (W.setCell ⟨gB, es1.length * 14, none⟩ v) := by
 have hb := h.rows.blocks
 rw [hN] at hb
 have hst := hb.stored (es1.length * 14) v
 have ks := grow_kept hb hst.2
 have hN2 : (es1 ++ (v, is, e.2.2) :: es2).length = N := by
  rw [<- hN]
  simp
 refine ⟨(ks _ _ _ _ h.box (by decide)).trans h.box, ⟨row_kept h.rows.arr ks (by decide), row_kept h.rows.loops ks (by decide), ?_, fun x hx => ?_⟩, grow_below h.below hb hst.2 h.hn.1 (Nat.le_refl _), h.hn.1, h.hn.2.1, by simpa [World.setCell] using h.hn.2.2⟩
 . rw [hN2, <- flatB_setI es1 es2 e v is]
   exact hst.1
 . rcases List.mem_append.1 hx with hx | hx
   . exact row_kept (h.rows.insts x (List.mem_append.2 (.inl hx))) ks (by decide)
   . rcases List.mem_cons.1 hx with rfl | hx
     . exact row_kept hr ks (by decide)
     . exact row_kept (h.rows.insts x (List.mem_append.2 (.inr (List.mem_cons_of_mem _ hx)))) ks (by decide)
end Go.Proofs.YtkncilgmlkeifaaGreatDoor
