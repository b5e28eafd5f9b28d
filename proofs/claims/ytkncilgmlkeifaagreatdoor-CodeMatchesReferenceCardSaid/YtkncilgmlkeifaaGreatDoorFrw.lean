import Derived.Test.YtkncilgmlkeifaaGreatDoorSlb
import Derived.Deep.MidRow
import Derived.Deep.RegionHeld3
import Derived.Deep.CutRange
/-
  A code in its box and its rows: one instruction is replaced.
-/
set_option linter.unusedVariables false
set_option linter.unusedSimpArgs false
namespace Go.Proofs.YtkncilgmlkeifaaGreatDoor
open Go.ChangeShapes Go.WideShapes Go.ChangeAt Go.RowKit Go.Shelf
theorem flatI_append (x y : List InstV) : flatI (x ++ y) = flatI x ++ flatI y := by
 unfold flatI
 rw [List.flatMap_append]
theorem flatI_setK (is : List InstV) (k : Nat) (hk : k < is.length) (i : InstV) : setL (k * 15) i.cells (flatI is) = flatI (is.set k i) := by
 have e1 : is = is.take k ++ is[k] :: is.drop (k + 1) := by rw [<- List.drop_eq_getElem_cons hk, List.take_append_drop]
 have e2 : is.set k i = is.take k ++ i :: is.drop (k + 1) := List.set_eq_take_append_cons_drop ▸ by rw [if_pos hk]
 have e3 : (flatI (is.take k)).length = k * 15 := by
  rw [flatI_len, List.length_take, Nat.min_eq_left (Nat.le_of_lt hk)]
 rw [e2]
 conv => lhs; rw [e1]
 rw [flatI_append, flatI_append, <- e3]
 exact setL_mid _ _ _ _ rfl
theorem flatB_same (es1 es2 : List BlE) (e : BlE) (is : List InstV) : flatB (es1 ++ (e.1, is, e.2.2) :: es2) = flatB (es1 ++ e :: es2) := by
 rw [flatB_app, flatB_app]
 rfl
theorem LX.setK {w W : World} {b n0 gI cI k : Nat} {g s r sl p : Int} {v5 v6 v7 : Value} {qs : List ArV} {ls : List LoV} {es1 es2 : List BlE} {e : BlE} (i : InstV) (h : LX w b n0 g s r sl p v5 v6 v7 qs ls (es1 ++ e :: es2) W) (hd : DisI (es1 ++ e :: es2))
 (he : e.1 = .slice (some ⟨gI, 0, none⟩) e.2.1.length cI) (hk : k < e.2.1.length) :
 LX w b n0 g s r sl p v5 v6 v7 qs ls (es1 ++ (e.1, e.2.1.set k i, e.2.2) :: es2) (setN gI (k * 15) i.cells W) := by
 have hr := h.rows.insts e (List.mem_append.2 (.inr (List.mem_cons_self ..)))
 rw [he] at hr
 obtain ⟨h1, hg⟩ := setN_row i.cells (k * 15) W _ hr
 rw [flatI_setK _ _ hk] at h1
 have ks := grow_kept hr hg
 obtain ⟨_, p2, p3⟩ := List.pairwise_append.1 hd
 have p4 := (List.pairwise_cons.1 p2).1
 have hb : e.1.ownBlock = some gI := by rw [he]; rfl
 refine ⟨(ks _ _ _ _ h.box (by decide)).trans h.box, ⟨row_kept h.rows.arr ks (by decide), row_kept h.rows.loops ks (by decide), ?_, fun x hx => ?_⟩, grow_below h.below hr hg h.hn.1 (Nat.le_refl _), h.hn.1, h.hn.2.1, Nat.le_trans h.hn.2.2 hg.size⟩
 . have hl : (es1 ++ (e.1, e.2.1.set k i, e.2.2) :: es2).length = (es1 ++ e :: es2).length := by simp
   rw [hl, flatB_same]
   exact row_kept h.rows.blocks ks (by decide)
 . rcases List.mem_append.1 hx with hx | hx
   . exact (h.rows.insts x (List.mem_append.2 (.inl hx))).kept hg (.inr fun hh => p3 x hx e (List.mem_cons_self ..) gI hh hb)
   . rcases List.mem_cons.1 hx with rfl | hx
     . show (setN gI (k * 15) i.cells W).ownsRow n0 61 15 e.1 (e.2.1.set k i).length (flatI (e.2.1.set k i))
       rw [he, List.length_set]
       exact h1
     . exact (h.rows.insts x (List.mem_append.2 (.inr (List.mem_cons_of_mem _ hx)))).kept hg (.inr (p4 x hx gI hb))
abbrev instA (i : InstV) : Array Value := #[i.op, i.sub, i.n, i.d.k, i.d.n, .int .i32 i.d.v, i.a.k, i.a.n, .int .i32 i.a.v, i.b.k, i.b.n, .int .i32 i.b.v, i.c.k, i.c.n, .int .i32 i.c.v]
theorem instA_one (i : InstV) : (instA i).all (·.oneCell') = true := by
 rw [Array.all_eq_true_iff_forall_mem]
 intro v hv
 simp only [List.mem_toArray, List.mem_cons, List.not_mem_nil, or_false] at hv
 rcases hv with rfl | rfl | rfl | rfl | rfl | rfl | rfl | rfl | rfl | rfl | rfl | rfl | rfl | rfl | rfl <;> rfl
theorem LX.setKc {w W : World} {b n0 gI cI ni k : Nat} {g s r sl p : Int} {v5 v6 v7 : Value} {qs : List ArV} {ls : List LoV} {es1 es2 : List BlE} {e : BlE} (i : InstV) (h : LX w b n0 g s r sl p v5 v6 v7 qs ls (es1 ++ e :: es2) W) (hd : DisI (es1 ++ e :: es2))
 (he : e.1 = .slice (some ⟨gI, 0, none⟩) ni cI) (hi : e.2.1.length = ni) (hk : k < ni) :
 LX w b n0 g s r sl p v5 v6 v7 qs ls (es1 ++ (e.1, e.2.1.set k i, e.2.2) :: es2) (W.setCells gI (k * 15) (instA i).toList) := by
 have H := h.setK (k := k) i hd (by rw [hi]; exact he) (by rw [hi]; exact hk)
 rw [setN_eq] at H
 exact H
end Go.Proofs.YtkncilgmlkeifaaGreatDoor
