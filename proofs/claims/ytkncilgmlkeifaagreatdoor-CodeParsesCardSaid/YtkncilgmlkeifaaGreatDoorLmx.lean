import Derived.Test.YtkncilgmlkeifaaGreatDoorExw
import Derived.Test.YtkncilgmlkeifaaGreatDoorWpf
/-
  The reference's reader: the code that line has in its box: what the walk of line keeps.
-/
set_option linter.unusedVariables false
set_option linter.unusedSimpArgs false
namespace Go.Proofs.YtkncilgmlkeifaaGreatDoor
open Go.ChangeShapes Go.WideShapes Go.ChangeAt Go.RowKit Go.Shelf
structure RcD (w0 : World) (n0 n1 : Nat) (c : CdV) (v5 v6 v7 : Value) (init : List BlE) (last : Option BlE) (W : World) : Prop where
 rc : RC n0 v5 v6 v7 c.q c.l (init ++ last.toList) W
 map : (init ++ last.toList).map (·.2) = c.b
 emp : last = none -> init = []
 old : ∀ e, e ∈ init -> ∀ k, e.1.ownBlock = some k -> k < n1
 new : ∀ e, last = some e -> W.ownsRow n1 61 15 e.1 e.2.1.length (flatI e.2.1)
 below : Below w0.heap.size w0 W
 hn : w0.heap.size <= n0 /\ n0 <= n1 /\ n1 <= W.heap.size
theorem own_base {W : World} {base base' e size n : Nat} {v : Value} {xs : List Value} (hb : base' <= base) (h : W.ownsRow base e size v n xs) : W.ownsRow base' e size v n xs := by
 refine ⟨h.1, ?_⟩
 rcases h.2 with hn | ⟨k, cap, cur, rfl, hbk, rest⟩
 . exact .inl hn
 . exact .inr ⟨k, cap, cur, rfl, Nat.le_trans hb hbk, rest⟩
theorem own_ge {W : World} {base e size n k : Nat} {v : Value} {xs : List Value} (h : W.ownsRow base e size v n xs) (hk : v.ownBlock = some k) : base <= k := by
 rcases h.2 with ⟨rfl, _⟩ | ⟨g, cap, cur, rfl, hbk, _⟩
 . cases hk
 . simp only [Value.ownBlock, Option.some.injEq] at hk
   omega
section
variable {w W W' : World} {b n0 : Nat} {g s r sl p : Int} {v5 v6 v7 : Value} {qs : List ArV} {ls : List LoV} {es : List BlE}
theorem LX.ch {bf : Nat} {C : Array Value} (h : LX w b n0 g s r sl p v5 v6 v7 qs ls es W) (hc : Ch bf bf W W') (hf : W.heap[bf]? = some (.cells C 175 (0, 0))) (hw : w.heap.size <= bf) : LX w b n0 g s r sl p v5 v6 v7 qs ls es W' := by
 have hne : b ≠ bf := by
  rintro rfl
  have := h.box
  rw [hf] at this
  injection this with this
  injection this with _ e _
  exact absurd e (by decide)
 have kp : Kept (. ≠ 175) W W' := fun k C' T fr hk hT => hc.block k (Array.getElem?_eq_some_iff.1 hk).1 (fun e => by
  subst e
  rw [hf] at hk
  injection hk with hk
  injection hk with _ e _
  exact hT e.symm) (fun e => by
  subst e
  rw [hf] at hk
  injection hk with hk
  injection hk with _ e _
  exact hT e.symm)
 refine ⟨(kp _ _ _ _ h.box (by decide)).trans h.box, ⟨row_kept h.rows.arr kp (by decide), row_kept h.rows.loops kp (by decide), row_kept h.rows.blocks kp (by decide), fun e he => row_kept (h.rows.insts e he) kp (by decide)⟩, ?_, h.hn.1, h.hn.2.1, Nat.le_trans h.hn.2.2 hc.size⟩
 exact ⟨hc.os.trans h.below.os, hc.tape.trans h.below.tape, hc.output.trans h.below.output, Nat.le_trans h.below.size hc.size, fun i hi => (hc.block i (Nat.lt_of_lt_of_le hi h.below.size) (by omega) (by omega)).trans (h.below.block i hi)⟩
end
theorem LX.appI {w W W' : World} {b n0 n1 gB N cB : Nat} {g s r sl p : Int} {v5 v6 v : Value} {qs : List ArV} {ls : List LoV} {es1 : List BlE} {e : BlE} {i : InstV} (h : LX w b n0 g s r sl p v5 v6 (.slice (some ⟨gB, 0, none⟩) N cB) qs ls (es1 ++ [e]) W) (hN : (es1 ++ [e]).length = N) (hn : n0 <= n1)
 (hold : ∀ x, x ∈ es1 -> ∀ k, x.1.ownBlock = some k -> k < n1) (hnew : W.ownsRow n1 61 15 e.1 e.2.1.length (flatI e.2.1))
 (hr : W'.ownsRow n1 61 15 v (e.2.1.length + 1) (flatI e.2.1 ++ i.cells)) (hg : W.grownBy W' e.1.ownBlock) :
 LX w b n0 g s r sl p v5 v6 (.slice (some ⟨gB, 0, none⟩) N cB) qs ls (es1 ++ [(v, e.2.1 ++ [i], e.2.2)]) (W'.setCell ⟨gB, es1.length * 14, none⟩ v) /\ (W'.setCell ⟨gB, es1.length * 14, none⟩ v).ownsRow n1 61 15 v (e.2.1 ++ [i]).length (flatI (e.2.1 ++ [i])) := by
 have he : W.ownsRow n0 61 15 e.1 e.2.1.length (flatI e.2.1) := h.rows.insts e (by simp)
 obtain ⟨hb, hbw, hs⟩ := h.boxr he hg (by decide)
 have kg := grow_kept he hg
 have hbl := row_kept h.rows.blocks kg (by decide)
 rw [hN] at hbl
 have hst := hbl.stored (es1.length * 14) v
 have ks := grow_kept hbl hst.2
 have hN2 : (es1 ++ [(v, e.2.1 ++ [i], e.2.2)]).length = N := by
  rw [<- hN]
  simp
 have hlast : (W'.setCell ⟨gB, es1.length * 14, none⟩ v).ownsRow n1 61 15 v (e.2.1 ++ [i]).length (flatI (e.2.1 ++ [i])) := by
  rw [List.length_append, flatI_snoc]
  exact row_kept hr ks (by decide)
 refine ⟨⟨(ks _ _ _ _ hb (by decide)).trans hb, ⟨row_kept (row_kept h.rows.arr kg (by decide)) ks (by decide), row_kept (row_kept h.rows.loops kg (by decide)) ks (by decide), ?_, fun x hx => ?_⟩, grow_below hbw hbl hst.2 h.hn.1 (Nat.le_refl _), h.hn.1, h.hn.2.1, by simpa [World.setCell] using hs⟩, hlast⟩
 . have := flatB_setI es1 [] e v (e.2.1 ++ [i])
   rw [hN2, <- this]
   exact hst.1
 . rcases List.mem_append.1 hx with hx | hx
   . have hxo := h.rows.insts x (List.mem_append.2 (.inl hx))
     refine row_kept (row_blk hxo (fun k hk => hg.block k ?_ (fun e1 => ?_))) ks (by decide)
     . exact (hxo.lt k hk).2
     . have := hold x hx k hk
       have := own_ge hnew e1.symm
       omega
   . rw [List.mem_singleton] at hx
     subst hx
     exact own_base hn hlast
end Go.Proofs.YtkncilgmlkeifaaGreatDoor
