/-
  strings.Lines hands back a value that gives the lines, in order, and keeps its place in its own box.
-/
import Derived.Test.YtkncilgmlkeifaaGreatDoorShelf
import Derived.Test.YtkncilgmlkeifaaGreatDoorRbx
import Derived.Lib.Hide
import Derived.RangeFuncNested
import Derived.RangeFuncBound
import Derived.RangeFuncCalls
import Derived.RangeFuncLeaves
import Derived.RangeFuncBox
import Derived.Shelf.Abstract
import Derived.Shelf.RegionOpen
import Derived.WalkKit
import Derived.OwnWalkIn
import Derived.TacticsInMore
import Derived.LoopNIn
import Derived.LoopIn
import Derived.Outline
set_option linter.unusedVariables false
set_option linter.unusedSimpArgs false
namespace Go.Proofs.YtkncilgmlkeifaaGreatDoor
open Go.RowKit Go.Shelf
attribute [local go_sem] Oper.semAt_some

set_option maxHeartbeats 1000000 in
theorem Lines_in (F : Fence) (N : Nat) (h : F.fn 103) (hro : F.round = none) (s : ByteArray) (w : World) :
    CallsIn F N Tryz.prog 103 #[.string s] w fun e w' => e = .returned (.func (.func 135) #[] #[.pointer (some ⟨w.heap.size, 0, none⟩)]) ∧ w' = w.alloc (.cells #[.string s] 9) := by
  have hmf : ∀ (fn : Fn) (first cap : Array Value) (w : World), (Instr.makeFunc fn first cap).run Tryz.prog w = .ok (.func fn first cap) w := fun _ _ _ _ => rfl
  refine callsIn_of_wp Tryz.func103 rfl h ?_ hro
  simp only [Tryz.ntmps103, List.size_toArray, List.length_cons, List.length_nil, Nat.reduceAdd, Nat.reduceSub, Array.replicate_succ, Array.replicate_zero, List.push_toArray, List.append_toArray, List.nil_append, List.cons_append]
  gi_wp2
  go_ret
  exact ⟨rfl, rfl⟩

def strLen (W : World) (b : Nat) : Nat := match W.cell? ⟨b, 0, none⟩ with
  | some (.string t) => t.size
  | _ => 0
theorem strLen_of {W : World} {b : Nat} {t : ByteArray} (h : Boxed W b 9 (.string t)) : strLen W b = t.size := by unfold strLen; rw [h.cell]
theorem boxed_of {W W' : World} {b : Nat} {t : TypeId} {v : Value} (h : Boxed W b t v) (e : W'.heap[b]? = W.heap[b]?) : Boxed W' b t v := e.trans h
theorem boxed_drew {W : World} {b : Nat} {t : TypeId} {v : Value} (h : Boxed W b t v) : Boxed W.drew b t v := h
theorem abox_drew {b : Nat} {t : TypeId} {J : Nat → World → Prop} (h : AbidesBox b t J) {k : Nat} {W : World} (hj : J k W) : J k W.drew := h.calm k W _ hj ⟨rfl, rfl, rfl, Nat.le_refl _, fun _ _ _ => rfl⟩
theorem ixb (t : ByteArray) (z : Int) (h : Lib.indexByte t.data.toList 10 = z) (W : World) : Calls Tryz.prog 136 #[.string t, .int .u8 10] W fun e w' => e = .returned (.int .i64 z) ∧ W = w' :=
  (Tryz.strings_IndexByte t 10 W).mono fun e w' ⟨h1, h2⟩ => ⟨by rw [h1, ← h]; rfl, h2.symm⟩

set_option maxRecDepth 100000 in
set_option maxHeartbeats 4000000 in
theorem lines_it (s : ByteArray) (b N : Nat) (hN : 1 ≤ N) (hs : s.size ≤ 1000000) : GivesBox Fence.wide N Tryz.prog 135 b 9 (.string s) (fun k => .string (lineN s k)) (nLines s) := by
  intro l J W hJ hY h0 hb0
  refine callsIn_of_wp Tryz.func135 rfl trivial ?_ rfl
  simp only [Tryz.ntmps135, List.size_toArray, List.length_cons, List.length_nil, Nat.reduceAdd, Nat.reduceSub, Array.replicate_succ, Array.replicate_zero, List.push_toArray, List.append_toArray, List.nil_append, List.cons_append]
  have HY := Lib.hid hY
  have HJ := Lib.hid hJ
  clear hY hJ
  gi_wp2
  gi_loopw [3] (fun x wr => ∃ (t : ByteArray) (k : Nat), t.size ≤ 1000000 ∧ Hid (Boxed wr b 9 (.string t)) ∧ Hid (AtLine s t k) ∧ Hid (J k wr)) (fun _ wr => strLen wr b)
  case atStart => exact ⟨s, 0, hs, Lib.hid hb0, Lib.hid (AtLine.start s), Lib.hid h0⟩
  case round =>
    obtain ⟨t, k, hts, HB, HA, HK⟩ := hrel
    clear h0 hb0
    have hc := HB.out.cell
    have hf := HB.out.frozen
    by_cases ht : 0 < t.size
    · obtain ⟨z, hz⟩ : ∃ z, Lib.indexByte t.data.toList 10 = z := ⟨_, rfl⟩
      have hge : -1 ≤ z := by rw [← hz]; exact Lib.indexByte_ge _ _
      have HI := Lib.hid (fun W => ixb t z hz W)
      by_cases hz1 : z = -1
      · subst hz1
        obtain ⟨a2, a3, a4⟩ := HA.out.none ht hz
        have H4 := Lib.hid a4
        have hbx : Boxed (wr.setCell ⟨b, 0, none⟩ (.string ⟨#[]⟩)) b 9 (.string ⟨#[]⟩) := HB.out.set _
        obtain ⟨fn, tmps, assign, body, hy, hR⟩ := HY.out k _ (HJ.out.store k wr _ (.string ⟨#[]⟩) HK.out HB.out) a2
        rw [a3] at hy
        have HBX := Lib.hid hbx
        have HSZ : Hid ((⟨#[]⟩ : ByteArray).size ≤ 1000000) := Lib.hid (by decide)
        have HLT : Hid ((⟨#[]⟩ : ByteArray).size < t.size) := Lib.hid ht
        clear hz a3 a4 hbx
        gi_wp2_with (refine ⟨trivial, ?_⟩; gi_at_call 136; refine (callsIn_wide.2 (HI.out _)).mono ?_; rintro e w1 ⟨rfl, rfl⟩)
        refine hR.mono ?_
        rintro e W3 ⟨rfl, hJ3, hk3⟩
        have HB3 := Lib.hid (boxed_of HBX.out hk3)
        have HJ3 := Lib.hid hJ3
        clear hJ3 hk3
        gi_wp2
        go_roundw
        case rel => exact ⟨_, k + 1, HSZ.out, HB3, H4, HJ3⟩
        case measure =>
          rw [strLen_of HB3.out, strLen_of HB.out]
          exact HLT.out
      · obtain ⟨j, rfl⟩ : ∃ j : Nat, z = (j : Int) := ⟨z.toNat, by omega⟩
        obtain ⟨a1, a2, a3, a4⟩ := HA.out.some hz
        have H4 := Lib.hid a4
        have hbx : Boxed (wr.setCell ⟨b, 0, none⟩ (.string (t.extract (j + 1) t.size))).drew b 9 (.string (t.extract (j + 1) t.size)) := boxed_drew (HB.out.set _)
        obtain ⟨fn, tmps, assign, body, hy, hR⟩ := HY.out k _ (abox_drew HJ.out (HJ.out.store k wr _ (.string (t.extract (j + 1) t.size)) HK.out HB.out)) a2
        rw [a3] at hy
        have HBX := Lib.hid hbx
        have HLT : Hid ((t.extract (j + 1) t.size).size < t.size) := Lib.hid (by rw [ByteArray.size_extract]; omega)
        have HSZ : Hid ((t.extract (j + 1) t.size).size ≤ 1000000) := Lib.hid (by have := HLT.out; omega)
        clear hz a3 a4 hbx
        gi_wp2_with (refine ⟨trivial, ?_⟩; gi_at_call 136; refine (callsIn_wide.2 (HI.out _)).mono ?_; rintro e w1 ⟨rfl, rfl⟩)
        gi_region
        all_goals
          gi_wp2
          refine hR.mono ?_
          rintro e W3 ⟨rfl, hJ3, hk3⟩
          have HB3 := Lib.hid (boxed_of HBX.out hk3)
          have HJ3 := Lib.hid hJ3
          clear hJ3 hk3
          gi_wp2
          go_roundw
          case rel => exact ⟨_, k + 1, HSZ.out, HB3, H4, HJ3⟩
          case measure =>
            rw [strLen_of HB3.out, strLen_of HB.out]
            exact HLT.out
    · have hz0 := HA.out.done (by omega)
      subst hz0
      gi_wp2
      go_end0
      exact ⟨⟨_, rfl⟩, HK.out⟩
end Go.Proofs.YtkncilgmlkeifaaGreatDoor
