import Derived.Test.YtkncilgmlkeifaaGreatDoorShelf
import Derived.Test.YtkncilgmlkeifaaGreatDoorRbx
import Derived.Lib.Hide
import Derived.RangeFuncNested
import Derived.RangeFuncBound
import Derived.RangeFuncCalls
import Derived.RangeFuncLeaves
import Derived.RangeFuncBox
import Derived.Shelf.Abstract
import Derived.Shelf.RegionOpen
import Derived.WalkKit
import Derived.OwnWalkIn
import Derived.TacticsInMore
import Derived.LoopNIn
import Derived.LoopIn
import Derived.Outline
import Derived.Test.YtkncilgmlkeifaaGreatDoorCdm
/-
  strings.Lines hands back a value that gives the lines, in order, and keeps its place in its own box.
-/
set_option linter.unusedVariables false
set_option linter.unusedSimpArgs false
set_option maxRecDepth 100000
set_option maxHeartbeats 8000000
namespace Go.Proofs.YtkncilgmlkeifaaGreatDoor
open Go.RowKit Go.Shelf
attribute [local go_sem] Oper.semAt_some
theorem Lines_in (F : Fence) (N : Nat) (h : F.fn 103) (hro : F.round = none) (s : ByteArray) (w : World) :
 CallsIn F N Tryz.prog 103 #[.string s] w fun e w' => e = .returned (.func (.func 135) #[] #[.pointer (some ⟨w.heap.size, 0, none⟩)]) /\ w' = w.alloc (.cells #[.string s] 9) := by
 have hmf : ∀ (fn : Fn) (first cap : Array Value) (w : World), (Instr.makeFunc fn first cap).run Tryz.prog w = .ok (.func fn first cap) w := fun _ _ _ _ => rfl
 refine callsIn_of_wp Tryz.func103 rfl h ?_ hro
 simp only [Tryz.ntmps103, List.size_toArray, List.length_cons, List.length_nil, Nat.reduceAdd, Nat.reduceSub, Array.replicate_succ, Array.replicate_zero, List.push_toArray, List.append_toArray, List.nil_append, List.cons_append]
 gi_wp2
 go_ret
 exact ⟨rfl, rfl⟩
def strLen (W : World) (b : Nat) : Nat := match W.cell? ⟨b, 0, none⟩ with
 | some (.string t) => t.size
 | _ => 0
theorem strLen_of {W : World} {b : Nat} {t : ByteArray} (h : Boxed W b 9 (.string t)) : strLen W b = t.size := by unfold strLen; rw [h.cell]
theorem boxed_of {W W' : World} {b : Nat} {t : TypeId} {v : Value} (h : Boxed W b t v) (e : W'.heap[b]? = W.heap[b]?) : Boxed W' b t v := e.trans h
theorem boxed_drew {W : World} {b : Nat} {t : TypeId} {v : Value} (h : Boxed W b t v) : Boxed W.drew b t v := h
theorem abox_drew {b : Nat} {t : TypeId} {J : Nat -> World -> Prop} (h : AbidesBox b t J) {k : Nat} {W : World} (hj : J k W) : J k W.drew := h.calm k W _ hj ⟨rfl, rfl, rfl, Nat.le_refl _, fun _ _ _ => rfl⟩
theorem ixb (t : ByteArray) (z : Int) (h : Lib.indexByte t.data.toList 10 = z) (W : World) : Calls Tryz.prog 136 #[.string t, .int .u8 10] W fun e w' => e = .returned (.int .i64 z) /\ W = w' :=
 (Tryz.strings_IndexByte t 10 W).mono fun e w' ⟨h1, h2⟩ => ⟨by rw [h1, <- h]; rfl, h2.symm⟩
theorem lines_it (s : ByteArray) (b N : Nat) (hN : 1 <= N) (hs : s.size <= 1000000) : GivesBox Fence.wide N Tryz.prog 135 b 9 (.string s) (fun k => .string (lineN s k)) (nLines s) := by
 intro l J W hJ hY h0 hb0
 refine callsIn_of_wp Tryz.func135 rfl trivial ?_ rfl
 simp only [Tryz.ntmps135, List.size_toArray, List.length_cons, List.length_nil, Nat.reduceAdd, Nat.reduceSub, Array.replicate_succ, Array.replicate_zero, List.push_toArray, List.append_toArray, List.nil_append, List.cons_append]
 have HY := lh hY
 have HJ := lh hJ
 clear hY hJ
 gi_wp2
 gi_loopw [3] (fun x wr => ∃ (t : ByteArray) (k : Nat), t.size <= 1000000 /\ Hid (Boxed wr b 9 (.string t)) /\ Hid (AtLine s t k) /\ Hid (J k wr)) (fun _ wr => strLen wr b)
 case atStart => exact ⟨s, 0, hs, lh hb0, lh (AtLine.start s), lh h0⟩
 case round =>
  obtain ⟨t, k, hts, HB, HA, HK⟩ := hrel
  clear h0 hb0
  have hc := HB.out.cell
  have hf := HB.out.frozen
  by_cases ht : 0 < t.size
  . obtain ⟨z, hz⟩ : ∃ z, Lib.indexByte t.data.toList 10 = z := ⟨_, rfl⟩
    have hge : -1 <= z := by rw [<- hz]; exact Lib.indexByte_ge _ _
    have HI := lh (fun W => ixb t z hz W)
    by_cases hz1 : z = -1
    . subst hz1
      obtain ⟨a2, a3, a4⟩ := HA.out.none ht hz
      have H4 := lh a4
      have hbx : Boxed (wr.setCell ⟨b, 0, none⟩ (.string ⟨#[]⟩)) b 9 (.string ⟨#[]⟩) := HB.out.set _
      obtain ⟨fn, tmps, assign, body, hy, hR⟩ := HY.out k _ (HJ.out.store k wr _ (.string ⟨#[]⟩) HK.out HB.out) a2
      rw [a3] at hy
      have HBX := lh hbx
      have HSZ : Hid ((⟨#[]⟩ : ByteArray).size <= 1000000) := lh (by decide)
      have HLT : Hid ((⟨#[]⟩ : ByteArray).size < t.size) := lh ht
      clear hz a3 a4 hbx
      gi_wp2_with (refine ⟨trivial, ?_⟩; gi_at_call 136; refine (callsIn_wide.2 (HI.out _)).mono ?_; rintro e w1 ⟨rfl, rfl⟩)
      refine hR.mono ?_
      rintro e W3 ⟨rfl, hJ3, hk3⟩
      have HB3 := lh (boxed_of HBX.out hk3)
      have HJ3 := lh hJ3
      clear hJ3 hk3
      gi_wp2
      go_roundw
      case rel => exact ⟨_, k + 1, HSZ.out, HB3, H4, HJ3⟩
      case measure =>
       rw [strLen_of HB3.out, strLen_of HB.out]
       exact HLT.out
    . obtain ⟨j, rfl⟩ : ∃ j : Nat, z = (j : Int) := ⟨z.toNat, by omega⟩
      obtain ⟨a1, a2, a3, a4⟩ := HA.out.some hz
      have H4 := lh a4
      have hbx : Boxed (wr.setCell ⟨b, 0, none⟩ (.string (t.extract (j + 1) t.size))).drew b 9 (.string (t.extract (j + 1) t.size)) := boxed_drew (HB.out.set _)
      obtain ⟨fn, tmps, assign, body, hy, hR⟩ := HY.out k _ (abox_drew HJ.out (HJ.out.store k wr _ (.string (t.extract (j + 1) t.size)) HK.out HB.out)) a2
      rw [a3] at hy
      have HBX := lh hbx
      have HLT : Hid ((t.extract (j + 1) t.size).size < t.size) := lh (by rw [ByteArray.size_extract]; omega)
      have HSZ : Hid ((t.extract (j + 1) t.size).size <= 1000000) := lh (by have := HLT.out; omega)
      clear hz a3 a4 hbx
      gi_wp2_with (refine ⟨trivial, ?_⟩; gi_at_call 136; refine (callsIn_wide.2 (HI.out _)).mono ?_; rintro e w1 ⟨rfl, rfl⟩)
      gi_region
      all_goals
       gi_wp2
       refine hR.mono ?_
       rintro e W3 ⟨rfl, hJ3, hk3⟩
       have HB3 := lh (boxed_of HBX.out hk3)
       have HJ3 := lh hJ3
       clear hJ3 hk3
       gi_wp2
       go_roundw
       case rel => exact ⟨_, k + 1, HSZ.out, HB3, H4, HJ3⟩
       case measure =>
        rw [strLen_of HB3.out, strLen_of HB.out]
        exact HLT.out
  . have hz0 := HA.out.done (by omega)
    subst hz0
    gi_wp2
    go_end0
    exact ⟨⟨_, rfl⟩, HK.out⟩
attribute [local go_sem] Oper.semAt_some
def restr (W : World) (n : Nat) : World := { W with heap := W.heap.take n }
theorem restr_size {W : World} {n : Nat} (h : n <= W.heap.size) : (restr W n).heap.size = n := by simp [restr]; omega
theorem restr_at {W : World} {n i : Nat} (h : i < n) : (restr W n).heap[i]? = W.heap[i]? := by
 simp [restr, Array.getElem?_extract]
 intro h1
 omega
theorem ch_restr {W : World} {n rb : Nat} (h : n <= W.heap.size) : Ch rb rb (restr W n) W :=
 ⟨rfl, rfl, rfl, by rw [restr_size h]; exact h, fun k hk _ _ => by rw [restr_size h] at hk; exact (restr_at hk).symm⟩
theorem envX_restr {wA W : World} {n rb : Nat} (hE : EnvP wA) (hb : Below wA.heap.size wA W) (hn : n <= W.heap.size) (hr : wA.heap.size <= rb) (hrn : rb <= n) : EnvX rb (restr W n) :=
 ⟨wA, hE, ⟨hb.os, hb.tape, hb.output, by rw [restr_size hn]; omega, fun i hi => (restr_at (by omega)).trans (hb.block i hi)⟩, hr⟩
section
variable {rb n0 : Nat} {c : CdV} {W W' : World}
theorem HC.kept (h : HC rb n0 c W) (hk : ∀ (k : Nat) (C : Array Value) (T : TypeId) (fr : Nat × Nat), W.heap[k]? = some (Obj.cells C T fr) -> W'.heap[k]? = W.heap[k]?) (hs : W.heap.size <= W'.heap.size) : HC rb n0 c W' := by
 obtain ⟨n1, g, init, last, h1, h2, h3, h4⟩ := h
 refine ⟨n1, g, init, last, h1.keep2 ?_ rfl rfl rfl (fun k C T fr hh _ => hk k C T fr hh) hs, h2, h3, h4⟩
 obtain ⟨cur, hc, _⟩ := id h1.row
 exact h1.row.of_block (hk _ _ _ _ hc)
theorem HC.on (h : HC rb n0 c W) (hb : Below W.heap.size W W') : HC rb n0 c W' :=
 h.kept (fun k C T fr hh => hb.block k (Array.getElem?_eq_some_iff.1 hh).1) hb.size
theorem HC.row (h : HC rb n0 c W) : ∃ g, W.rowIs rb 166 9 g := by
 obtain ⟨n1, g, init, last, h1, h2, h3, h4⟩ := h
 exact ⟨g, h1.row⟩
theorem HC.hn0 (h : HC rb n0 c W) : n0 <= W.heap.size := by
 obtain ⟨n1, g, init, last, h1, h2, h3, h4⟩ := h
 have := h1.hn
 omega
end
theorem HC.own {rb n0 B : Nat} {f : Nat -> CdV} : OwnFrom B (fun k W => HC rb n0 (f k) W) := fun k W W' row h hg hr =>
 h.kept (fun j C T fr hh => hg.block j (Array.getElem?_eq_some_iff.1 hh).1 (fun e => by
  obtain ⟨_, o, ho, hc⟩ := hr j e.symm
  rw [hh] at ho
  cases ho
  cases hc)) hg.size
def RI2 (s : ByteArray) (wA : World) (rb n0 : Nat) (k : Nat) (W : World) : Prop := HC rb n0 (readK s k) W /\ Below wA.heap.size wA W
theorem RI2.fields {s : ByteArray} {wA : World} {rb n0 k : Nat} {W W1 : World} {v : Value} {fs : List ByteArray} (h : RI2 s wA rb n0 k W) (hb : Below W.heap.size W W1) (hf : FSl W1 v fs) : HCD rb n0 (readK s k) fs (restr W n0) (W1.setCell ⟨rb, 8, none⟩ v) :=
 (h.1.on hb).setF hf ((ch_restr h.1.hn0).trans (Ch.of_below hb)) (by rw [restr_size h.1.hn0]; exact Nat.le_refl _)
theorem RI2.next {s : ByteArray} {wA : World} {rb n0 k : Nat} {W W3 : World} {fs' : List ByteArray} (h : RI2 s wA rb n0 k W) (hr : wA.heap.size <= rb) (hrn : rb <= n0) (h3 : HCD rb n0 (lineV (readK s k) (cutL (trimL (lineN s k)))) fs' (restr W n0) W3) :
 RI2 s wA rb n0 (k + 1) W3 /\ ∀ j, j < n0 -> j ≠ rb -> W3.heap[j]? = W.heap[j]? := by
 obtain ⟨h4, h5⟩ := h3.hc
 have hn := h.1.hn0
 have hk : ∀ j, j < n0 -> j ≠ rb -> W3.heap[j]? = W.heap[j]? := fun j hj hne => (h5.block j (by rw [restr_size hn]; exact hj) hne hne).trans (restr_at hj)
 refine ⟨⟨h4, ?_⟩, hk⟩
 have hs := h5.size
 rw [restr_size hn] at hs
 exact ⟨h5.os.trans h.2.os, h5.tape.trans h.2.tape, h5.output.trans h.2.output, by omega, fun i hi => (hk i (by omega) (by omega)).trans (h.2.block i hi)⟩
abbrev zer8 : Array Value := #[(0:Int), (0:Int), (0:Int), (0:Int), (0:Int), .slice none 0 0, .slice none 0 0, .slice none 0 0]
def zer9 : Array Value := #[(0:Int), (0:Int), (0:Int), (0:Int), (0:Int), .slice none 0 0, .slice none 0 0, .slice none 0 0, .slice none 0 0]
theorem hc_start {W : World} {rb n0 : Nat} (hk : W.heap[rb]? = some (.cells zer9 166 (0, 0))) (hn : n0 <= W.heap.size) : HC rb n0 cd0 W := by
 refine ⟨n0, fun i => zer9.getD i undef, [], none, ⟨row_of_blk hk, World.ownsRow_nil _ _ _ _, World.ownsRow_nil _ _ _ _, World.ownsRow_nil _ _ _ _, fun e he => by simp at he, fun e he => by simp at he, ⟨Nat.le_refl _, hn⟩⟩, fun _ => rfl, rfl, fun j hj => ?_⟩
 match j, hj with
 | 0, _ => rfl
 | 1, _ => rfl
 | 2, _ => rfl
 | 3, _ => rfl
 | 4, _ => rfl
theorem trimS (l : ByteArray) (hl : l.size <= 1000000) (W : World) : Calls Tryz.prog 105 #[.string l, .string ⟨#[10]⟩] W fun e w' => e = .returned (.string (trimL l)) /\ W = w' :=
 (Tryz.strings_TrimSuffix l ⟨#[10]⟩ W (by omega)).mono fun e w' ⟨h1, h2⟩ => ⟨h1, h2.symm⟩
theorem k36_store {W : World} {b : Nat} {C : Array Value} (h : W.heap[b]? = some (.cells C 36 (0, 0))) (v0 v1 v2 v3 v4 v5 v6 v7 : Value) :
 K36 W ((((((((W.setCell ⟨b, 0, none⟩ v0).setCell ⟨b, 1, none⟩ v1).setCell ⟨b, 2, none⟩ v2).setCell ⟨b, 3, none⟩ v3).setCell ⟨b, 4, none⟩ v4).setCell ⟨b, 5, none⟩ v5).setCell ⟨b, 6, none⟩ v6).setCell ⟨b, 7, none⟩ v7) := by
 have st : ∀ (V : World) (o : Nat) (v : Value), (∃ C, V.heap[b]? = some (.cells C 36 (0, 0))) -> K36 V (V.setCell ⟨b, o, none⟩ v) /\ ∃ C, (V.setCell ⟨b, o, none⟩ v).heap[b]? = some (.cells C 36 (0, 0)) := fun V o v ⟨C, hC⟩ =>
  ⟨K36.set hC o v, C.setIfInBounds o v, by simp [World.setCell, Array.getElem?_modify, hC]⟩
 obtain ⟨k0, h0⟩ := st W 0 v0 ⟨C, h⟩
 obtain ⟨k1, h1⟩ := st _ 1 v1 h0
 obtain ⟨k2, h2⟩ := st _ 2 v2 h1
 obtain ⟨k3, h3⟩ := st _ 3 v3 h2
 obtain ⟨k4, h4⟩ := st _ 4 v4 h3
 obtain ⟨k5, h5⟩ := st _ 5 v5 h4
 obtain ⟨k6, h6⟩ := st _ 6 v6 h5
 obtain ⟨k7, h7⟩ := st _ 7 v7 h6
 exact (((((((k0.trans k1).trans k2).trans k3).trans k4).trans k5).trans k6).trans k7)
def ReadPost (s : ByteArray) (w : World) (e : Ending) (w' : World) : Prop := ∃ a, e = .returned (cdval (readV s) a) /\ CdK (readV s) a w' /\ Below w.heap.size w w'
theorem read_in (s : ByteArray) (w : World) (hs : s.size <= 65536) (hE : EnvP w) :
 CallsIn Fence.wide 6 Tryz.prog 62 #[.string s] w (ReadPost s w) := by
 refine callsIn_of_wp_marks Tryz.func62 rfl trivial ?_ rfl
 simp only [Tryz.ntmps62, List.size_toArray, List.length_cons, List.length_nil, Nat.reduceAdd, Nat.reduceSub, Array.replicate_succ, Array.replicate_zero, List.push_toArray, List.append_toArray, List.nil_append, List.cons_append]
 gi_wp2_with (refine ⟨trivial, ?_⟩; gi_at_call 103; refine (Lines_in Fence.wide _ trivial rfl _ _).mono ?_; rintro e w' ⟨rfl, rfl⟩)
 obtain ⟨wA, hwA⟩ : ∃ wA, w.alloc (.cells zer8 36) = wA := ⟨_, rfl⟩
 have hsA : wA.heap.size = w.heap.size + 1 := by rw [<- hwA]; simp
 have hbA : Below w.heap.size w wA := by rw [<- hwA]; exact (Below.refl _ _).alloc (Nat.le_refl _) _
 have hAk : wA.heap[w.heap.size]? = some (.cells zer8 36 (0, 0)) := by rw [<- hwA]; exact heap_alloc_new _ _
 have hEA : EnvP wA := hE.on hbA
 obtain ⟨W0, hW0⟩ : ∃ W0, ((w.alloc (.cells zer8 36)).alloc (.cells zer9 166)).alloc (.cells #[.string s] 9) = W0 := ⟨_, rfl⟩
 have hs0 : W0.heap.size = w.heap.size + 3 := by rw [<- hW0]; simp
 have hb0 : Below wA.heap.size wA W0 := by rw [<- hW0, hwA]; exact ((Below.refl _ _).alloc (Nat.le_refl _) _).alloc (by simp) _
 have hk0 : W0.heap[w.heap.size + 1]? = some (.cells zer9 166 (0, 0)) := by
  rw [<- hW0, hwA]
  refine (Below.heap_alloc _ _ _ (by simp [hsA])).trans ?_
  rw [<- hsA]
  exact heap_alloc_new _ _
 have hx0 : Boxed W0 (w.heap.size + 1 + 1) 9 (.string s) := by
  rw [<- hW0, hwA]
  have := Boxed.new (wA.alloc (.cells zer9 166)) 9 (.string s)
  rw [World.size_alloc, hsA] at this
  exact this
 rw [show (((w.alloc (.cells #[(0:Int), (0:Int), (0:Int), (0:Int), (0:Int), .slice none 0 0, .slice none 0 0, .slice none 0 0] 36)).alloc (.cells #[(0:Int), (0:Int), (0:Int), (0:Int), (0:Int), .slice none 0 0, .slice none 0 0, .slice none 0 0, .slice none 0 0] 166)).alloc (.cells #[.string s] 9)) = W0 from hW0]
 clear hW0 hE hwA
 refine range_box (gf := 135) (b := w.heap.size + 1 + 1) (N := nLines s) (enc := fun k => .string (lineN s k)) rfl (by omega) rfl trivial (enters_of Tryz.func135 (by kernel_rfl) rfl)
  (lines_it s _ 5 (by omega) (by omega)) rfl hx0 (RI2 s wA (w.heap.size + 1) (w.heap.size + 5))
  (OwnFrom.and (HC.own (f := readK s)) (ownFrom_below (Nat.le_refl _) (by omega)))
  (fun k A v u h hb => ⟨h.1.box hb 0 u, h.2.setCell (by show wA.heap.size <= w.heap.size + 1 + 1; omega) u⟩)
  (fun o => ⟨hc_start (((Below.heap_alloc _ _ _ (by simp; omega)).trans (Below.heap_alloc _ _ _ (by omega))).trans hk0) (by simp; omega), (hb0.alloc (by omega) _).alloc (by simp; omega) _⟩)
  (fun k => { tmps := #[.string s, undef, .pointer (some ⟨w.heap.size, 0, none⟩), .pointer (some ⟨w.heap.size + 1, 0, none⟩), .string (lineN s k), .string s, .func (.func 135) #[] #[.pointer (some ⟨w.heap.size + 1 + 1, 0, none⟩)], .string (lineN s k), undef, undef, undef, undef, undef, undef, undef], defers := [] }) ?assign ?body ?done
 case assign =>
  intro l k W K hK
  gi_wp2
  exact hK
 case body =>
  intro l k W hi hk
  have HI := lh hi
  have hll := lineN_size s k
  have hnl := nLines_le s
  have HT := lh (fun (W : World) => trimS (lineN s k) (by omega) W)
  have htl := trimL_size (lineN s k)
  have HC := lh (fun (W : World) => cut_any (trimL (lineN s k)) W (by omega))
  have sm := readK_small s k
  have hlen := line_len s k
  have HL := lh (fun (W3 : World) (h3 : HCD (w.heap.size + 1) (w.heap.size + 5) (readK s k) (cutL (trimL (lineN s k))) (restr W (w.heap.size + 5)) W3) =>
   rline_any (w.heap.size + 1) (w.heap.size + 5) (readK s k) (cutL (trimL (lineN s k))) (restr W (w.heap.size + 5)) W3 h3 (envX_restr hEA hi.2 hi.1.hn0 (by omega) (by omega)) (by omega) (fun x hx => by have := line_fields s k x hx; omega) (by have := sm.q; omega) (by have := sm.l; omega) (by have := sm.b; omega) (fun e he => by have := sm.i e he; omega))
  have HN := lh (fun (fs' : List ByteArray) (W3 : World) (h3 : HCD (w.heap.size + 1) (w.heap.size + 5) (lineV (readK s k) (cutL (trimL (lineN s k)))) fs' (restr W (w.heap.size + 5)) W3) => hi.next (by omega) (by omega) h3)
  have HF := lh (fun (W1 : World) (v : Value) (hb : Below W.heap.size W W1) (hf : FSl W1 v (cutL (trimL (lineN s k)))) => RI2.fields hi hb hf)
  obtain ⟨ln, hln⟩ : ∃ ln, lineN s k = ln := ⟨_, rfl⟩
  rw [hln] at HT HC HL HN HF ⊢
  obtain ⟨tl, htl2⟩ : ∃ tl, trimL ln = tl := ⟨_, rfl⟩
  rw [htl2] at HT HC HL HN HF
  have HS0 := lh hs0
  clear hi hll hnl htl sm hlen hln htl2 hs0 hk0 hx0 hAk hsA
  gi_wp2_with (first
   | (refine ⟨trivial, ?_⟩; gi_at_call 105; refine (CallsIn.inRound l (callsIn_wide.2 (HT.out _))).mono ?_; rintro e w1 ⟨rfl, rfl⟩)
   | (refine ⟨trivial, ?_⟩; gi_at_call 104; refine (CallsIn.inRound l (callsIn_wide.2 (HC.out _))).mono ?_; rintro e W1 ⟨v, rfl, hf, hb⟩; have HF1 := lh (HF.out W1 v hb hf); obtain ⟨g8, hg8⟩ := (HI.out.1.on hb).row; have c8 := hg8.cell (i := 8) (by decide); have f8 := hg8.frozen 8; obtain ⟨A, c, rfl, _⟩ := hf; clear hb hg8)
   | (refine ⟨trivial, ?_⟩; gi_at_call 106; refine (CallsIn.inRound l (callsIn_wide.2 (HL.out _ HF1.out))).mono ?_; rintro e W3 ⟨⟨v, rfl⟩, fs', h3⟩; have H3 := lh h3; clear h3))
  obtain ⟨q1, q2⟩ := HN.out fs' W3 H3.out
  have h0 := HS0.out
  exact ⟨fun j h1 h2 => q2 j (by omega) (by omega), q2 _ (by omega) (by omega), q1⟩
 case done =>
  intro D W hD hi hK
  have sm := readK_small s (nLines s)
  have hnl := nLines_le s
  have hnm := readK_names s (nLines s)
  obtain ⟨a, g, hr, g04, g5, g6, g7, hM⟩ := hi.1.code (fun a ha => by have := hnm a ha; omega) (fun e he => by have := sm.i e he; omega)
  have hbx : W.heap[w.heap.size]? = some (.cells zer8 36 (0, 0)) := (hi.2.block _ (by omega)).trans hAk
  have c0 := hr.cell (i := 0) (by decide)
  have c1 := hr.cell (i := 1) (by decide)
  have c2 := hr.cell (i := 2) (by decide)
  have c3 := hr.cell (i := 3) (by decide)
  have c4 := hr.cell (i := 4) (by decide)
  have c5 := hr.cell (i := 5) (by decide)
  have c6 := hr.cell (i := 6) (by decide)
  have c7 := hr.cell (i := 7) (by decide)
  rw [g04 _ (by decide)] at c0 c1 c2 c3 c4
  rw [g5] at c5
  rw [g6] at c6
  rw [g7] at c7
  have f0 : ∀ o, W.frozen? ⟨w.heap.size, o, none⟩ = false := fun o => by simp [World.frozen?, hbx]
  have d0 : W.cell? ⟨w.heap.size, 0, none⟩ = some (.int .i64 0) := by simp only [World.cell?, hbx]; rfl
  have d1 : W.cell? ⟨w.heap.size, 1, none⟩ = some (.int .i64 0) := by simp only [World.cell?, hbx]; rfl
  have d2 : W.cell? ⟨w.heap.size, 2, none⟩ = some (.int .i64 0) := by simp only [World.cell?, hbx]; rfl
  have d3 : W.cell? ⟨w.heap.size, 3, none⟩ = some (.int .i64 0) := by simp only [World.cell?, hbx]; rfl
  have d4 : W.cell? ⟨w.heap.size, 4, none⟩ = some (.int .i64 0) := by simp only [World.cell?, hbx]; rfl
  have d5 : W.cell? ⟨w.heap.size, 5, none⟩ = some (.slice none 0 0) := by simp only [World.cell?, hbx]; rfl
  have d6 : W.cell? ⟨w.heap.size, 6, none⟩ = some (.slice none 0 0) := by simp only [World.cell?, hbx]; rfl
  have d7 : W.cell? ⟨w.heap.size, 7, none⟩ = some (.slice none 0 0) := by simp only [World.cell?, hbx]; rfl
  have HM := lh hM
  have HB := lh hi.2
  have HX := lh hbx
  have HR := lh (show ReadPost s w = fun e w' => ∃ a, e = .returned (cdval (readK s (nLines s)) a) /\ CdK (readK s (nLines s)) a w' /\ Below w.heap.size w w' from rfl)
  obtain ⟨c, hc⟩ : ∃ c, readK s (nLines s) = c := ⟨_, rfl⟩
  rw [hc] at HM HR c0 c1 c2 c3 c4 c5 c6 c7
  have HK := lh hK
  have HD := lh hD
  clear hM hi hbx hr g04 g5 g6 g7 hc hK hD sm hnl hnm
  gi_wp2
  have hne : D ≠ w.heap.size := by have := HD.out; omega
  refine ⟨by simp, .inl ⟨_, _, rfl, run_takeDeferred (ds := []) ?_, ?_⟩⟩
  . repeat rw [Below.heap_setCell _ _ _ _ (by exact hne)]
    exact HK.out
  have hp : ∀ (X : World) (o : Obj) (i : Nat), (X.putObj D o).cell? ⟨w.heap.size, i, none⟩ = X.cell? ⟨w.heap.size, i, none⟩ := fun X o i => World.cell?_of_block (a := ⟨w.heap.size, i, none⟩) (World.putObj_heap_other (fun e => hne e.symm))
  have hDk : ((((((((W.setCell ⟨w.heap.size, 0, none⟩ (.int .i64 (c.n 0))).setCell ⟨w.heap.size, 1, none⟩ (.int .i64 (c.n 1))).setCell ⟨w.heap.size, 2, none⟩ (.int .i64 (c.n 2))).setCell ⟨w.heap.size, 3, none⟩ (.int .i64 (c.n 3))).setCell ⟨w.heap.size, 4, none⟩ (.int .i64 (c.n 4))).setCell ⟨w.heap.size, 5, none⟩ (.slice a.a1 c.q.length a.c1)).setCell ⟨w.heap.size, 6, none⟩ (.slice a.a2 c.l.length a.c2)).setCell ⟨w.heap.size, 7, none⟩ (.slice a.a3 c.b.length a.c3)).heap[D]? = some (.deferred (some [])) := by
   repeat rw [Below.heap_setCell _ _ _ _ (by exact hne)]
   exact HK.out
  refine ⟨cdval c a, by simp [results, Tryz.results62, go_sem, hp, cdval, d0, d1, d2, d3, d4, d5, d6, d7], ?_⟩
  rw [HR.out]
  refine ⟨a, rfl, HM.out.k ((k36_store HX.out _ _ _ _ _ _ _ _).trans (K36.put hDk rfl)), ?_⟩
  have hDw : w.heap.size <= D := by have := HD.out; omega
  refine Below.trans ?_ (belowK_b (w := w) (Nat.le_refl _) _ D _ _ hDw hDk rfl rfl)
  exact ((((((((hbA.trans (HB.out.mono (by omega))).setCell (Nat.le_refl _) _).setCell (Nat.le_refl _) _).setCell (Nat.le_refl _) _).setCell (Nat.le_refl _) _).setCell (Nat.le_refl _) _).setCell (Nat.le_refl _) _).setCell (Nat.le_refl _) _).setCell (Nat.le_refl _) _
theorem read_c (s : ByteArray) (w : World) (hs : s.size <= 65536) (hE : EnvP w) : Calls Tryz.prog 62 #[.string s] w (ReadPost s w) := callsIn_wide.1 (read_in s w hs hE)
def parseB (s : ByteArray) : Bool := decide (chkC (readV s) = 0) && decide ((⟨(txtC (readV s)).toArray⟩ : ByteArray) = s)
def parseC (s : ByteArray) : CdV := if parseB s = true then readV s else cd0
def parseE (s : ByteArray) : Int := if parseB s = true then 0 else 3
def ParsePost (s : ByteArray) (w : World) (e : Ending) (w' : World) : Prop := ∃ a, e = .returned (.tuple #[cdval (parseC s) a, (parseE s)]) /\ CdK (parseC s) a w' /\ Below w.heap.size w w'
def noAd : CdA := ⟨none, 0, none, 0, none, 0, fun _ => none, fun _ => 0⟩
theorem cd0_mem (W : World) : CdK cd0 noAd W := fun W' _ =>
 ⟨fun h => absurd h (by decide), fun h => absurd h (by decide), fun h => absurd h (by decide), fun j h => absurd h (by simp [cd0]), fun j h => absurd h (by simp [cd0]), fun j => by
  show ((([] : List ArV).getD j noA).1).size <= _
  simp [noA]
  decide⟩
theorem OneK.set {w wx : World} {T : TypeId} {K : Array Value} (h : OneK w T K wx) {p : Addr} (hp : w.heap.size + 1 <= p.block) (v : Value) : OneK w T K (wx.setCell p v) := ⟨h.on.setCell hp v⟩
theorem OneK.alloc {w wx : World} {T : TypeId} {K : Array Value} (h : OneK w T K wx) (o : Obj) : OneK w T K (wx.alloc o) := h.step ((Below.refl _ _).alloc (Nat.le_refl _) _)
theorem OneK.free {w wx : World} {T : TypeId} {K : Array Value} (h : OneK w T K wx) (o : Nat) : wx.frozen? ⟨w.heap.size, o, none⟩ = false := by simp [World.frozen?, h.blk]
theorem Parse_c (s : ByteArray) (w : World) (hs : s.size <= 65536) (hE : EnvP w) : Calls Tryz.prog 32 #[.string s] w (ParsePost s w) := by
 have HK0 := lh (OneK.start (w := w) (T := 36) (K := zer8))
 have HR := lh (fun (W : World) (hW : OneK w 36 zer8 W) => read_c s W hs (hE.on hW.below))
 have HP := lh (show ParsePost s w = fun e w' => ∃ a, e = .returned (.tuple #[cdval (parseC s) a, (parseE s)]) /\ CdK (parseC s) a w' /\ Below w.heap.size w w' from rfl)
 have hfit := readK_fits s hs
 have hok := (readK_ok s (nLines s)).rng
 have HTE := lh (fun (a : CdA) (W : World) (hM : CdK (readV s) a W) (hz : chkC (readV s) ≠ 0) => Text_cerr (readV s) a W hM.mem hfit hz)
 have HTO := lh (fun (a : CdA) (W : World) (hM : CdK (readV s) a W) (hW : OneK w 36 zer8 W) (hz : chkC (readV s) = 0) => Text_cok (readV s) a W hM.mem hfit hok (hE.on hW.below).tab hz)
 unfold ReadPost at HR
 unfold parseC parseE parseB at HP
 obtain ⟨c, hc⟩ : ∃ c, readV s = c := ⟨_, rfl⟩
 rw [hc] at HR HP HTE HTO
 obtain ⟨z, hz⟩ : ∃ z, chkC c = z := ⟨_, rfl⟩
 rw [hz] at HP HTE HTO
 obtain ⟨T, hT⟩ : ∃ T : ByteArray, (⟨(txtC c).toArray⟩ : ByteArray) = T := ⟨_, rfl⟩
 rw [hT] at HP HTO
 clear hfit hok hc hz hT hE
 simp only [cdval] at HR HTE HTO
 have HBL := lh (fun (W : World) (hW : OneK w 36 zer8 W) (v0 v1 v2 v3 v4 v5 v6 v7 : Value) => ((((((((hW.below.setCell (Nat.le_refl _) v0 (p := ⟨w.heap.size, 0, none⟩)).setCell (Nat.le_refl _) v1 (p := ⟨w.heap.size, 1, none⟩)).setCell (Nat.le_refl _) v2 (p := ⟨w.heap.size, 2, none⟩)).setCell (Nat.le_refl _) v3 (p := ⟨w.heap.size, 3, none⟩)).setCell (Nat.le_refl _) v4 (p := ⟨w.heap.size, 4, none⟩)).setCell (Nat.le_refl _) v5 (p := ⟨w.heap.size, 5, none⟩)).setCell (Nat.le_refl _) v6 (p := ⟨w.heap.size, 6, none⟩)).setCell (Nat.le_refl _) v7 (p := ⟨w.heap.size, 7, none⟩)))
 by_cases hz : z = 0
 . subst hz
   have HT := lh (fun a W hM hW => HTO.out a W hM hW rfl)
   clear HTE HTO
   by_cases hts : T = s
   . subst hts
     rw [show (decide ((0 : Int) = 0) && decide (T = T)) = true by simp] at HP
     go_enter Tryz.func32, Tryz.ntmps32
     go_wp2_with (first
      | (go_at_call 62; (with_reducible refine (HR.out _ HK0.out).mono ?_); rintro e w1 ⟨a, rfl, hM, hb⟩; have HK1 := lh (HK0.out.step hb); have HM := lh hM; clear hM hb)
      | (go_at_call 15; (with_reducible refine (HT.out a _ (HM.out.on ?_) (HK1.out.alloc _)).mono ?_); exact (Below.refl _ _).alloc (Nat.le_refl _) _; rintro e w2 ⟨rfl, hb2⟩; have HK2 := lh ((HK1.out.alloc _).step hb2); have HM2 := lh ((HM.out.on ((Below.refl _ _).alloc (Nat.le_refl _) _)).on hb2); have ck := HK2.out.ck; have cf := HK2.out.free; obtain ⟨cc, cg⟩ := bcell hb2; clear hb2))
     refine bodyPost_ret (v := .tuple #[cdval c a, (0:Int)]) (by simp [results, Tryz.results32, go_sem, ck, cdval]) rfl ?_
     rw [HP.out]
     exact ⟨a, rfl, HM2.out.k (k36_store HK2.out.blk _ _ _ _ _ _ _ _), HBL.out _ HK2.out _ _ _ _ _ _ _ _⟩
   . have hne := bs_ne hts
     rw [show (decide ((0 : Int) = 0) && decide (T = s)) = false by simp [hts]] at HP
     clear hts
     go_enter Tryz.func32, Tryz.ntmps32
     go_wp2_with (first
      | (go_at_call 62; (with_reducible refine (HR.out _ HK0.out).mono ?_); rintro e w1 ⟨a, rfl, hM, hb⟩; have HK1 := lh (HK0.out.step hb); have HM := lh hM; clear hM hb)
      | (go_at_call 15; (with_reducible refine (HT.out a _ (HM.out.on ?_) (HK1.out.alloc _)).mono ?_); exact (Below.refl _ _).alloc (Nat.le_refl _) _; rintro e w2 ⟨rfl, hb2⟩; have HK2 := lh ((HK1.out.alloc _).step hb2); have ck := HK2.out.ck; have cf := HK2.out.free; clear hb2))
     refine bodyPost_ret (v := .tuple #[cdval cd0 noAd, (3:Int)]) (by simp [results, Tryz.results32, go_sem, ck, cdval, cd0, noAd]) rfl ?_
     rw [HP.out]
     exact ⟨noAd, rfl, cd0_mem _, HBL.out _ HK2.out _ _ _ _ _ _ _ _⟩
 . have HT := lh (fun a W hM => HTE.out a W hM hz)
   have hzb : (z != 0) = true := by simpa using hz
   rw [show (decide (z = 0) && decide (T = s)) = false by simp [hz]] at HP
   clear HTE HTO hz
   go_enter Tryz.func32, Tryz.ntmps32
   go_wp2_with (first
    | (go_at_call 62; (with_reducible refine (HR.out _ HK0.out).mono ?_); rintro e w1 ⟨a, rfl, hM, hb⟩; have HK1 := lh (HK0.out.step hb); have HM := lh hM; clear hM hb)
    | (go_at_call 15; (with_reducible refine (HT.out a _ (HM.out.on ?_)).mono ?_); exact (Below.refl _ _).alloc (Nat.le_refl _) _; rintro e w2 ⟨rfl, hb2⟩; have HK2 := lh ((HK1.out.alloc _).step hb2); have ck := HK2.out.ck; have cf := HK2.out.free; clear hb2))
   refine bodyPost_ret (v := .tuple #[cdval cd0 noAd, (3:Int)]) (by simp [results, Tryz.results32, go_sem, ck, cdval, cd0, noAd]) rfl ?_
   rw [HP.out]
   exact ⟨noAd, rfl, cd0_mem _, HBL.out _ HK2.out _ _ _ _ _ _ _ _⟩
end Go.Proofs.YtkncilgmlkeifaaGreatDoor
