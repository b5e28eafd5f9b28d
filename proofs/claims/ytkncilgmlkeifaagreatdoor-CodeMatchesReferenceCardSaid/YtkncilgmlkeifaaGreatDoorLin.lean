import Derived.Test.YtkncilgmlkeifaaGreatDoorBase
import Derived.Shelf.Strings.BuilderK
import Derived.Shelf.LaysM
import Derived.Test.YtkncilgmlkeifaaGreatDoorShelf
import Derived.Test.YtkncilgmlkeifaaGreatDoorForm
import Derived.Lib.ItoaLen
import Derived.Lib.AppendIntMem
import Derived.Deep.RegionWith
import Derived.Deep.RegionHeld3
/-
  The writer's strings.Builder (the only field of a struct, so that its block is the struct's): contracts of copyCheck, WriteString, WriteByte, String there, over the library's words for a builder.
-/
set_option linter.unusedVariables false
set_option linter.unusedSimpArgs false
set_option maxRecDepth 100000
set_option maxHeartbeats 2000000
namespace Go.Proofs.YtkncilgmlkeifaaGreatDoor
open Go.ChangeShapes Go.WideShapes Go.ChangeAt Go.RowKit Go.Shelf
theorem sizeBu : (Tryz.prog.info? 100).map (·.size) = some 2 := by kernel_rfl
theorem liesBu : liesAt Tryz.prog Tryz.prog.depth 102 (2 / Tryz.prog.cellsOf 102) 0 100 1 = true := by kernel_rfl
theorem infoByteB : (Tryz.prog.info? 5).map (fun i => (i.zero, i.size, i.bytes)) = some (some (.int .u8 0), 1, 1) := by kernel_rfl
theorem cellsByteB : Tryz.prog.cellsOf 5 = 1 := by kernel_rfl
theorem cc_used (b : Nat) (w : World) (h0 : w.cell? ⟨b, 0, none⟩ = some (.pointer (some ⟨b, 0, none⟩))) :
 Calls Tryz.prog 121 #[.pointer (some ⟨b, 0, none⟩)] w fun e w' => e = .returned (.tuple #[]) /\ w' = w := by
 obtain ⟨j, hj, _⟩ := Option.map_eq_some_iff.1 sizeBu
 go_enter Tryz.func121, Tryz.ntmps121
 go_wp2
 rw [Lib.run_neq_ptr_same w _ Tryz.underlying98 hj]
 go_wp2
 go_end0
 exact ⟨rfl, rfl⟩
theorem cc_fresh (b : Nat) (w : World) (h0 : w.cell? ⟨b, 0, none⟩ = some (.pointer none)) (hsh : w.shape? b = some (102, 2)) (hfz : w.frozen? ⟨b, 0, none⟩ = false) :
 Calls Tryz.prog 121 #[.pointer (some ⟨b, 0, none⟩)] w fun e w' => e = .returned (.tuple #[]) /\ w' = w.setCell ⟨b, 0, none⟩ (.pointer (some ⟨b, 0, none⟩)) := by
 obtain ⟨j, hj, hjs⟩ := Option.map_eq_some_iff.1 sizeBu
 go_enter Tryz.func121, Tryz.ntmps121
 go_wp2
 rw [Lib.run_to_unsafe w ⟨b, 0, none⟩ Tryz.underlying98 Tryz.underlying206 hj (by rw [hjs]; decide) hsh (Nat.zero_lt_succ 1)]
 simp only [Result.andThen]
 rw [Oper.upon_value]
 go_wp2
 rw [run_callFunc_extern Tryz.func145 (by kernel_rfl) (by kernel_rfl) (by kernel_rfl) (e := Extern.AbiNoEscape.same) (by kernel_rfl)]
 rw [Lib.run_noEscape]
 simp only [Result.andThen]
 rw [Oper.upon_value]
 go_wp2
 rw [Lib.run_from_unsafe w ⟨b, 0, none⟩ Tryz.underlying206 Tryz.underlying98 hj hsh liesBu]
 simp only [Result.andThen]
 rw [Oper.upon_value]
 go_wp2
 go_end0
 exact ⟨rfl, rfl⟩
theorem cc_any (B b : Nat) (bs : List Value) (w : World) (h : Lib.IsBuilderF 102 5 B b bs w) :
 Calls Tryz.prog 121 #[.pointer (some ⟨b, 0, none⟩)] w fun e w' => e = .returned (.tuple #[]) /\ (Lib.BuilderAtF 102 5 B b (.pointer (some ⟨b, 0, none⟩)) bs w' /\ Below B w w' /\ Lib.OthersKept 5 (some b) w w') := by
 rcases h with h | h
 . refine (cc_fresh b w h.cell0 h.shape h.frozen0).mono ?_
   rintro e w' ⟨rfl, rfl⟩
   exact ⟨rfl, h.used _, (Below.refl B w).setCell (p := ⟨b, 0, none⟩) h.1 _, (Lib.OthersKept.refl _ _ w).setCell ⟨b, 0, none⟩ rfl _⟩
 . refine (cc_used b w h.cell0).mono ?_
   rintro e w' ⟨rfl, rfl⟩
   exact ⟨rfl, h, Below.refl B _, Lib.OthersKept.refl _ _ _⟩
theorem wbyte_any (B b : Nat) (bs : List Value) (c : Int) (w : World) (h : Lib.IsBuilderF 102 5 B b bs w) (hlen : bs.length + 1 <= 140737488355328) (hBw : B <= w.heap.size) :
 Calls Tryz.prog 85 #[.pointer (some ⟨b, 0, none⟩), .int .u8 c] w fun e w' => e = .returned .nilIface /\ (Lib.BuilderAtF 102 5 B b (.pointer (some ⟨b, 0, none⟩)) (bs ++ [.int .u8 c]) w' /\ Below B w w' /\ Lib.OthersKept 5 (some b) w w') := by
 obtain ⟨i0, hi, hz0, hz1, hz2⟩ := info_parts infoByteB
 go_enter Tryz.func85, Tryz.ntmps85
 go_wp2_with (go_at_call 121; refine (cc_any B b bs _ h).mono ?_)
 rintro e w1 ⟨rfl, h1, hb1, hk1⟩
 obtain ⟨hB, v, hbk, hown, hne⟩ := h1
 have c0 : w1.cell? ⟨b, 0, none⟩ = some (.pointer (some ⟨b, 0, none⟩)) := by rw [Lib.cell_of_heap hbk]; rfl
 have c1 : w1.cell? ⟨b, 1, none⟩ = some v := by rw [Lib.cell_of_heap hbk]; rfl
 go_wp2_with (at_builtin; refine wpList_append_ownF _ rfl _ _ 22 rfl B 5 i0 (.int .u8 0) 1 1 Tryz.underlying22 hi hz0 hz1 hz2 rfl (by decide) _ _ _ rfl (hown.alloc _) ⟨w1.heap.size, 0, none⟩ 1 1 [.int .u8 c] rfl rfl ?c1 ?c2 ?c3 ?c4 ?c5 ?_)
 case c1 =>
  intro j u hj
  match j, hj with
  | 0, hj => simp at hj; subst hj; simp [Addr.add]
 case c2 => intro u hu; simp at hu; subst hu; rfl
 case c3 => unfold maxLen; omega
 case c4 => omega
 case c5 => have := hb1.size; simp; omega
 intro v' w2 hown' hgrow _
 have hlt : b < w1.heap.size := by
  rcases Nat.lt_or_ge b w1.heap.size with h' | h'
  . exact h'
  . simp [Array.getElem?_eq_none h'] at hbk
 have hb2 : w2.heap[b]? = some (.cells #[.pointer (some ⟨b, 0, none⟩), v] 102 (0, 0)) := by
  rw [hgrow.block b (by simp; omega) (fun e => hne e.symm), Lib.alloc_old w1 _ b hlt]
  exact hbk
 have d0 : w2.cell? ⟨b, 0, none⟩ = some (.pointer (some ⟨b, 0, none⟩)) := by rw [Lib.cell_of_heap hb2]; rfl
 have d1 : w2.cell? ⟨b, 1, none⟩ = some v := by rw [Lib.cell_of_heap hb2]; rfl
 have f1 : w2.frozen? ⟨b, 1, none⟩ = false := Lib.frozen_of_heap hb2 1
 obtain ⟨g, cap, rfl⟩ : ∃ g cap, v' = .slice (some ⟨g, 0, none⟩) (bs.length + 1) cap := by
  rcases hown'.2 with ⟨_, h0⟩ | ⟨g, cap, cur, fz, hv, _⟩
  . omega
  . exact ⟨g, cap, hv⟩
 go_wp2
 go_ret
 refine ⟨rfl, ?_, ?_, ((hk1.alloc _).grown hgrow (Lib.ownsRowF_kind (hown.alloc _))).setCell ⟨b, 1, none⟩ rfl _⟩
 . exact Lib.BuilderAtF.put (T := 102) (e := 5) hB hb2 (bs' := bs ++ [.int .u8 c]) (by simpa using hown') (by decide)
 . exact ((hb1.alloc (by have := hb1.size; omega) _).grown hgrow (by have := hb1.size; simp; omega) (fun k hk => (hown.lt k hk).1)).setCell (p := ⟨b, 1, none⟩) hB _
theorem wstr_any (B b : Nat) (bs : List Value) (s : ByteArray) (w : World) (h : Lib.IsBuilderF 102 5 B b bs w) (hlen : bs.length + s.size <= 140737488355328) (hBw : B <= w.heap.size) :
 Calls Tryz.prog 83 #[.pointer (some ⟨b, 0, none⟩), .string s] w fun e w' => e = .returned (.tuple #[s.size, .nilIface]) /\ (Lib.BuilderAtF 102 5 B b (.pointer (some ⟨b, 0, none⟩)) (bs ++ Lib.strCells s) w' /\ Below B w w' /\ Lib.OthersKept 5 (some b) w w') := by
 obtain ⟨i0, hi, hz0, hz1, hz2⟩ := info_parts infoByteB
 go_enter Tryz.func83, Tryz.ntmps83
 go_wp2_with (go_at_call 121; refine (cc_any B b bs _ h).mono ?_)
 rintro e w1 ⟨rfl, h1, hb1, hk1⟩
 obtain ⟨hB, v, hbk, hown, hne⟩ := h1
 have c0 : w1.cell? ⟨b, 0, none⟩ = some (.pointer (some ⟨b, 0, none⟩)) := by rw [Lib.cell_of_heap hbk]; rfl
 have c1 : w1.cell? ⟨b, 1, none⟩ = some v := by rw [Lib.cell_of_heap hbk]; rfl
 go_wp2_with (at_builtin; refine Lib.wpList_append_own_stringF _ rfl _ _ 22 9 rfl B 5 i0 Tryz.underlying22 Tryz.underlying9 hi hz0 hz1 hz2 _ _ _ rfl hown s rfl ?c3 ?c4 ?c5 ?_)
 case c3 => unfold maxLen; omega
 case c4 => omega
 case c5 => have := hb1.size; omega
 intro v' w2 hown' hgrow _
 have hlt : b < w1.heap.size := by
  rcases Nat.lt_or_ge b w1.heap.size with h' | h'
  . exact h'
  . simp [Array.getElem?_eq_none h'] at hbk
 have hb2 : w2.heap[b]? = some (.cells #[.pointer (some ⟨b, 0, none⟩), v] 102 (0, 0)) := by
  rw [hgrow.block b hlt (fun e => hne e.symm)]
  exact hbk
 have d0 : w2.cell? ⟨b, 0, none⟩ = some (.pointer (some ⟨b, 0, none⟩)) := by rw [Lib.cell_of_heap hb2]; rfl
 have d1 : w2.cell? ⟨b, 1, none⟩ = some v := by rw [Lib.cell_of_heap hb2]; rfl
 have f1 : w2.frozen? ⟨b, 1, none⟩ = false := Lib.frozen_of_heap hb2 1
 obtain ⟨ao, n', cap, rfl⟩ : ∃ ao n' cap, v' = .slice ao n' cap := by
  rcases hown'.2 with ⟨hv, _⟩ | ⟨g, cap, cur, fz, hv, _⟩
  . exact ⟨_, _, _, hv⟩
  . exact ⟨_, _, _, hv⟩
 go_wp2
 go_ret2
 refine ⟨rfl, ?_, ?_, (hk1.grown hgrow (Lib.ownsRowF_kind hown)).setCell ⟨b, 1, none⟩ rfl _⟩
 . exact Lib.BuilderAtF.put (T := 102) (e := 5) hB hb2 (bs' := bs ++ Lib.strCells s) (by simpa [Lib.strCells_length] using hown') (by decide)
 . exact (hb1.grown hgrow (by have := hb1.size; omega) (fun k hk => (hown.lt k hk).1)).setCell (p := ⟨b, 1, none⟩) hB _
theorem wtext_any (B b : Nat) (l : List UInt8) (w : World) (h : Lib.IsBuilderF 102 5 B b (Lib.byteCells l) w) (h0 : l ≠ []) :
 Calls Tryz.prog 50 #[.pointer (some ⟨b, 0, none⟩)] w fun e w' => e = .returned (.string ⟨l.toArray⟩) /\ Below B w w' := by
 obtain ⟨p, hp, hAt⟩ : ∃ p, (p = .pointer none \/ p = .pointer (some ⟨b, 0, none⟩)) /\ Lib.BuilderAtF 102 5 B b p (Lib.byteCells l) w := by
  rcases h with h | h
  . exact ⟨_, .inl rfl, h⟩
  . exact ⟨_, .inr rfl, h⟩
 obtain ⟨hB, v, hbk, hown, hne⟩ := hAt
 have hl0 : l.length ≠ 0 := by simpa using h0
 rw [Lib.byteCells_length] at hown
 obtain ⟨g, cap, cur, fz, rfl, hbg, hg, hfz, hnc, hcm, hcs, htake⟩ : ∃ g cap cur fz, v = .slice (some ⟨g, 0, none⟩) l.length cap /\ B <= g /\ w.heap[g]? = some (.cells cur 5 fz) /\ fz.2 <= l.length * 1 /\ l.length <= cap /\ cap <= maxLen /\ cur.size = cap * 1 /\ cur.toList.take (l.length * 1) = Lib.byteCells l := by
  rcases hown.2 with ⟨_, hz⟩ | ⟨g, cap, cur, fz, hv, r⟩
  . exact absurd hz hl0
  . exact ⟨g, cap, cur, fz, hv, r⟩
 have c1 : w.drew.cell? ⟨b, 1, none⟩ = some (.slice (some ⟨g, 0, none⟩) l.length cap) := by
  have : w.drew.heap[b]? = some (.cells #[p, .slice (some ⟨g, 0, none⟩) l.length cap] 102 (0, 0)) := hbk
  rw [Lib.cell_of_heap this]; rfl
 have hSD : (Builtin.unsafeSliceData_ #[22] 150 #[.slice (some ⟨g, 0, none⟩) l.length cap]).run Tryz.prog w.drew = .ok (.pointer (some ⟨g, 0, none⟩)) w.drew :=
  Lib.run_unsafeSliceData_row _ _ _ _ _ _ (by omega)
 have hUS : (Builtin.unsafeString_ #[150, 3] 9 #[.pointer (some ⟨g, 0, none⟩), l.length]).run Tryz.prog w.drew = .ok (.string ⟨l.toArray⟩) (w.drew.freeze ⟨g, 0, none⟩ l.length) := by
  refine Lib.run_unsafeString_row w.drew 150 3 9 5 Tryz.underlying150 cellsByteB g cur.size (by have hg' : w.drew.heap[g]? = some (.cells cur 5 fz) := hg; simp [World.shape?, hg']) l h0 (by omega) (by unfold maxLen at hcm; omega) ?_
  intro j x hx
  have := hown.cells (g := g) rfl j (.int .u8 x.toNat) (by simp [Lib.byteCells, hx])
  exact this
 go_enter Tryz.func50, Tryz.ntmps50
 go_wp2
 go_region
 all_goals (go_wp2; go_ret; exact ⟨rfl, Lib.below_freeze (Below.drew (Below.refl B w)) (p := ⟨g, 0, none⟩) hbg _⟩)
def EnvT (w : World) : Prop := Lib.TabIs Tryz.prog w "internal/strconv.uint64pow10" .u64 Lib.pow10Tab
theorem EnvT.on {w w' : World} (h : EnvT w) (hb : Below w.heap.size w w') : EnvT w' := Lib.tabBelow_of_tabIs h w' hb
theorem grown_of_below {w w' : World} (hb : Below w.heap.size w w') (row : Option Nat) : w.grownBy w' row := ⟨hb.os, hb.tape, hb.output, hb.size, fun i hi _ => hb.block i hi⟩
theorem wr_on {T e : TypeId} {B b : Nat} {bs : List Value} {w w' : World} (h : Lib.IsBuilderF T e B b bs w) (hb : Below w.heap.size w w') : Lib.IsBuilderF T e B b bs w' := by
 have k : ∀ p, Lib.BuilderAtF T e B b p bs w -> Lib.BuilderAtF T e B b p bs w' := fun p hA => by
  have hlt := hA.lt
  obtain ⟨hB, v, hbk, hown, hne⟩ := hA
  exact ⟨hB, v, (hb.block b hlt).trans hbk, hown.kept (grown_of_below hb none) (by cases hv : v.ownBlock <;> simp), hne⟩
 exact h.elim (fun x => .inl (k _ x)) (fun x => .inr (k _ x))
theorem others_of_below {e : TypeId} {b : Option Nat} {w w' : World} (hb : Below w.heap.size w w') : Lib.OthersKept e b w w' := fun k o hk _ _ => (hb.block k (Array.getElem?_eq_some_iff.1 hk).1).trans hk
structure WS (w0 : World) (b : Nat) (l : List UInt8) (w : World) : Prop where
 wr : Lib.IsBuilderF 102 5 w0.heap.size b (Lib.byteCells l) w
 on : Below w0.heap.size w0 w
theorem WS.step {w0 w w' : World} {b : Nat} {l : List UInt8} (h : WS w0 b l w) (hb : Below w.heap.size w w') : WS w0 b l w' := ⟨wr_on h.wr hb, h.on.trans (hb.mono h.on.size)⟩
theorem WS.drew {w0 w : World} {b : Nat} {l : List UInt8} (h : WS w0 b l w) : WS w0 b l w.drew := ⟨h.wr, h.on.drew⟩
structure WQ (w0 : World) (b : Nat) (l : List UInt8) (w w' : World) : Prop where
 ws : WS w0 b l w'
 kept : Lib.OthersKept 5 (some b) w w'
theorem WQ.after {w0 w w1 w' : World} {b : Nat} {l : List UInt8} (h : WQ w0 b l w1 w') (hb : Below w.heap.size w w1) : WQ w0 b l w w' := ⟨h.ws, (others_of_below hb).trans h.kept⟩
theorem WQ.next {w0 w w1 w' : World} {b : Nat} {l l' : List UInt8} (h : WQ w0 b l w w1) (k : WQ w0 b l' w1 w') : WQ w0 b l' w w' := ⟨k.ws, h.kept.trans k.kept⟩
theorem ws_str {w0 w : World} {b : Nat} {l : List UInt8} (s : ByteArray) (h : WS w0 b l w) (hlen : l.length + s.size <= 140737488355328) :
 Calls Tryz.prog 83 #[.pointer (some ⟨b, 0, none⟩), .string s] w fun e w' => (∃ v, e = .returned v) /\ WQ w0 b (l ++ s.data.toList) w w' := by
 refine (wstr_any w0.heap.size b _ s w h.wr (by rw [Lib.byteCells_length]; exact hlen) h.on.size).mono ?_
 rintro e w' ⟨rfl, hA, hb, hk⟩
 refine ⟨⟨_, rfl⟩, ⟨⟨?_, h.on.trans hb⟩, hk⟩⟩
 have e1 : Lib.byteCells (l ++ s.data.toList) = Lib.byteCells l ++ Lib.strCells s := by simp [Lib.byteCells, Lib.strCells]
 rw [e1]
 exact .inr hA
theorem ws_lf {w0 w : World} {b : Nat} {l : List UInt8} (h : WS w0 b l w) (hlen : l.length + 1 <= 140737488355328) :
 Calls Tryz.prog 85 #[.pointer (some ⟨b, 0, none⟩), .int .u8 10] w fun e w' => (∃ v, e = .returned v) /\ WQ w0 b (l ++ [10]) w w' := by
 refine (wbyte_any w0.heap.size b _ 10 w h.wr (by rw [Lib.byteCells_length]; exact hlen) h.on.size).mono ?_
 rintro e w' ⟨rfl, hA, hb, hk⟩
 refine ⟨⟨_, rfl⟩, ⟨⟨?_, h.on.trans hb⟩, hk⟩⟩
 have e1 : Lib.byteCells (l ++ [10]) = Lib.byteCells l ++ [.int .u8 10] := by simp [Lib.byteCells]
 rw [e1]
 exact .inr hA
def I64 (n : Int) : Prop := -9223372036854775808 <= n /\ n <= 9223372036854775807
theorem itoa_c {w : World} (n : Int) (hn : I64 n) (hE : EnvT w) :
 Calls Tryz.prog 122 #[n] w fun e w' => e = .returned (.string ⟨(Lib.itoa n).toArray⟩) /\ Below w.heap.size w w' := by
 refine (Tryz.strconv_Itoa n hn.1 hn.2 w hE).mono ?_
 rintro e w' ⟨rfl, k, os, rfl⟩
 exact ⟨rfl, Lib.below_grow _ _ (Nat.le_refl _) _ _⟩
theorem bapp (p q : Array UInt8) : ((⟨p⟩ : ByteArray) ++ ⟨q⟩ : ByteArray).data.toList = p.toList ++ q.toList := by
 simp [ByteArray.data_append]
theorem bapp_size (p q : Array UInt8) : ((⟨p⟩ : ByteArray) ++ ⟨q⟩ : ByteArray).size = p.size + q.size := by
 show (_ : Array UInt8).size = _
 simp [ByteArray.data_append]
theorem ws_sum {w0 w : World} {b : Nat} {l : List UInt8} (p q : Array UInt8) (h : WS w0 b l w) (hlen : l.length + (p.size + q.size) <= 140737488355328) :
 Calls Tryz.prog 83 #[.pointer (some ⟨b, 0, none⟩), .string (⟨p⟩ ++ ⟨q⟩)] w fun e w' => (∃ v, e = .returned v) /\ WQ w0 b (l ++ (p.toList ++ q.toList)) w w' := by
 have H := ws_str (⟨p⟩ ++ ⟨q⟩) h (by rw [bapp_size]; exact hlen)
 rw [bapp] at H
 exact H
theorem number_any {w0 w : World} {b : Nat} {l : List UInt8} (n : Int) (hn : I64 n) (hE : EnvT w0) (h : WS w0 b l w) (hlen : l.length + 30 <= 140737488355328) :
 Calls Tryz.prog 84 #[.pointer (some ⟨b, 0, none⟩), n] w fun e w' => (∃ v, e = .returned v) /\ WQ w0 b (l ++ 32 :: Lib.itoa n) w w' := by
 have hl := Lib.itoa_length_le n hn.1 hn.2
 have HI := lh (fun (W : World) (hW : WS w0 b l W) => itoa_c (w := W) n hn (hE.on hW.on))
 have HS := lh (fun (W : World) (hW : WS w0 b l W) => ws_sum (w := W) #[32] (Lib.itoa n).toArray hW (by simp; omega))
 have HW := lh h
 clear hn hE h hlen
 go_enter Tryz.func84, Tryz.ntmps84
 go_wp2
 go_region_with (first | (go_at_call 122; (with_reducible refine (HI.out _ HW.out.drew).mono ?_); rintro e w1 ⟨rfl, hb1⟩; have HX := lh (HW.out.drew.step hb1); have HB1 := lh ((Below.refl w.heap.size w).drew.trans hb1); clear hb1) | (go_at_call 83; (with_reducible refine (HS.out _ HX.out).mono ?_); rintro e w2 ⟨⟨v, rfl⟩, hq⟩; have HQ := lh (hq.after HB1.out); clear hq))
 all_goals
  go_wp2
  go_end0
  exact ⟨⟨_, rfl⟩, HQ.out⟩
def opdT (o : OpdV) : List UInt8 := if o.k = 1 then 32 :: Lib.itoa o.v else 32 :: 114 :: Lib.itoa o.n
theorem operand_any {w0 w : World} {b : Nat} {l : List UInt8} (k n v : Int) (hn : I64 n) (hv : -2147483648 <= v /\ v <= 2147483647) (hE : EnvT w0) (h : WS w0 b l w) (hlen : l.length + 30 <= 140737488355328) :
 Calls Tryz.prog 126 #[.pointer (some ⟨b, 0, none⟩), .agg #[k, n, .int .i32 v]] w fun e w' => (∃ v, e = .returned v) /\ WQ w0 b (l ++ opdT ⟨k, n, v⟩) w w' := by
 have hal : ∀ o, Below w.heap.size w (w.alloc o) := fun o => (Below.refl _ _).alloc (Nat.le_refl _) o
 have HAL := lh hal
 have HW := lh h
 unfold opdT
 by_cases hk : k = 1
 . subst hk
   rw [if_pos rfl]
   have HN := lh (fun (W : World) (hW : WS w0 b l W) => number_any (w := W) v ⟨by omega, by omega⟩ hE hW hlen)
   clear hal hE h hlen hn
   obtain ⟨hv1, hv2⟩ := hv
   go_enter Tryz.func126, Tryz.ntmps126
   go_wp2_with (first | (go_at_call 84; (with_reducible refine (HN.out _ (HW.out.step (HAL.out _))).mono ?_); rintro e w1 ⟨⟨v, rfl⟩, hq⟩; have HQ := lh (hq.after (HAL.out _)); clear hq))
   exact bodyPost_ret (results_none rfl _ _ _) rfl ⟨⟨_, rfl⟩, HQ.out⟩
 . rw [if_neg hk]
   have hk2 : (k == 1) = false := by simpa using hk
   have hl := Lib.itoa_length_le n hn.1 hn.2
   have HI := lh (fun (W : World) (hW : WS w0 b l W) => itoa_c (w := W) n hn (hE.on hW.on))
   have HS := lh (fun (W : World) (hW : WS w0 b l W) => ws_sum (w := W) #[32, 114] (Lib.itoa n).toArray hW (by simp; omega))
   clear hal hE h hlen hn hk
   go_enter Tryz.func126, Tryz.ntmps126
   go_wp2
   go_region_with (first | (go_at_call 122; (with_reducible refine (HI.out _ (HW.out.step (HAL.out _)).drew).mono ?_); rintro e w1 ⟨rfl, hb1⟩; have HX := lh ((HW.out.step (HAL.out _)).drew.step hb1); have HB1 := lh ((HAL.out _).drew.trans (hb1.mono (by simp))); clear hb1) | (go_at_call 83; (with_reducible refine (HS.out _ HX.out).mono ?_); rintro e w2 ⟨⟨v, rfl⟩, hq⟩; have HQ := lh (hq.after HB1.out); clear hq))
   all_goals
    go_wp2
    go_end0
    exact ⟨⟨_, rfl⟩, HQ.out⟩
theorem cell_blk {w : World} {b i : Nat} {C : Array Value} {T : TypeId} {fr : Nat × Nat} {v : Value} (h : w.heap[b]? = some (.cells C T fr)) (hv : C[i]? = some v) : w.cell? ⟨b, i, none⟩ = some v := by simp [World.cell?, h, hv]
def RIk (w : World) (b : Nat) (A : Option Addr) (n : Nat) (f : Nat -> Int) : Prop :=
 0 < n -> ∃ bb off C T fr, A = some ⟨bb, off, none⟩ /\ bb ≠ b /\ w.heap[bb]? = some (.cells C T fr) /\ T ≠ 5 /\ ∀ j, j < n -> C[off + j]? = some (.int .i64 (f j))
theorem kept_blk {w w' : World} {b bb : Nat} {C : Array Value} {T : TypeId} {fr : Nat × Nat} (hk : Lib.OthersKept 5 (some b) w w') (h : w.heap[bb]? = some (.cells C T fr)) (hb : bb ≠ b) (hT : T ≠ 5) : w'.heap[bb]? = some (.cells C T fr) :=
 hk bb _ h (fun e => hb (by injection e)) (fun c fz e => by injection e with _ e2 _; exact hT e2)
theorem RIk.kept {w w' : World} {b : Nat} {A : Option Addr} {n : Nat} {f : Nat -> Int} (h : RIk w b A n f) (hk : Lib.OthersKept 5 (some b) w w') : RIk w' b A n f := fun hn => by
 obtain ⟨bb, off, C, T, fr, e, hb, hh, hT, hc⟩ := h hn
 exact ⟨bb, off, C, T, fr, e, hb, kept_blk hk hh hb hT, hT, hc⟩
def numsT (f : Nat -> Int) : Nat -> List UInt8
 | 0 => []
 | k + 1 => numsT f k ++ 32 :: Lib.itoa (f k)
theorem numsT_len {f : Nat -> Int} {n : Nat} (h : ∀ j, j < n -> I64 (f j)) : ∀ k, k <= n -> (numsT f k).length <= k * 30
 | 0, _ => Nat.le_refl _
 | k + 1, hk => by
  have h1 := numsT_len h k (by omega)
  have h2 := Lib.itoa_length_le (f k) (h k (by omega)).1 (h k (by omega)).2
  simp only [numsT, List.length_append, List.length_cons]
  omega
theorem line_any {w0 w : World} {b : Nat} {l : List UInt8} (words : ByteArray) (A : Option Addr) (n c : Nat) (f : Nat -> Int) (hn : n <= 1000) (hf : ∀ j, j < n -> I64 (f j)) (hR : RIk w b A n f) (hE : EnvT w0) (h : WS w0 b l w) (hlen : l.length + words.size + n * 30 + 100 <= 140737488355328) :
 Calls Tryz.prog 48 #[.pointer (some ⟨b, 0, none⟩), .string words, .slice A n c] w fun e w' => (∃ v, e = .returned v) /\ WQ w0 b (l ++ words.data.toList ++ numsT f n ++ [10]) w w' := by
 have hw : words.data.toList.length = words.size := by rw [Array.length_toList]; rfl
 have HL := lh (numsT_len hf)
 have HS := lh (ws_str words h (by omega))
 have HN := lh (fun (k : Nat) (W : World) (hk : k < n) (hW : WS w0 b (l ++ words.data.toList ++ numsT f k) W) => number_any (w := W) (f k) (hf k hk) hE hW (by
  have := HL.out k (by omega)
  simp only [List.length_append, hw]
  omega))
 have HB := lh (fun (W : World) (hW : WS w0 b (l ++ words.data.toList ++ numsT f n) W) => ws_lf (w := W) hW (by
  have := HL.out n (by omega)
  simp only [List.length_append, hw]
  omega))
 have HR := lh hR
 clear hf hR hE h hw HL
 go_enter Tryz.func48, Tryz.ntmps48
 go_wp2_with (first | (go_at_call 83; (with_reducible refine HS.out.mono ?_); rintro e w1 ⟨⟨v, rfl⟩, hq⟩; have HQ := lh hq; clear hq))
 go_loopw [7, 15] (fun x i wr => ∃ k : Nat, k <= n /\ i = .int .i64 k /\ Hid (WQ w0 b (l ++ words.data.toList ++ numsT f k) w wr)) (fun _ i _ => n - (intOf i).toNat)
 case atStart => exact ⟨0, Nat.zero_le _, rfl, lh (by rw [numsT, List.append_nil]; exact HQ.out)⟩
 case round =>
  obtain ⟨k, hk, rfl, HK⟩ := hrel
  by_cases hlt : k < n
  . obtain ⟨bb, off, C, T, fr, rfl, hbb, hh, hT, hc⟩ := (HR.out.kept HK.out.kept) (by omega)
    have m0 := cell_blk hh (hc k hlt)
    clear hh hc hbb hT
    have HX := lh (HN.out k wr hlt HK.out.ws)
    go_wp2_with (first | (go_at_call 84; (with_reducible refine HX.out.mono ?_); rintro e w2 ⟨⟨v2, rfl⟩, hq⟩; have HQ2 := lh (HK.out.next hq); clear hq))
    go_roundw
    case rel => exact ⟨k + 1, by omega, by go_num, lh (by rw [numsT, <- List.append_assoc]; exact HQ2.out)⟩
    case measure => simp [intOf]; omega
  . obtain rfl : k = n := by omega
    have HX := lh (HB.out wr HK.out.ws)
    go_wp2_with (first | (go_at_call 85; (with_reducible refine HX.out.mono ?_); rintro e w2 ⟨⟨v2, rfl⟩, hq⟩; have HQ2 := lh (HK.out.next hq); clear hq))
    go_end0
    exact ⟨⟨_, rfl⟩, HQ2.out⟩
theorem w124_any {w0 w : World} {b : Nat} {l : List UInt8} (cb pb o : Nat) (n : Int) (hc : w.cell? ⟨cb, 0, none⟩ = some (.pointer (some ⟨b, 0, none⟩))) (hp : w.cell? ⟨pb, o, none⟩ = some (.int .i64 n)) (hn : I64 n) (hE : EnvT w0) (h : WS w0 b l w) (hlen : l.length + 30 <= 140737488355328) :
 Calls Tryz.prog 124 #[.pointer (some ⟨pb, o, none⟩), .pointer (some ⟨cb, 0, none⟩)] w fun e w' => (∃ v, e = .returned v) /\ WQ w0 b (l ++ 32 :: Lib.itoa n) w w' := by
 have HN := lh (number_any (w := w.drew) n hn hE h.drew hlen)
 clear hE h hlen hn
 go_enter Tryz.func124, Tryz.ntmps124
 go_wp2
 go_region_with (first | (go_at_call 84; (with_reducible refine HN.out.mono ?_); rintro e w1 ⟨⟨v, rfl⟩, hq⟩; have HQ := lh (hq.after ((Below.refl w.heap.size w).drew)); clear hq))
 all_goals
  go_wp2
  go_end0
  exact ⟨⟨_, rfl⟩, HQ.out⟩
theorem w125_any {w0 w : World} {b : Nat} {l : List UInt8} (cb pb o : Nat) (k n v : Int) (hc : w.cell? ⟨cb, 0, none⟩ = some (.pointer (some ⟨b, 0, none⟩))) (hp : w.cell? ⟨pb, o, none⟩ = some (.int .i64 k)) (hp1 : w.cell? ⟨pb, o + 1, none⟩ = some (.int .i64 n)) (hp2 : w.cell? ⟨pb, o + 2, none⟩ = some (.int .i32 v)) (hn : I64 n) (hv : -2147483648 <= v /\ v <= 2147483647) (hE : EnvT w0) (h : WS w0 b l w) (hlen : l.length + 30 <= 140737488355328) :
 Calls Tryz.prog 125 #[.pointer (some ⟨pb, o, none⟩), .pointer (some ⟨cb, 0, none⟩)] w fun e w' => (∃ v, e = .returned v) /\ WQ w0 b (l ++ opdT ⟨k, n, v⟩) w w' := by
 have HN := lh (operand_any (w := w.drew) k n v hn hv hE h.drew hlen)
 clear hE h hlen hn hv
 go_enter Tryz.func125, Tryz.ntmps125
 go_wp2
 go_region_with (first | (go_at_call 126; (with_reducible refine HN.out.mono ?_); rintro e w1 ⟨⟨v, rfl⟩, hq⟩; have HQ := lh (hq.after ((Below.refl w.heap.size w).drew)); clear hq))
 all_goals
  go_wp2
  go_end0
  exact ⟨⟨_, rfl⟩, HQ.out⟩
end Go.Proofs.YtkncilgmlkeifaaGreatDoor
