import Derived.Test.YtkncilgmlkeifaaGreatDoorPar
import Derived.Test.YtkncilgmlkeifaaGreatDoorExa
import Derived.Test.YtkncilgmlkeifaaGreatDoorCpy
/-
  The law's example in the words of the checker, the writer and the reader.
-/
set_option linter.unusedVariables false
set_option linter.unusedSimpArgs false
namespace Go.Proofs.YtkncilgmlkeifaaGreatDoor
open Go.ChangeShapes Go.WideShapes Go.ChangeAt Go.RowKit Go.Shelf

def ex0 : InstV := ⟨5, 1, 0, ⟨2, 0, 0⟩, noOpd, noOpd, noOpd⟩
def ex1 (n : Int) : InstV := ⟨8, 0, n, noOpd, ⟨2, 0, 0⟩, ⟨1, 0, 7⟩, noOpd⟩
def exE : TermV := ⟨5, 0, noOpd, noOpd, noOpd, 0, 0⟩
def exN (j : Nat) : Int := if j = 0 then 4 else if j = 1 then 2 else if j = 2 then 2 else 0
def exC (n : Int) : CdV := ⟨[(⟨#[97]⟩, 1, 1, 8)], [], [([ex0, ex1 n], exE)], exN⟩
def exT : ByteArray := ⟨#[99, 111, 100, 101, 32, 52, 32, 50, 32, 50, 32, 48, 32, 48, 10, 97, 114, 114, 97, 121, 32, 97, 32, 49, 32, 49, 32, 56, 10, 98, 108, 111, 99, 107, 10, 105, 100, 32, 49, 32, 114, 48, 10, 115, 116, 111, 114, 101, 32, 48, 32, 114, 48, 32, 55, 10, 101, 120, 105, 116, 10]⟩
def exT2 : ByteArray := ⟨#[99, 111, 100, 101, 32, 52, 32, 50, 32, 50, 32, 48, 32, 48, 10, 97, 114, 114, 97, 121, 32, 97, 32, 49, 32, 49, 32, 56, 10, 98, 108, 111, 99, 107, 10, 105, 100, 32, 49, 32, 114, 48, 10, 115, 116, 111, 114, 101, 32, 48, 32, 114, 48, 32, 55, 10, 101, 120, 105, 116, 10, 32]⟩
theorem ex_chk : chkC (exC 0) = 0 := by decide +kernel
theorem ex_chk1 : chkC (exC 1) = 50 := by decide +kernel
theorem ex_txt : (⟨(txtC (exC 0)).toArray⟩ : ByteArray) = exT := by decide +kernel
theorem ex_parse : parseB exT = true := by decide +kernel
theorem ex_parse2 : parseB exT2 = false := by decide +kernel
theorem ex_same : sameCd (exC 0) (readV exT) = true := by decide +kernel
theorem ex_reach : reachC (exC 0) 0 = true := by decide +kernel
theorem ex_zero : chkC cd0 = 50 := by decide +kernel
theorem ex_uses : usesI ⟨3, 10, 0, ⟨2, 3, 0⟩, ⟨2, 5, 0⟩, ⟨2, 2, 0⟩, noOpd⟩ = [2, 5] := by
  have e1 : regsL (lstO [⟨2, 5, 0⟩, ⟨2, 2, 0⟩, noOpd]) 3 = [5, 2] := by decide +kernel
  have e2 : srt [5, 2] = [2, 5] := by simp [srt, List.mergeSort, List.MergeSort.Internal.splitInTwo, List.merge]
  show Lib.compact (srt (regsL (lstO [⟨2, 5, 0⟩, ⟨2, 2, 0⟩, noOpd]) 3)) = [2, 5]
  rw [e1, e2]
  decide +kernel
theorem ex_usesT : usesT ⟨2, 0, noOpd, ⟨2, 1, 0⟩, noOpd, 4, 4⟩ = [1] := by decide +kernel
theorem ex_succ : succL ⟨2, 0, noOpd, ⟨2, 1, 0⟩, noOpd, 4, 4⟩ = [4] := by decide +kernel
end Go.Proofs.YtkncilgmlkeifaaGreatDoor
/-
  The law's example: its rows; its copy with a changed number; boxes and codes that stay.
-/
set_option linter.unusedVariables false
set_option linter.unusedSimpArgs false
namespace Go.Proofs.YtkncilgmlkeifaaGreatDoor
open Go.ChangeShapes Go.WideShapes Go.ChangeAt Go.RowKit Go.Shelf

theorem own_of_blk {W : World} {base e sz n b : Nat} {K : Array Value} (hk : W.heap[b]? = some (.cells K e (0, 0))) (hb : base ≤ b) (hs : K.size = n * sz) (hn : n ≤ maxLen) : W.ownsRow base e sz (.slice (some ⟨b, 0, none⟩) n n) n K.toList :=
  ⟨by simpa using hs, .inr ⟨b, n, K, rfl, hb, hk, Nat.le_refl _, hn, hs, List.take_of_length_le (by rw [Array.length_toList, hs]; exact Nat.le_refl _)⟩⟩
abbrev exQ : List ArV := [(⟨#[97]⟩, 1, 1, 8)]
theorem example_rc (w : World) : Calls Tryz.prog 36 #[] w fun e w' => ∃ v5 v7 vI, e = .returned (.agg #[.int .i64 4, .int .i64 2, .int .i64 2, .int .i64 0, .int .i64 0, v5, .slice none 0 0, v7]) ∧ RC w.heap.size v5 (.slice none 0 0) v7 exQ [] [(vI, [ex0, ex1 0], exE)] w' ∧ Below w.heap.size w w' := by
  refine (example_any w).mono ?_
  rintro e w' ⟨m, hm, rfl, h1, h2, h3, h4, hb⟩
  refine ⟨_, _, .slice (some ⟨m, 0, none⟩) 2 2, rfl, ⟨?_, World.ownsRow_nil _ _ _ _, ?_, ?_⟩, hb⟩
  · exact own_of_blk (n := 1) h1 (by omega) rfl (by decide)
  · exact own_of_blk (n := 1) h3 (by omega) rfl (by decide)
  · intro e he
    rw [List.mem_singleton] at he
    subst he
    exact own_of_blk (n := 2) h2 (by omega) rfl (by decide)
theorem RC.ex {n0 : Nat} {v5 v6 v7 vI : Value} {n : Int} {W : World} (h : RC n0 v5 v6 v7 exQ [] [(vI, [ex0, ex1 n], exE)] W) : ∃ a : CdA, v5 = .slice a.a1 1 a.c1 ∧ v6 = .slice a.a2 0 a.c2 ∧ v7 = .slice a.a3 1 a.c3 ∧ CdK (exC n) a W :=
  h.cdk exN (fun a ha => by
    rw [List.mem_singleton] at ha
    subst ha
    decide) (fun e he => by
    rw [List.mem_singleton] at he
    subst he
    show 2 ≤ 65536
    decide)
abbrev exV (a : CdA) : Array Value := #[.int .i64 4, .int .i64 2, .int .i64 2, .int .i64 0, .int .i64 0, .slice a.a1 1 a.c1, .slice a.a2 0 a.c2, .slice a.a3 1 a.c3]
theorem ex_fits (n : Int) : (exC n).Fits := ⟨by show 1 ≤ 65536; decide, by show 0 ≤ 65536; decide, by show 1 ≤ 65536; decide⟩
theorem opd_rng (k n v : Int) (hn : I64 n) (hv : I32b v) : (⟨k, n, v⟩ : OpdV).Rng := ⟨hn, hv⟩
theorem ex_rng : (exC 0).Rng := by
  have z0 : I64 0 := zero_rng
  have o0 : noOpd.Rng := noOpd_rng
  have o1 : (⟨2, 0, 0⟩ : OpdV).Rng := ⟨zero_rng, by unfold I32b; decide⟩
  have o2 : (⟨1, 0, 7⟩ : OpdV).Rng := ⟨zero_rng, by unfold I32b; decide⟩
  have n1 : I64 1 := by unfold I64; decide
  have hok : CdOk (exC 0) := by
    refine ⟨fun j => ?_, fun a ha => ?_, fun a ha => ?_, fun e he x hx => ?_, fun e he => ?_⟩
    · show I64 (exN j)
      unfold exN I64
      repeat' split
      all_goals decide
    · rw [show (exC 0).q = [(⟨#[97]⟩, 1, 1, 8)] from rfl, List.mem_singleton] at ha
      subst ha
      exact ⟨n1, n1, by unfold I64; decide⟩
    · cases ha
    · rw [show (exC 0).b = [([ex0, ex1 0], exE)] from rfl, List.mem_singleton] at he
      subst he
      rcases List.mem_cons.1 hx with rfl | hx
      · exact ⟨n1, z0, o1, o0, o0, o0, z0, z0⟩
      · rw [List.mem_singleton] at hx
        subst hx
        exact ⟨z0, z0, o0, o1, o2, o0, z0, z0⟩
    · rw [show (exC 0).b = [([ex0, ex1 0], exE)] from rfl, List.mem_singleton] at he
      subst he
      exact ⟨z0, z0, o0, o0, o0, o0, z0, z0⟩
  exact hok.rng
/-- Boxes and codes that stay. -/
structure ES (w : World) (L : List (Nat × Array Value × TypeId)) (M : List (CdV × CdA)) (W : World) : Prop where
  box : ∀ p, p ∈ L → W.heap[p.1]? = some (.cells p.2.1 p.2.2 (0, 0))
  code : ∀ q, q ∈ M → CdK q.1 q.2 W
  below : Below w.heap.size w W
section
variable {w W W' : World} {L : List (Nat × Array Value × TypeId)} {M : List (CdV × CdA)}
theorem ES.start (w : World) : ES w [] [] w := ⟨fun p hp => (by cases hp), fun q hq => (by cases hq), Below.refl _ _⟩
theorem ES.on (h : ES w L M W) (hb : Below W.heap.size W W') : ES w L M W' :=
  ⟨fun p hp => (hb.block p.1 (Array.getElem?_eq_some_iff.1 (h.box p hp)).1).trans (h.box p hp), fun q hq => (h.code q hq).on hb, h.below.trans (hb.mono h.below.size)⟩
theorem ES.alloc (h : ES w L M W) (o : Obj) : ES w L M (W.alloc o) := h.on ((Below.refl _ _).alloc (Nat.le_refl _) _)
theorem ES.push (h : ES w L M W) (K : Array Value) (T : TypeId) : ES w ((W.heap.size, K, T) :: L) M (W.alloc (.cells K T)) :=
  ⟨fun p hp => by
    rcases List.mem_cons.1 hp with rfl | hp
    · exact heap_alloc_new _ _
    · exact (h.alloc _).box p hp, (h.alloc _).code, (h.alloc _).below⟩
theorem ES.add (h : ES w L M W) {c : CdV} {a : CdA} (hc : CdK c a W) : ES w L ((c, a) :: M) W :=
  ⟨h.box, fun q hq => by
    rcases List.mem_cons.1 hq with rfl | hq
    · exact hc
    · exact h.code q hq, h.below⟩
theorem ES.ck (h : ES w L M W) {b : Nat} {K : Array Value} {T : TypeId} (hm : (b, K, T) ∈ L) (o : Nat) : W.cell? ⟨b, o, none⟩ = K[o]? := by simp [World.cell?, show W.heap[b]? = _ from h.box _ hm]
theorem ES.fr (h : ES w L M W) {b : Nat} {K : Array Value} {T : TypeId} (hm : (b, K, T) ∈ L) (o : Nat) : W.frozen? ⟨b, o, none⟩ = false := by simp [World.frozen?, show W.heap[b]? = _ from h.box _ hm]
end
theorem ex_n0 (n : Int) : (exC n).n 0 = 4 := rfl
theorem ex_n1 (n : Int) : (exC n).n 1 = 2 := rfl
theorem ex_n2 (n : Int) : (exC n).n 2 = 2 := rfl
theorem ex_n3 (n : Int) : (exC n).n 3 = 0 := rfl
theorem ex_n4 (n : Int) : (exC n).n 4 = 0 := rfl
theorem ex_b (n : Int) : (exC n).b = [([ex0, ex1 n], exE)] := rfl
theorem ex_val (n : Int) (a : CdA) : cdval (exC n) a = .agg (exV a) := by
  unfold cdval
  rw [ex_n0, ex_n1, ex_n2, ex_n3, ex_n4]
  rfl
/-- Copy of the example: where its second instruction lies. -/
theorem copy_ex (a : CdA) (W : World) (h : CdK (exC 0) a W) : Calls Tryz.prog 38 #[.agg (exV a)] W fun e w' => ∃ v5 v6 gB cB gI cI, e = .returned (.agg #[.int .i64 4, .int .i64 2, .int .i64 2, .int .i64 0, .int .i64 0, v5, v6, .slice (some ⟨gB, 0, none⟩) 1 cB]) ∧ W.heap.size ≤ gI ∧
    (∀ V, Below w'.heap.size w' V → V.cell? ⟨gB, 0, none⟩ = some (.slice (some ⟨gI, 0, none⟩) 2 cI) ∧ V.cell? ⟨gI, 17, none⟩ = some (.int .i64 0) ∧ V.frozen? ⟨gI, 17, none⟩ = false ∧
      RC W.heap.size v5 v6 (.slice (some ⟨gB, 0, none⟩) 1 cB) exQ [] [(.slice (some ⟨gI, 0, none⟩) 2 cI, [ex0, ex1 1], exE)] (V.setCell ⟨gI, 17, none⟩ (.int .i64 1))) ∧ Below W.heap.size W w' := by
  have H := Copy_c (exC 0) a W h.mem (ex_fits 0)
  rw [ex_val] at H
  refine H.mono ?_
  rintro e w' ⟨v5, v6, v7, es, rfl, hr, hes, hb⟩
  rw [ex_b] at hes
  rw [ex_n0, ex_n1, ex_n2, ex_n3, ex_n4]
  have hl : es.length = 1 := by
    have := congrArg List.length hes
    rwa [List.length_map] at this
  obtain ⟨⟨vI, is, te⟩, rfl⟩ := List.length_eq_one_iff.1 hl
  have h2 : (is, te) = ([ex0, ex1 0], exE) := by
    have := hes
    rw [List.map_cons, List.map_nil] at this
    injection this
  injection h2 with h2 h3
  subst h2 h3
  obtain ⟨gB, cB, rfl, _, _⟩ := hr.blocks.form (by simp)
  have hi := hr.insts _ (List.mem_singleton.2 rfl)
  simp only at hi
  obtain ⟨gI, cI, rfl, hgI, _⟩ := hi.form (by decide)
  refine ⟨v5, v6, gB, cB, gI, cI, rfl, hgI, fun V hV => ?_, hb⟩
  have hk := kept_below hV (fun _ => True)
  have hB := row_kept hr.blocks hk trivial
  have hI := row_kept hi hk trivial
  refine ⟨hB.cellAt 0 (by simp), hI.cellAt 17 (by decide), hI.frozenAt 17, ?_⟩
  have hs := hI.stored 17 (.int .i64 1)
  refine ⟨row_kept (row_kept hr.arr hk trivial) (grow_kept hI hs.2) (by decide), row_kept (row_kept hr.loops hk trivial) (grow_kept hI hs.2) (by decide), row_kept hB (grow_kept hI hs.2) (by decide), fun e he => ?_⟩
  rw [List.mem_singleton] at he
  subst he
  exact hs.1
end Go.Proofs.YtkncilgmlkeifaaGreatDoor
