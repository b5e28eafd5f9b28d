import Derived.Test.YtkncilgmlkeifaaGreatDoorNeq
import Derived.Test.YtkncilgmlkeifaaGreatDoorPar
import Derived.Test.YtkncilgmlkeifaaGreatDoorCpy
import Derived.Test.YtkncilgmlkeifaaGreatDoorRpa
import Derived.Test.YtkncilgmlkeifaaGreatDoorCards
import Derived.Test.YtkncilgmlkeifaaGreatDoorTie
import Derived.ProofKit
import Derived.LaidMore
import Derived.OpenShut
import Derived.Stop.Joined
import Derived.Stop.LaidErr
import Derived.Lib.LaidTab
import Derived.Deep.DeepHandedRow
import Derived.SevenTiedAt
/-
  The law's example: what it makes.
-/
set_option linter.unusedVariables false
set_option linter.unusedSimpArgs false
set_option maxRecDepth 100000
set_option maxHeartbeats 8000000
namespace Go.Proofs.YtkncilgmlkeifaaGreatDoor
open Go.ChangeShapes Go.WideShapes Go.ChangeAt Go.RowKit Go.Shelf
structure ExK (w W : World) : Prop where
 box : W.heap[w.heap.size]? = some (.cells #[(0:Int), (0:Int), (0:Int), (0:Int), (0:Int), .slice none 0 0, .slice none 0 0, .slice none 0 0] 36)
 arr : W.heap[w.heap.size + 1]? = some (.cells #[.string ⟨#[97]⟩, (1:Int), (1:Int), (8:Int)] 91)
 below : Below w.heap.size w W
 size : w.heap.size + 2 <= W.heap.size
theorem ExK.on {w W W' : World} (h : ExK w W) (hb : Below W.heap.size W W') : ExK w W' :=
 ⟨(hb.block _ (by have := h.size; omega)).trans h.box, (hb.block _ (by have := h.size; omega)).trans h.arr, h.below.trans (hb.mono (by have := h.size; omega)), Nat.le_trans h.size hb.size⟩
theorem ExK.alloc {w W : World} (h : ExK w W) (o : Obj) : ExK w (W.alloc o) := h.on ((Below.refl _ _).alloc (Nat.le_refl _) _)
theorem ExK.cells {w W : World} (h : ExK w W) : W.cell? ⟨w.heap.size, 0, none⟩ = some (.int .i64 0) /\ W.cell? ⟨w.heap.size, 1, none⟩ = some (.int .i64 0) /\ W.cell? ⟨w.heap.size, 2, none⟩ = some (.int .i64 0) /\ W.cell? ⟨w.heap.size, 3, none⟩ = some (.int .i64 0) /\ W.cell? ⟨w.heap.size, 4, none⟩ = some (.int .i64 0) /\ W.cell? ⟨w.heap.size, 5, none⟩ = some (.slice none 0 0) /\ W.cell? ⟨w.heap.size, 6, none⟩ = some (.slice none 0 0) /\ W.cell? ⟨w.heap.size, 7, none⟩ = some (.slice none 0 0) := by
 simp only [World.cell?, h.box]
 exact ⟨rfl, rfl, rfl, rfl, rfl, rfl, rfl, rfl⟩
theorem ExK.free {w W : World} (h : ExK w W) (o : Nat) : W.frozen? ⟨w.heap.size, o, none⟩ = false := by simp [World.frozen?, h.box]
theorem example_any (w : World) : Calls Tryz.prog 36 #[] w fun e w' => ∃ m, w.heap.size + 2 <= m /\ e = .returned (.agg #[(4:Int), (2:Int), (2:Int), (0:Int), (0:Int), .slice (some ⟨w.heap.size + 1, 0, none⟩) 1 1, .slice none 0 0, .slice (some ⟨m + 1, 0, none⟩) 1 1]) /\ w'.heap[w.heap.size + 1]? = some (.cells #[.string ⟨#[97]⟩, (1:Int), (1:Int), (8:Int)] 91) /\ w'.heap[m]? = some (.cells #[(5:Int), (1:Int), (0:Int), (2:Int), (0:Int), .int .i32 0, (0:Int), (0:Int), .int .i32 0, (0:Int), (0:Int), .int .i32 0, (0:Int), (0:Int), .int .i32 0, (8:Int), (0:Int), (0:Int), (0:Int), (0:Int), .int .i32 0, (2:Int), (0:Int), .int .i32 0, (1:Int), (0:Int), .int .i32 7, (0:Int), (0:Int), .int .i32 0] 61) /\ w'.heap[m + 1]? = some (.cells #[.slice (some ⟨m, 0, none⟩) 2 2, (5:Int), (0:Int), (0:Int), (0:Int), .int .i32 0, (0:Int), (0:Int), .int .i32 0, (0:Int), (0:Int), .int .i32 0, (0:Int), (0:Int)] 55) /\ m + 2 <= w'.heap.size /\ Below w.heap.size w w' := by
 have h0 : ExK w ((w.alloc (.cells #[(0:Int), (0:Int), (0:Int), (0:Int), (0:Int), .slice none 0 0, .slice none 0 0, .slice none 0 0] 36)).alloc (.cells #[.string ⟨#[97]⟩, (1:Int), (1:Int), (8:Int)] 91)) := ⟨(Below.heap_alloc _ _ _ (by simp)).trans (heap_alloc_new w _), by
  have hk := heap_alloc_new (w.alloc (.cells #[(0:Int), (0:Int), (0:Int), (0:Int), (0:Int), .slice none 0 0, .slice none 0 0, .slice none 0 0] 36)) (.cells #[.string ⟨#[97]⟩, (1:Int), (1:Int), (8:Int)] 91)
  rw [World.size_alloc] at hk
  exact hk, ((Below.refl _ _).alloc (Nat.le_refl _) _).alloc (by simp) _, by simp⟩
 have HR1 := lh ((Reg_any 0 ((w.alloc (.cells #[(0:Int), (0:Int), (0:Int), (0:Int), (0:Int), .slice none 0 0, .slice none 0 0, .slice none 0 0] 36)).alloc (.cells #[.string ⟨#[97]⟩, (1:Int), (1:Int), (8:Int)] 91))).mono fun e w' hh => And.intro hh.1 (h0.on hh.2))
 have HR2 := lh (fun (W : World) (h : ExK w W) => (Reg_any 0 W).mono fun e w' hh => And.intro hh.1 (h.on hh.2))
 have HR3 := lh (fun (W : World) (h : ExK w W) => (Const_any 7 W).mono fun e w' hh => And.intro hh.1 (h.on hh.2))
 clear h0
 go_enter Tryz.func36, Tryz.ntmps36
 go_wp2_with (first
  | (go_at_call 40; (with_reducible refine HR1.out.mono ?_); rintro e w1 ⟨rfl, h1⟩; have H1 := lh h1; clear h1)
  | (go_at_call 40; (with_reducible refine (HR2.out _ H1.out).mono ?_); rintro e w2 ⟨rfl, h2⟩; have H2 := lh h2; clear h2)
  | (go_at_call 42; (with_reducible refine (HR3.out _ H2.out).mono ?_); rintro e w3 ⟨rfl, h3⟩; have q := (fun a b => ((h3.alloc a).alloc b).cells); have qf := (fun a b o => ((h3.alloc a).alloc b).free o); have q0 := (fun a b => (q a b).1); have q1 := (fun a b => (q a b).2.1); have q2 := (fun a b => (q a b).2.2.1); have q3 := (fun a b => (q a b).2.2.2.1); have q4 := (fun a b => (q a b).2.2.2.2.1); have q5 := (fun a b => (q a b).2.2.2.2.2.1); have q6 := (fun a b => (q a b).2.2.2.2.2.2.1); have q7 := (fun a b => (q a b).2.2.2.2.2.2.2); have H3 := lh h3; clear h3 q))
 refine bodyPost_ret (v := .agg #[(4:Int), (2:Int), (2:Int), (0:Int), (0:Int), .slice (some ⟨w.heap.size + 1, 0, none⟩) 1 1, .slice none 0 0, .slice (some ⟨w3.heap.size + 1, 0, none⟩) 1 1]) (by simp [results, Tryz.results36, go_sem, q0, q1, q2, q3, q4, q5, q6, q7]) rfl ?_
 have hsz := H3.out.size
 have hn1 : w.heap.size + 1 ≠ w.heap.size := by omega
 have hn2 : w3.heap.size ≠ w.heap.size := by omega
 have hn3 : w3.heap.size + 1 ≠ w.heap.size := by omega
 refine ⟨w3.heap.size, hsz, rfl, ?_, ?_, ?_, by simp [World.setCell], ?_⟩
 . repeat rw [Below.heap_setCell _ _ _ _ (by exact hn1)]
   exact ((H3.out.alloc _).alloc _).arr
 . repeat rw [Below.heap_setCell _ _ _ _ (by exact hn2)]
   exact (Below.heap_alloc _ _ _ (by simp)).trans (heap_alloc_new w3 _)
 . repeat rw [Below.heap_setCell _ _ _ _ (by exact hn3)]
   have hk := heap_alloc_new (w3.alloc (.cells #[(5:Int), (1:Int), (0:Int), (2:Int), (0:Int), .int .i32 0, (0:Int), (0:Int), .int .i32 0, (0:Int), (0:Int), .int .i32 0, (0:Int), (0:Int), .int .i32 0, (8:Int), (0:Int), (0:Int), (0:Int), (0:Int), .int .i32 0, (2:Int), (0:Int), .int .i32 0, (1:Int), (0:Int), .int .i32 7, (0:Int), (0:Int), .int .i32 0] 61)) (.cells #[.slice (some ⟨w3.heap.size, 0, none⟩) 2 2, (5:Int), (0:Int), (0:Int), (0:Int), .int .i32 0, (0:Int), (0:Int), .int .i32 0, (0:Int), (0:Int), .int .i32 0, (0:Int), (0:Int)] 55)
   rw [World.size_alloc] at hk
   exact hk
 . exact (((((((((H3.out.alloc _).alloc _).below.setCell (by simp) _).setCell (by simp) _).setCell (by simp) _).setCell (by simp) _).setCell (by simp) _).setCell (by simp) _).setCell (by simp) _).setCell (by simp) _
def ex0 : InstV := ⟨5, 1, 0, ⟨2, 0, 0⟩, noOpd, noOpd, noOpd⟩
def ex1 (n : Int) : InstV := ⟨8, 0, n, noOpd, ⟨2, 0, 0⟩, ⟨1, 0, 7⟩, noOpd⟩
def exE : TermV := ⟨5, 0, noOpd, noOpd, noOpd, 0, 0⟩
def exN (j : Nat) : Int := if j = 0 then 4 else if j = 1 then 2 else if j = 2 then 2 else 0
def exC (n : Int) : CdV := ⟨[(⟨#[97]⟩, 1, 1, 8)], [], [([ex0, ex1 n], exE)], exN⟩
def exT : ByteArray := ⟨#[99, 111, 100, 101, 32, 52, 32, 50, 32, 50, 32, 48, 32, 48, 10, 97, 114, 114, 97, 121, 32, 97, 32, 49, 32, 49, 32, 56, 10, 98, 108, 111, 99, 107, 10, 105, 100, 32, 49, 32, 114, 48, 10, 115, 116, 111, 114, 101, 32, 48, 32, 114, 48, 32, 55, 10, 101, 120, 105, 116, 10]⟩
def exT2 : ByteArray := ⟨#[99, 111, 100, 101, 32, 52, 32, 50, 32, 50, 32, 48, 32, 48, 10, 97, 114, 114, 97, 121, 32, 97, 32, 49, 32, 49, 32, 56, 10, 98, 108, 111, 99, 107, 10, 105, 100, 32, 49, 32, 114, 48, 10, 115, 116, 111, 114, 101, 32, 48, 32, 114, 48, 32, 55, 10, 101, 120, 105, 116, 10, 32]⟩
theorem ex_chk : chkC (exC 0) = 0 := by decide +kernel
theorem ex_chk1 : chkC (exC 1) = 50 := by decide +kernel
theorem ex_txt : (⟨(txtC (exC 0)).toArray⟩ : ByteArray) = exT := by decide +kernel
theorem ex_parse : parseB exT = true := by decide +kernel
theorem ex_parse2 : parseB exT2 = false := by decide +kernel
theorem ex_same : sameCd (exC 0) (readV exT) = true := by decide +kernel
theorem ex_reach : reachC (exC 0) 0 = true := by decide +kernel
theorem ex_zero : chkC cd0 = 50 := by decide +kernel
theorem ex_uses : usesI ⟨3, 10, 0, ⟨2, 3, 0⟩, ⟨2, 5, 0⟩, ⟨2, 2, 0⟩, noOpd⟩ = [2, 5] := by
 have e1 : regsL (lstO [⟨2, 5, 0⟩, ⟨2, 2, 0⟩, noOpd]) 3 = [5, 2] := by decide +kernel
 have e2 : srt [5, 2] = [2, 5] := by simp [srt, List.mergeSort, List.MergeSort.Internal.splitInTwo, List.merge]
 show Lib.compact (srt (regsL (lstO [⟨2, 5, 0⟩, ⟨2, 2, 0⟩, noOpd]) 3)) = [2, 5]
 rw [e1, e2]
 decide +kernel
theorem ex_usesT : usesT ⟨2, 0, noOpd, ⟨2, 1, 0⟩, noOpd, 4, 4⟩ = [1] := by decide +kernel
theorem ex_succ : succL ⟨2, 0, noOpd, ⟨2, 1, 0⟩, noOpd, 4, 4⟩ = [4] := by decide +kernel
theorem own_of_blk {W : World} {base e sz n b : Nat} {K : Array Value} (hk : W.heap[b]? = some (.cells K e (0, 0))) (hb : base <= b) (hs : K.size = n * sz) (hn : n <= maxLen) : W.ownsRow base e sz (.slice (some ⟨b, 0, none⟩) n n) n K.toList :=
 ⟨by simpa using hs, .inr ⟨b, n, K, rfl, hb, hk, Nat.le_refl _, hn, hs, List.take_of_length_le (by rw [Array.length_toList, hs]; exact Nat.le_refl _)⟩⟩
abbrev exQ : List ArV := [(⟨#[97]⟩, 1, 1, 8)]
theorem example_rc (w : World) : Calls Tryz.prog 36 #[] w fun e w' => ∃ v5 v7 vI, e = .returned (.agg #[(4:Int), (2:Int), (2:Int), (0:Int), (0:Int), v5, .slice none 0 0, v7]) /\ RC w.heap.size v5 (.slice none 0 0) v7 exQ [] [(vI, [ex0, ex1 0], exE)] w' /\ Below w.heap.size w w' := by
 refine (example_any w).mono ?_
 rintro e w' ⟨m, hm, rfl, h1, h2, h3, h4, hb⟩
 refine ⟨_, _, .slice (some ⟨m, 0, none⟩) 2 2, rfl, ⟨?_, World.ownsRow_nil _ _ _ _, ?_, ?_⟩, hb⟩
 . exact own_of_blk (n := 1) h1 (by omega) rfl (by decide)
 . exact own_of_blk (n := 1) h3 (by omega) rfl (by decide)
 . intro e he
   rw [List.mem_singleton] at he
   subst he
   exact own_of_blk (n := 2) h2 (by omega) rfl (by decide)
theorem RC.ex {n0 : Nat} {v5 v6 v7 vI : Value} {n : Int} {W : World} (h : RC n0 v5 v6 v7 exQ [] [(vI, [ex0, ex1 n], exE)] W) : ∃ a : CdA, v5 = .slice a.a1 1 a.c1 /\ v6 = .slice a.a2 0 a.c2 /\ v7 = .slice a.a3 1 a.c3 /\ CdK (exC n) a W :=
 h.cdk exN (fun a ha => by
  rw [List.mem_singleton] at ha
  subst ha
  decide) (fun e he => by
  rw [List.mem_singleton] at he
  subst he
  show 2 <= 65536
  decide)
abbrev exV (a : CdA) : Array Value := #[(4:Int), (2:Int), (2:Int), (0:Int), (0:Int), .slice a.a1 1 a.c1, .slice a.a2 0 a.c2, .slice a.a3 1 a.c3]
theorem ex_fits (n : Int) : (exC n).Fits := ⟨by show 1 <= 65536; decide, by show 0 <= 65536; decide, by show 1 <= 65536; decide⟩
theorem ex_rng : (exC 0).Rng := by
 have z0 : I64 0 := zero_rng
 have o0 : noOpd.Rng := noOpd_rng
 have o1 : (⟨2, 0, 0⟩ : OpdV).Rng := ⟨zero_rng, by unfold I32b; decide⟩
 have o2 : (⟨1, 0, 7⟩ : OpdV).Rng := ⟨zero_rng, by unfold I32b; decide⟩
 have n1 : I64 1 := by unfold I64; decide
 have hok : CdOk (exC 0) := by
  refine ⟨fun j => ?_, fun a ha => ?_, fun a ha => ?_, fun e he x hx => ?_, fun e he => ?_⟩
  . show I64 (exN j)
    unfold exN I64
    repeat' split
    all_goals decide
  . rw [show (exC 0).q = [(⟨#[97]⟩, 1, 1, 8)] from rfl, List.mem_singleton] at ha
    subst ha
    exact ⟨n1, n1, by unfold I64; decide⟩
  . cases ha
  . rw [show (exC 0).b = [([ex0, ex1 0], exE)] from rfl, List.mem_singleton] at he
    subst he
    rcases List.mem_cons.1 hx with rfl | hx
    . exact ⟨n1, z0, o1, o0, o0, o0, z0, z0⟩
    . rw [List.mem_singleton] at hx
      subst hx
      exact ⟨z0, z0, o0, o1, o2, o0, z0, z0⟩
  . rw [show (exC 0).b = [([ex0, ex1 0], exE)] from rfl, List.mem_singleton] at he
    subst he
    exact ⟨z0, z0, o0, o0, o0, o0, z0, z0⟩
 exact hok.rng
structure ES (w : World) (L : List (Nat × Array Value × TypeId)) (M : List (CdV × CdA)) (W : World) : Prop where
 box : ∀ p, p ∈ L -> W.heap[p.1]? = some (.cells p.2.1 p.2.2 (0, 0))
 code : ∀ q, q ∈ M -> CdK q.1 q.2 W
 below : Below w.heap.size w W
section
variable {w W W' : World} {L : List (Nat × Array Value × TypeId)} {M : List (CdV × CdA)}
theorem ES.start (w : World) : ES w [] [] w := ⟨fun p hp => (by cases hp), fun q hq => (by cases hq), Below.refl _ _⟩
theorem ES.on (h : ES w L M W) (hb : Below W.heap.size W W') : ES w L M W' :=
 ⟨fun p hp => (hb.block p.1 (Array.getElem?_eq_some_iff.1 (h.box p hp)).1).trans (h.box p hp), fun q hq => (h.code q hq).on hb, h.below.trans (hb.mono h.below.size)⟩
theorem ES.alloc (h : ES w L M W) (o : Obj) : ES w L M (W.alloc o) := h.on ((Below.refl _ _).alloc (Nat.le_refl _) _)
theorem ES.push (h : ES w L M W) (K : Array Value) (T : TypeId) : ES w ((W.heap.size, K, T) :: L) M (W.alloc (.cells K T)) :=
 ⟨fun p hp => by
  rcases List.mem_cons.1 hp with rfl | hp
  . exact heap_alloc_new _ _
  . exact (h.alloc _).box p hp, (h.alloc _).code, (h.alloc _).below⟩
theorem ES.add (h : ES w L M W) {c : CdV} {a : CdA} (hc : CdK c a W) : ES w L ((c, a) :: M) W :=
 ⟨h.box, fun q hq => by
  rcases List.mem_cons.1 hq with rfl | hq
  . exact hc
  . exact h.code q hq, h.below⟩
theorem ES.ck (h : ES w L M W) {b : Nat} {K : Array Value} {T : TypeId} (hm : (b, K, T) ∈ L) (o : Nat) : W.cell? ⟨b, o, none⟩ = K[o]? := by simp [World.cell?, show W.heap[b]? = _ from h.box _ hm]
theorem ES.fr (h : ES w L M W) {b : Nat} {K : Array Value} {T : TypeId} (hm : (b, K, T) ∈ L) (o : Nat) : W.frozen? ⟨b, o, none⟩ = false := by simp [World.frozen?, show W.heap[b]? = _ from h.box _ hm]
end
theorem ex_n0 (n : Int) : (exC n).n 0 = 4 := rfl
theorem ex_n1 (n : Int) : (exC n).n 1 = 2 := rfl
theorem ex_n2 (n : Int) : (exC n).n 2 = 2 := rfl
theorem ex_n3 (n : Int) : (exC n).n 3 = 0 := rfl
theorem ex_n4 (n : Int) : (exC n).n 4 = 0 := rfl
theorem ex_b (n : Int) : (exC n).b = [([ex0, ex1 n], exE)] := rfl
theorem ex_val (n : Int) (a : CdA) : cdval (exC n) a = .agg (exV a) := by
 unfold cdval
 rw [ex_n0, ex_n1, ex_n2, ex_n3, ex_n4]
 rfl
theorem copy_ex (a : CdA) (W : World) (h : CdK (exC 0) a W) : Calls Tryz.prog 38 #[.agg (exV a)] W fun e w' => ∃ v5 v6 gB cB gI cI, e = .returned (.agg #[(4:Int), (2:Int), (2:Int), (0:Int), (0:Int), v5, v6, .slice (some ⟨gB, 0, none⟩) 1 cB]) /\ W.heap.size <= gI /\
 (∀ V, Below w'.heap.size w' V -> V.cell? ⟨gB, 0, none⟩ = some (.slice (some ⟨gI, 0, none⟩) 2 cI) /\ V.cell? ⟨gI, 17, none⟩ = some (.int .i64 0) /\ V.frozen? ⟨gI, 17, none⟩ = false /\
  RC W.heap.size v5 v6 (.slice (some ⟨gB, 0, none⟩) 1 cB) exQ [] [(.slice (some ⟨gI, 0, none⟩) 2 cI, [ex0, ex1 1], exE)] (V.setCell ⟨gI, 17, none⟩ (.int .i64 1))) /\ Below W.heap.size W w' := by
 have H := Copy_c (exC 0) a W h.mem (ex_fits 0)
 rw [ex_val] at H
 refine H.mono ?_
 rintro e w' ⟨v5, v6, v7, es, rfl, hr, hes, hb⟩
 rw [ex_b] at hes
 rw [ex_n0, ex_n1, ex_n2, ex_n3, ex_n4]
 have hl : es.length = 1 := by
  have := congrArg List.length hes
  rwa [List.length_map] at this
 obtain ⟨⟨vI, is, te⟩, rfl⟩ := List.length_eq_one_iff.1 hl
 have h2 : (is, te) = ([ex0, ex1 0], exE) := by
  have := hes
  rw [List.map_cons, List.map_nil] at this
  injection this
 injection h2 with h2 h3
 subst h2 h3
 obtain ⟨gB, cB, rfl, _, _⟩ := hr.blocks.form (by simp)
 have hi := hr.insts _ (List.mem_singleton.2 rfl)
 simp only at hi
 obtain ⟨gI, cI, rfl, hgI, _⟩ := hi.form (by decide)
 refine ⟨v5, v6, gB, cB, gI, cI, rfl, hgI, fun V hV => ?_, hb⟩
 have hk := kept_below hV (fun _ => True)
 have hB := row_kept hr.blocks hk trivial
 have hI := row_kept hi hk trivial
 refine ⟨hB.cellAt 0 (by simp), hI.cellAt 17 (by decide), hI.frozenAt 17, ?_⟩
 have hs := hI.stored 17 (.int .i64 1)
 refine ⟨row_kept (row_kept hr.arr hk trivial) (grow_kept hI hs.2) (by decide), row_kept (row_kept hr.loops hk trivial) (grow_kept hI hs.2) (by decide), row_kept hB (grow_kept hI hs.2) (by decide), fun e he => ?_⟩
 rw [List.mem_singleton] at he
 subst he
 exact hs.1
theorem ES.c8 {w W : World} {L : List (Nat × Array Value × TypeId)} {M : List (CdV × CdA)} (h : ES w L M W) {b : Nat} {y0 y1 y2 y3 y4 y5 y6 y7 : Value} {T : TypeId} (hm : (b, #[y0, y1, y2, y3, y4, y5, y6, y7], T) ∈ L) :
 W.cell? ⟨b, 0, none⟩ = some y0 /\ W.cell? ⟨b, 1, none⟩ = some y1 /\ W.cell? ⟨b, 2, none⟩ = some y2 /\ W.cell? ⟨b, 3, none⟩ = some y3 /\ W.cell? ⟨b, 4, none⟩ = some y4 /\ W.cell? ⟨b, 5, none⟩ = some y5 /\ W.cell? ⟨b, 6, none⟩ = some y6 /\ W.cell? ⟨b, 7, none⟩ = some y7 :=
 ⟨h.ck hm 0, h.ck hm 1, h.ck hm 2, h.ck hm 3, h.ck hm 4, h.ck hm 5, h.ck hm 6, h.ck hm 7⟩
theorem ES.cd {w W : World} {L : List (Nat × Array Value × TypeId)} {M : List (CdV × CdA)} (h : ES w L M W) {c : CdV} {a : CdA} (hm : (c, a) ∈ M) : CdK c a W := h.code _ hm
theorem m0 {α : Type} {x : α} {l : List α} : x ∈ x :: l := List.mem_cons_self
theorem m1 {α : Type} {x y : α} {l : List α} : x ∈ y :: x :: l := List.mem_cons_of_mem _ m0
theorem m2 {α : Type} {x y z : α} {l : List α} : x ∈ y :: z :: x :: l := List.mem_cons_of_mem _ m1
theorem example_ck (w : World) : Calls Tryz.prog 36 #[] w fun e w' => ∃ a, e = .returned (.agg (exV a)) /\ CdK (exC 0) a w' /\ Below w.heap.size w w' := by
 refine (example_rc w).mono ?_
 rintro e w' ⟨v5, v7, vI, rfl, hr, hb⟩
 obtain ⟨a, e5, e6, e7, hk⟩ := hr.ex
 exact ⟨a, by rw [e5, e6, e7], hk, hb⟩
theorem exT_eq : (exT.toList == [99, 111, 100, 101, 32, 52, 32, 50, 32, 50, 32, 48, 32, 48, 10, 97, 114, 114, 97, 121, 32, 97, 32, 49, 32, 49, 32, 56, 10, 98, 108, 111, 99, 107, 10, 105, 100, 32, 49, 32, 114, 48, 10, 115, 116, 111, 114, 101, 32, 48, 32, 114, 48, 32, 55, 10, 101, 120, 105, 116, 10]) = true := by
 rw [ByteArray.toList_eq]
 decide +kernel
theorem exT_sp : exT ++ ⟨#[32]⟩ = exT2 := by decide +kernel
theorem zero_fits : cd0.Fits := ⟨Nat.zero_le _, Nat.zero_le _, Nat.zero_le _⟩
abbrev cdV8 (d : CdV) (a : CdA) : Array Value := #[(d.n 0), (d.n 1), (d.n 2), (d.n 3), (d.n 4), .slice a.a1 d.q.length a.c1, .slice a.a2 d.l.length a.c2, .slice a.a3 d.b.length a.c3]
theorem parse_ok (W : World) (hE : EnvP W) : Calls Tryz.prog 32 #[.string exT] W fun e w' => ∃ a, e = .returned (.tuple #[.agg (cdV8 (readV exT) a), (0:Int)]) /\ CdK (readV exT) a w' /\ Below W.heap.size W w' := by
 have H := Parse_c exT W (by decide) hE
 unfold ParsePost parseC parseE at H
 rw [ex_parse] at H
 exact H
theorem parse_no (W : World) (hE : EnvP W) : Calls Tryz.prog 32 #[.string (exT ++ ⟨#[32]⟩)] W fun e w' => ∃ a, e = .returned (.tuple #[.agg (cdV8 cd0 a), (3:Int)]) /\ Below W.heap.size W w' := by
 rw [exT_sp]
 have H := Parse_c exT2 W (by decide) hE
 unfold ParsePost parseC parseE at H
 rw [ex_parse2] at H
 exact H.mono fun e w' ⟨a, h1, _, h3⟩ => ⟨a, h1, h3⟩
theorem text_zero (W : World) : Calls Tryz.prog 15 #[.agg #[(0:Int), (0:Int), (0:Int), (0:Int), (0:Int), .slice none 0 0, .slice none 0 0, .slice none 0 0]] W fun e w' => e = .returned (.tuple #[.string ⟨#[]⟩, (50:Int)]) /\ Below W.heap.size W w' := by
 have H := Text_cerr cd0 noAd W (cd0_mem W).mem zero_fits (by rw [ex_zero]; decide)
 rw [ex_zero] at H
 exact H
theorem text_ex (a : CdA) (W : World) (h : CdK (exC 0) a W) (hE : EnvP W) : Calls Tryz.prog 15 #[.agg (exV a)] W fun e w' => e = .returned (.tuple #[.string exT, (0:Int)]) /\ Below W.heap.size W w' := by
 have H := Text_cok (exC 0) a W h.mem (ex_fits 0) ex_rng hE.tab ex_chk
 rw [ex_val, ex_txt] at H
 exact H
theorem ES.c13 {w W : World} {L : List (Nat × Array Value × TypeId)} {M : List (CdV × CdA)} (h : ES w L M W) {b : Nat} {y0 y1 y2 y3 y4 y5 y6 y7 y8 y9 y10 y11 y12 : Value} {T : TypeId} (hm : (b, #[y0, y1, y2, y3, y4, y5, y6, y7, y8, y9, y10, y11, y12], T) ∈ L) :
 W.cell? ⟨b, 0, none⟩ = some y0 /\ W.cell? ⟨b, 1, none⟩ = some y1 /\ W.cell? ⟨b, 2, none⟩ = some y2 /\ W.cell? ⟨b, 3, none⟩ = some y3 /\ W.cell? ⟨b, 4, none⟩ = some y4 /\ W.cell? ⟨b, 5, none⟩ = some y5 /\ W.cell? ⟨b, 6, none⟩ = some y6 /\ W.cell? ⟨b, 7, none⟩ = some y7 /\ W.cell? ⟨b, 8, none⟩ = some y8 /\ W.cell? ⟨b, 9, none⟩ = some y9 /\ W.cell? ⟨b, 10, none⟩ = some y10 /\ W.cell? ⟨b, 11, none⟩ = some y11 /\ W.cell? ⟨b, 12, none⟩ = some y12 :=
 ⟨h.ck hm 0, h.ck hm 1, h.ck hm 2, h.ck hm 3, h.ck hm 4, h.ck hm 5, h.ck hm 6, h.ck hm 7, h.ck hm 8, h.ck hm 9, h.ck hm 10, h.ck hm 11, h.ck hm 12⟩
theorem ES.c15 {w W : World} {L : List (Nat × Array Value × TypeId)} {M : List (CdV × CdA)} (h : ES w L M W) {b : Nat} {y0 y1 y2 y3 y4 y5 y6 y7 y8 y9 y10 y11 y12 y13 y14 : Value} {T : TypeId} (hm : (b, #[y0, y1, y2, y3, y4, y5, y6, y7, y8, y9, y10, y11, y12, y13, y14], T) ∈ L) :
 W.cell? ⟨b, 0, none⟩ = some y0 /\ W.cell? ⟨b, 1, none⟩ = some y1 /\ W.cell? ⟨b, 2, none⟩ = some y2 /\ W.cell? ⟨b, 3, none⟩ = some y3 /\ W.cell? ⟨b, 4, none⟩ = some y4 /\ W.cell? ⟨b, 5, none⟩ = some y5 /\ W.cell? ⟨b, 6, none⟩ = some y6 /\ W.cell? ⟨b, 7, none⟩ = some y7 /\ W.cell? ⟨b, 8, none⟩ = some y8 /\ W.cell? ⟨b, 9, none⟩ = some y9 /\ W.cell? ⟨b, 10, none⟩ = some y10 /\ W.cell? ⟨b, 11, none⟩ = some y11 /\ W.cell? ⟨b, 12, none⟩ = some y12 /\ W.cell? ⟨b, 13, none⟩ = some y13 /\ W.cell? ⟨b, 14, none⟩ = some y14 :=
 ⟨h.ck hm 0, h.ck hm 1, h.ck hm 2, h.ck hm 3, h.ck hm 4, h.ck hm 5, h.ck hm 6, h.ck hm 7, h.ck hm 8, h.ck hm 9, h.ck hm 10, h.ck hm 11, h.ck hm 12, h.ck hm 13, h.ck hm 14⟩
theorem ES.box' {w W : World} {L : List (Nat × Array Value × TypeId)} {M : List (CdV × CdA)} (h : ES w L M W) {b : Nat} {K : Array Value} {T : TypeId} (hb : W.heap[b]? = some (.cells K T (0, 0))) : ES w ((b, K, T) :: L) M W :=
 ⟨fun p hp => by
  rcases List.mem_cons.1 hp with rfl | hp
  . exact hb
  . exact h.box p hp, h.code, h.below⟩
theorem m3 {α : Type} {x y z u : α} {l : List α} : x ∈ y :: z :: u :: x :: l := List.mem_cons_of_mem _ m2
theorem m4 {α : Type} {x y z u v : α} {l : List α} : x ∈ y :: z :: u :: v :: x :: l := List.mem_cons_of_mem _ m3
theorem m5 {α : Type} {x y z u v t : α} {l : List α} : x ∈ y :: z :: u :: v :: t :: x :: l := List.mem_cons_of_mem _ m4
theorem ex_copied {w W5 w6 : World} {L : List (Nat × Array Value × TypeId)} {M : List (CdV × CdA)} {gI : Nat} {K : Array Value} {a : CdA} (h5 : ES w L M W5) (hb6 : Below W5.heap.size W5 w6) (hgI : W5.heap.size <= gI) (hlt : gI < w6.heap.size)
 (hk : CdK (exC 1) a ((w6.alloc (.cells K 36)).setCell ⟨gI, 17, none⟩ (.int .i64 1))) : ES w ((w6.heap.size, K, 36) :: L) ((exC 1, a) :: M) ((w6.alloc (.cells K 36)).setCell ⟨gI, 17, none⟩ (.int .i64 1)) := by
 have hb : Below W5.heap.size W5 ((w6.alloc (.cells K 36)).setCell ⟨gI, 17, none⟩ (.int .i64 1)) := (hb6.trans (((Below.refl _ w6).alloc (Nat.le_refl _) _).mono hb6.size)).setCell hgI _
 refine ((h5.on hb).add hk).box' ?_
 exact (Below.heap_setCell _ _ _ _ (by show w6.heap.size ≠ gI; omega)).trans (heap_alloc_new _ _)
theorem row_box {W : World} {b T n : Nat} {f : Nat -> Value} (h : W.rowIs b T n f) (K : Array Value) (hK : K.size = n) (hf : ∀ j, j < n -> K[j]? = some (f j)) : W.heap[b]? = some (.cells K T (0, 0)) := by
 obtain ⟨c, hc, hs, hcell⟩ := h
 have e : c = K := by
  apply Array.ext_getElem?
  intro i
  by_cases hi : i < n
  . rw [hcell i hi, hf i hi]
  . rw [Array.getElem?_eq_none (by omega), Array.getElem?_eq_none (by omega)]
 rw [hc, e]
abbrev I61 : Array Value := #[(3:Int), (10:Int), (0:Int), (2:Int), (3:Int), .int .i32 0, (2:Int), (5:Int), .int .i32 0, (2:Int), (2:Int), .int .i32 0, (0:Int), (0:Int), .int .i32 0]
abbrev T53 : Array Value := #[(2:Int), (0:Int), (0:Int), (0:Int), .int .i32 0, (2:Int), (1:Int), .int .i32 0, (0:Int), (0:Int), .int .i32 0, (4:Int), (4:Int)]
section
variable {w W : World} {L : List (Nat × Array Value × TypeId)} {M : List (CdV × CdA)}
theorem chk_s (h : ES w L M W) {n : Int} {a : CdA} (hm : (exC n, a) ∈ M) (z : Int) (hz : chkC (exC n) = z) : Calls Tryz.prog 17 #[.agg (exV a)] W fun e w' => e = .returned (.int .i64 z) /\ ES w L M w' := by
 have H := Check_c (exC n) a W (h.cd hm).mem (ex_fits n)
 rw [ex_val, hz] at H
 exact H.mono fun e w' hh => ⟨hh.1, h.on hh.2⟩
theorem same_s (h : ES w L M W) {d : CdV} {a b : CdA} (hm : (exC 0, a) ∈ M) (hn : (d, b) ∈ M) (hf : d.Fits) (hs : sameCd (exC 0) d = true) : Calls Tryz.prog 33 #[.agg (exV a), .agg (cdV8 d b)] W fun e w' => e = .returned (.bool true) /\ ES w L M w' := by
 have H := Same_c (exC 0) d a b W (h.cd hm).mem (h.cd hn).mem (ex_fits 0) hf
 rw [ex_val, hs] at H
 exact H.mono fun e w' hh => ⟨hh.1, h.on hh.2⟩
theorem reach_s (h : ES w L M W) {a : CdA} (hm : (exC 0, a) ∈ M) : Calls Tryz.prog 19 #[.agg (exV a)] W fun e w' => e = .returned (.slice (some ⟨W.heap.size + 1, 0, none⟩) 1 1) /\ ES w ((W.heap.size + 1, #[.bool true], 4) :: L) M w' := by
 have H := Reach_c (exC 0) a W (h.cd hm).mem (ex_fits 0)
 rw [ex_val] at H
 refine H.mono ?_
 rintro e w' ⟨he, hr, hb⟩
 refine ⟨he, (h.on hb).box' (row_box hr _ rfl (fun j hj => ?_))⟩
 obtain rfl : j = 0 := by
  have : j < 1 := hj
  omega
 rw [ex_reach]
 rfl
theorem uses_s (h : ES w L M W) : Calls Tryz.prog 28 #[.agg I61] W fun e w' => ∃ A c, e = .returned (.slice A 2 c) /\ RI w' w'.heap.size A 2 (fun j => ([2, 5] : List Int).getD j 0) /\ ES w L M w' := by
 have H := Uses_any ⟨3, 10, 0, ⟨2, 3, 0⟩, ⟨2, 5, 0⟩, ⟨2, 2, 0⟩, noOpd⟩ W
 rw [ex_uses] at H
 refine H.mono ?_
 rintro e w' ⟨⟨A, c, he, hr⟩, hb⟩
 exact ⟨A, c, he, hr, h.on hb⟩
theorem def_s (h : ES w L M W) : Calls Tryz.prog 30 #[.agg I61] W fun e w' => e = .returned (.int .i64 3) /\ ES w L M w' :=
 (Def_any ⟨3, 10, 0, ⟨2, 3, 0⟩, ⟨2, 5, 0⟩, ⟨2, 2, 0⟩, noOpd⟩ W).mono fun e w' hh => ⟨hh.1, h.on hh.2⟩
theorem usesT_s (h : ES w L M W) : Calls Tryz.prog 24 #[.agg T53] W fun e w' => ∃ A c, e = .returned (.slice A 1 c) /\ RI w' w'.heap.size A 1 (fun j => ([1] : List Int).getD j 0) /\ ES w L M w' := by
 have H := UsesT_any ⟨2, 0, noOpd, ⟨2, 1, 0⟩, noOpd, 4, 4⟩ W
 rw [ex_usesT] at H
 refine H.mono ?_
 rintro e w' ⟨⟨A, c, he, hr⟩, hb⟩
 exact ⟨A, c, he, hr, h.on hb⟩
theorem defT_s (h : ES w L M W) : Calls Tryz.prog 26 #[.agg T53] W fun e w' => e = .returned (.int .i64 (-1)) /\ ES w L M w' :=
 (DefT_any ⟨2, 0, noOpd, ⟨2, 1, 0⟩, noOpd, 4, 4⟩ W).mono fun e w' hh => ⟨hh.1, h.on hh.2⟩
theorem succ_s (h : ES w L M W) : Calls Tryz.prog 22 #[.agg T53] W fun e w' => ∃ A c, e = .returned (.slice A 1 c) /\ RI w' w'.heap.size A 1 (fun j => ([4] : List Int).getD j 0) /\ ES w L M w' := by
 have H := Succ_any ⟨2, 0, noOpd, ⟨2, 1, 0⟩, noOpd, 4, 4⟩ W
 rw [ex_succ] at H
 refine H.mono ?_
 rintro e w' ⟨he, hc, hlt, hb⟩
 exact ⟨_, _, he, fun _ => ⟨_, _, rfl, hlt, hc⟩, h.on hb⟩
theorem ri_lit (W : World) (l : List Int) : RI (W.alloc (.cells (l.map (Value.int .i64)).toArray 3)) (W.alloc (.cells (l.map (Value.int .i64)).toArray 3)).heap.size (some ⟨W.heap.size, 0, none⟩) l.length (fun j => l.getD j 0) := fun _ => by
 refine ⟨_, 0, rfl, by simp, fun j hj => ?_⟩
 rw [World.cell?_alloc_at _ _ _ _ rfl]
 simp [List.getD_eq_getElem?_getD, List.getElem?_eq_getElem hj]
theorem ints_s (l : List Int) (hl : l.length <= 100) (h : ES w L M W) {A : Option Addr} {c c' : Nat} (hr : RI W W.heap.size A l.length (fun j => l.getD j 0)) : Calls Tryz.prog 21 #[.slice A l.length c, .slice (some ⟨W.heap.size, 0, none⟩) l.length c'] (W.alloc (.cells (l.map (Value.int .i64)).toArray 3)) fun e w' => e = .returned (.bool true) /\ ES w L M w' := by
 have hr2 : RI (W.alloc (.cells (l.map (Value.int .i64)).toArray 3)) (W.alloc (.cells (l.map (Value.int .i64)).toArray 3)).heap.size A l.length (fun j => l.getD j 0) := fun hn => by
  obtain ⟨b, off, e, hlt, hc⟩ := (hr.below ((Below.refl _ W).alloc (Nat.le_refl _) (.cells (l.map (Value.int .i64)).toArray 3))) hn
  exact ⟨b, off, e, by simp; omega, hc⟩
 have H := SameInts_any l.length c l.length c' A _ (fun j => l.getD j 0) (fun j => l.getD j 0) _ (by omega) (by omega) hr2 (ri_lit W l)
 have e : sameI l.length l.length (fun j => l.getD j 0) (fun j => l.getD j 0) = true := by simp [sameI]
 rw [e] at H
 exact H.mono fun e w' hh => ⟨hh.1, (h.alloc _).on hh.2⟩
theorem ints_25 (h : ES w L M W) {A : Option Addr} {c : Nat} (hr : RI W W.heap.size A 2 (fun j => ([2, 5] : List Int).getD j 0)) : Calls Tryz.prog 21 #[.slice A 2 c, .slice (some ⟨W.heap.size, 0, none⟩) 2 2] (W.alloc (.cells #[(2:Int), (5:Int)] 3)) fun e w' => e = .returned (.bool true) /\ ES w L M w' := ints_s [2, 5] (by decide) h hr
theorem ints_1 (x : Int) (h : ES w L M W) {A : Option Addr} {c : Nat} (hr : RI W W.heap.size A 1 (fun j => ([x] : List Int).getD j 0)) : Calls Tryz.prog 21 #[.slice A 1 c, .slice (some ⟨W.heap.size, 0, none⟩) 1 1] (W.alloc (.cells #[x] 3)) fun e w' => e = .returned (.bool true) /\ ES w L M w' := ints_s [x] (by show 1 <= 100; decide) h hr
end
theorem examples_any (w : World) (hE : EnvP w) : Calls Tryz.prog 11 #[] w fun e w' => e = .returned (.bool true) /\ Below w.heap.size w w' := by
 have HX := lh (example_ck w)
 have HT := lh (fun (a : CdA) (W : World) (h : CdK (exC 0) a W) (hb : Below w.heap.size w W) => text_ex a W h (hE.on hb))
 have HP := lh (fun (W : World) (hb : Below w.heap.size w W) => parse_ok W (hE.on hb))
 have HN := lh (fun (W : World) (hb : Below w.heap.size w W) => parse_no W (hE.on hb))
 have HZ := lh (fun (W : World) => text_zero W)
 have HC := lh (fun (a : CdA) (W : World) (h : CdK (exC 0) a W) => copy_ex a W h)
 have HR := lh (fun (n : Int) (W : World) => Reg_any n W)
 obtain ⟨d, hd⟩ : ∃ d, readV exT = d := ⟨_, rfl⟩
 have hsame := ex_same
 have hdf : d.Fits := by rw [<- hd]; exact readK_fits exT (by decide)
 rw [hd] at hsame HP
 have HSA := lh hsame
 clear hsame hd hE
 go_enter Tryz.func11, Tryz.ntmps11
 go_upto_region 8 with (first
  | (go_at_call 36; (with_reducible refine HX.out.mono ?_); rintro e w1 ⟨a1, rfl, hk1, hb⟩; have hs1 := ((ES.start w).on hb).add hk1; clear hb hk1)
  | (go_at_call 15; (with_reducible refine (HT.out a1 _ ((hs1.push _ _).cd m0) (hs1.push _ _).below).mono ?_); rintro e w2 ⟨rfl, hb2⟩; have hs2 := (hs1.push (exV a1) 36).on hb2; clear hb2)
  | (go_at_call 32; (with_reducible refine (HP.out _ hs2.below).mono ?_); rintro e w3 ⟨a4, rfl, hk4, hb3⟩; have hs3 := (hs2.on hb3).add hk4; clear hk4 hb3)
  | (go_at_call 15; (with_reducible refine (HZ.out _).mono ?_); rintro e w4 ⟨rfl, hb4⟩; have hs4 := (hs3.push (cdV8 d a4) 36).on hb4; clear hb4)
  | (go_at_call 32; (with_reducible refine (HN.out _ hs4.below).mono ?_); rintro e w5 ⟨a8, rfl, hb5⟩; have hs5 := hs4.on hb5; have q0 := (fun o => ((hs5.alloc o).c8 m1).1); have q1 := (fun o => ((hs5.alloc o).c8 m1).2.1); have q2 := (fun o => ((hs5.alloc o).c8 m1).2.2.1); have q3 := (fun o => ((hs5.alloc o).c8 m1).2.2.2.1); have q4 := (fun o => ((hs5.alloc o).c8 m1).2.2.2.2.1); have q5 := (fun o => ((hs5.alloc o).c8 m1).2.2.2.2.2.1); have q6 := (fun o => ((hs5.alloc o).c8 m1).2.2.2.2.2.2.1); have q7 := (fun o => ((hs5.alloc o).c8 m1).2.2.2.2.2.2.2); clear hb5)
  | (go_at_call 38; (with_reducible refine (HC.out a1 _ ((hs5.alloc _).cd m1)).mono ?_); rintro e w6 ⟨v5, v6, gB, cB, gI, cI, rfl, hgI, hV, hb6⟩; have HV := lh hV; have HB6 := lh hb6; have HGI := lh hgI; obtain ⟨⟨x1, y1, x2, y2, x3, y3, ia, ic⟩, e5, e6, e7, hk10⟩ := (hV (w6.alloc (.cells #[(4:Int), (2:Int), (2:Int), (0:Int), (0:Int), v5, v6, .slice (some ⟨gB, 0, none⟩) 1 cB] 36)) ((Below.refl _ _).alloc (Nat.le_refl _) _)).2.2.2.ex; simp only at e5 e6 e7; subst e5 e6; injection e7 with z1 z2 z3; subst z1 z3; have HK10 := lh hk10; have r1 := (fun o => (hV (w6.alloc o) ((Below.refl _ _).alloc (Nat.le_refl _) _)).1); have r2 := (fun o => (hV (w6.alloc o) ((Below.refl _ _).alloc (Nat.le_refl _) _)).2.1); have r3 := (fun o => (hV (w6.alloc o) ((Below.refl _ _).alloc (Nat.le_refl _) _)).2.2.1); clear hk10 hV hb6 hgI z2))
 have hlt : gI < w6.heap.size := World.block_lt_of_cell? w6 _ (HV.out w6 (Below.refl _ _)).2.1
 have hs7 := ex_copied (hs5.alloc _) HB6.out HGI.out hlt HK10.out
 clear q0 q1 q2 q3 q4 q5 q6 q7 r1 r2 r3 hs1 hs2 hs3 hs4 hs5 HV HB6 HGI HK10 hlt HX HT HP HN HZ HC
 revert hs7
 generalize (w6.alloc _).setCell _ _ = V2
 generalize w6.heap.size = b10
 generalize w3.heap.size = b4
 generalize w1.heap.size = b1
 generalize w5.heap.size = b8
 intro hs7
 go_upto_region 10 with (first
  | (go_at_call 40; (with_reducible refine (HR.out 3 _).mono ?_); rintro e u1 ⟨rfl, hu⟩; have hs8 := hs7.on hu; clear hu hs7)
  | (go_at_call 40; (with_reducible refine (HR.out 5 _).mono ?_); rintro e u2 ⟨rfl, hu⟩; have hs9 := hs8.on hu; clear hu hs8)
  | (go_at_call 40; (with_reducible refine (HR.out 2 _).mono ?_); rintro e u3 ⟨rfl, hu⟩; have hs10 := hs9.on hu; clear hu hs9)
  | (go_at_call 40; (with_reducible refine (HR.out 1 _).mono ?_); rintro e u4 ⟨rfl, hu⟩; have hs11 := (hs10.push I61 61).on hu; clear hu hs10))
 have hs12 := hs11.push T53 53
 clear hs11 HR
 revert hs12
 generalize u4.alloc _ = V3
 generalize u4.heap.size = b12
 generalize u3.heap.size = b11
 intro hs12
 have hxt := exT_eq
 obtain ⟨k0, k1, k2, k3, k4, k5, k6, k7⟩ := hs12.c8 m4
 go_wp2_with (first
  | (go_at_call 17; (with_reducible refine (chk_s hs12 (n := 0) (a := a1) m2 0 ex_chk).mono ?_); rintro e s1 ⟨rfl, ht1⟩; obtain ⟨ka0, ka1, ka2, ka3, ka4, ka5, ka6, ka7⟩ := ht1.c8 m2)
  | (go_at_call 17; (with_reducible refine (chk_s ht1 (n := 1) (a := ⟨x1, y1, x2, y2, some ⟨gB, 0, none⟩, cB, ia, ic⟩) m0 50 ex_chk1).mono ?_); rintro e s2 ⟨rfl, ht2⟩; obtain ⟨kb0, kb1, kb2, kb3, kb4, kb5, kb6, kb7⟩ := ht2.c8 m4; obtain ⟨kc0, kc1, kc2, kc3, kc4, kc5, kc6, kc7⟩ := ht2.c8 m3)
  | (go_at_call 33; (with_reducible refine (same_s ht2 (a := a1) (b := a4) (d := d) m2 m1 hdf HSA.out).mono ?_); rintro e s3 ⟨rfl, ht3⟩; obtain ⟨kd0, kd1, kd2, kd3, kd4, kd5, kd6, kd7, kd8, kd9, kd10, kd11, kd12, kd13, kd14⟩ := ht3.c15 m1)
  | (go_at_call 28; (with_reducible refine (uses_s ht3).mono ?_); rintro e s4 ⟨A4, c4, rfl, hr4, ht4⟩; have HR4 := lh hr4; clear hr4)
  | (go_at_call 21; (with_reducible refine (ints_25 ht4 HR4.out).mono ?_); rintro e s5 ⟨rfl, ht5⟩; obtain ⟨ke0, ke1, ke2, ke3, ke4, ke5, ke6, ke7, ke8, ke9, ke10, ke11, ke12, ke13, ke14⟩ := ht5.c15 m1)
  | (go_at_call 30; (with_reducible refine (def_s ht5).mono ?_); rintro e s6 ⟨rfl, ht6⟩; obtain ⟨kf0, kf1, kf2, kf3, kf4, kf5, kf6, kf7⟩ := ht6.c8 m4)
  | (go_at_call 19; (with_reducible refine (reach_s ht6 (a := a1) m2).mono ?_); rintro e s7 ⟨rfl, ht7⟩; obtain ⟨kg0, kg1, kg2, kg3, kg4, kg5, kg6, kg7, kg8, kg9, kg10, kg11, kg12⟩ := ht7.c13 m1)
  | (go_at_call 22; (with_reducible refine (succ_s ht7).mono ?_); rintro e s8 ⟨A8, c8, rfl, hr8, ht8⟩; have HR8 := lh hr8; clear hr8)
  | (go_at_call 21; (with_reducible refine (ints_1 4 ht8 HR8.out).mono ?_); rintro e s9 ⟨rfl, ht9⟩; obtain ⟨kh0, kh1, kh2, kh3, kh4, kh5, kh6, kh7, kh8, kh9, kh10, kh11, kh12⟩ := ht9.c13 m1)
  | (go_at_call 24; (with_reducible refine (usesT_s ht9).mono ?_); rintro e s10 ⟨A10, c10, rfl, hr10, ht10⟩; have HR10 := lh hr10; clear hr10)
  | (go_at_call 21; (with_reducible refine (ints_1 1 ht10 HR10.out).mono ?_); rintro e s11 ⟨rfl, ht11⟩; obtain ⟨ki0, ki1, ki2, ki3, ki4, ki5, ki6, ki7, ki8, ki9, ki10, ki11, ki12⟩ := ht11.c13 m1)
  | (go_at_call 26; (with_reducible refine (defT_s ht11).mono ?_); rintro e s12 ⟨rfl, ht12⟩; have kj := ht12.ck m0 0))
 go_ret
 exact ⟨rfl, ht12.below⟩
end Go.Proofs.YtkncilgmlkeifaaGreatDoor
/-
  What every row of this seat shares: the listed tables and variables give the walks their environment; a start that meets the condition: the heap that the door's own run leaves.
-/
namespace Go.Proofs.YtkncilgmlkeifaaGreatDoor
open Go.ChangeShapes Go.WideShapes Go.ChangeAt Go.RowKit
theorem own : ownKnob Tryz.prog.godebug = none := by kernel_rfl
theorem gTab : Tryz.prog.globalNamed "internal/strconv.uint64pow10" = some 1 := by kernel_rfl
theorem gTabType : (Tryz.prog.globals[1]?).map (·.type) = some 252 := by kernel_rfl
theorem gSyn : Tryz.prog.globalNamed "strconv.ErrSyntax" = some 2 := by kernel_rfl
theorem gSynType : (Tryz.prog.globals[2]?).map (·.type) = some 141 := by kernel_rfl
theorem gRng : Tryz.prog.globalNamed "strconv.ErrRange" = some 3 := by kernel_rfl
theorem gRngType : (Tryz.prog.globals[3]?).map (·.type) = some 141 := by kernel_rfl
theorem star : "*" ++ "errors.errorString" = "*errors.errorString" := by decide
theorem row261 (u : TypeId) (h : Tryz.prog.typeName? 3 u = some "*errors.errorString") : u = 261 :=
 typeName_ptr_named (nm := "errors.errorString") (by rw [star]; kernel_rfl) (by kernel_rfl) (by decide) u (by rw [star]; exact h)
theorem cells263 : Tryz.prog.cellsOf 263 = 1 := by kernel_rfl
theorem cells9' : Tryz.prog.cellsOf 9 = 1 := by kernel_rfl
def laid5 : List (String × DataW Unit) := [("math/bits.deBruijn32tab", Rows.laid_math_bits_deBruijn32tab), ("math/bits.deBruijn64tab", Rows.laid_math_bits_deBruijn64tab), ("internal/strconv.uint64pow10", Rows.laid_internal_strconv_uint64pow10), ("strconv.ErrRange", Rows.laid_strconv_ErrRange), ("strconv.ErrSyntax", Rows.laid_strconv_ErrSyntax)]
theorem env_of_laid {W : World} (h : laidMetH Tryz.prog laid5 W) : EnvP W := by
 rw [MakeChecks.laidMetH_plain _ _ _ (by kernel_rfl)] at h
 have h2 : laidMet Tryz.prog [("internal/strconv.uint64pow10", Lib.tabData .u64 Lib.pow10Tab), ("strconv.ErrRange", Rows.laid_strconv_ErrRange), ("strconv.ErrSyntax", Rows.laid_strconv_ErrSyntax)] W := h.tail.tail
 obtain ⟨a0, s0, hv0, _⟩ := laid_sentinel h2.tail gRng gRngType Tryz.underlying141 row261 Tryz.underlying261 Tryz.underlying263 rfl rfl Tryz.underlying9 cells263 cells9'
 obtain ⟨a1, s1, hv1, _⟩ := laid_sentinel h2.tail.tail gSyn gSynType Tryz.underlying141 row261 Tryz.underlying261 Tryz.underlying263 rfl rfl Tryz.underlying9 cells263 cells9'
 exact ⟨Lib.tabIs_of_head gTab gTabType Tryz.underlying252 Tryz.underlying220 (by kernel_rfl) (by kernel_rfl) h2, ⟨_, _, hv1⟩, ⟨_, _, hv0⟩⟩
theorem door_met (os : Os) (args : Array Value) : laidMetH Tryz.prog laid5 ((World.doorLaid Tryz.prog 400 os).forCall (fun _ _ => 0) ⟨#[], args, []⟩).memory :=
 laidMetH_of_parts3 (fuel := 8) (laidMet_of_run' 8 (by kernel_rfl) (by kernel_rfl)) (by kernel_rfl) (by kernel_rfl)
end Go.Proofs.YtkncilgmlkeifaaGreatDoor
