/-
  slices.Chunk hands back a value that gives the chunks, in order.
-/
import Derived.Test.YtjknmancnfeifaaChunk
set_option linter.unusedVariables false
set_option linter.unusedSimpArgs false
namespace Go.Proofs.Ytjknmancnfeifaa
open Go.RowKit Go.Shelf
attribute [local go_sem] Oper.semAt_some

set_option maxRecDepth 100000 in
set_option maxHeartbeats 1000000 in
theorem chunk0_in (F : Fence) (N : Nat) (h55 : F.fn 55) (hro : F.round = none) (l Bs Bn cap n : Nat) (A : Option Addr) (J : List Nat → World → Prop)
    (W : World) (hBs : W.cell? ⟨Bs, 0, none⟩ = some (.slice A 0 cap)) (hBn : W.cell? ⟨Bn, 0, none⟩ = some (.int .i64 n)) (h0 : J [] W) :
    CallsIn F N Try.prog 55 #[.func (.yield l) #[] #[], .pointer (some ⟨Bs, 0, none⟩), .pointer (some ⟨Bn, 0, none⟩)] W fun e W' => (∃ v, e = .returned v) ∧ J [] W' := by
  refine callsIn_of_wp Try.func55 rfl h55 ?_ hro
  simp only [Try.ntmps55, List.size_toArray, List.length_cons, List.length_nil, Nat.reduceAdd, Nat.reduceSub, Array.replicate_succ, Array.replicate_zero, List.push_toArray, List.append_toArray, List.nil_append, List.cons_append]
  gi_wp2
  gi_loopw [4] (fun i wr => i = .int .i64 0 ∧ J [] wr ∧ wr = W) (fun _ _ => 0)
  case atStart => exact ⟨rfl, h0, rfl⟩
  case round =>
    obtain ⟨rfl, hJs, rfl⟩ := hrel
    gi_wp2
    go_end0
    exact ⟨⟨_, rfl⟩, hJs⟩

set_option maxHeartbeats 1000000 in
/-- slices.Chunk: the slice and the number are boxed; the function value captures both. -/
theorem Chunk_in (F : Fence) (N : Nat) (h48 : F.fn 48) (hro : F.round = none) (A : Option Addr) (len cap n : Nat) (hn : 1 ≤ n) (w : World) :
    CallsIn F N Try.prog 48 #[.slice A len cap, .int .i64 n] w fun e w' => e = .returned (.func (.func 55) #[] #[.pointer (some ⟨w.heap.size, 0, none⟩), .pointer (some ⟨w.heap.size + 1, 0, none⟩)]) ∧ w' = (w.alloc (.cells #[.slice A len cap] 49)).alloc (.cells #[.int .i64 n] 3) := by
  have hmf : ∀ (fn : Fn) (first cap : Array Value) (w : World), (Instr.makeFunc fn first cap).run Try.prog w = .ok (.func fn first cap) w := fun _ _ _ _ => rfl
  refine callsIn_of_wp Try.func48 rfl h48 ?_ hro
  simp only [Try.ntmps48, List.size_toArray, List.length_cons, List.length_nil, Nat.reduceAdd, Nat.reduceSub, Array.replicate_succ, Array.replicate_zero, List.push_toArray, List.append_toArray, List.nil_append, List.cons_append]
  gi_wp2
  go_ret
  exact ⟨rfl, rfl⟩

theorem abides_drew {β : Type} {B : Nat} {J : β → World → Prop} (h : AbidesFrom B J) {s : β} {w : World} (hs : J s w) : J s w.drew :=
  h s w w.drew none hs ⟨rfl, rfl, rfl, Nat.le_refl _, fun _ _ _ => rfl⟩ (fun r e => by cases e)

theorem chunk_stops (F : Fence) (N : Nat) (h55 : F.fn 55) (hro : F.round = none) (hN : 1 ≤ N) (Bs Bn b off len cap n : Nat) (A : Option Addr) (hA : 0 < len → A = some ⟨b, off, none⟩) (hlen : len ≤ 65536) (hn : 1 ≤ n) (hn64 : n ≤ 64) (hcap : len ≤ cap) (w : World)
    (hBs0 : Bs < w.heap.size) (hBn0 : Bn < w.heap.size) (hBs : w.cell? ⟨Bs, 0, none⟩ = some (.slice A len cap)) (hBn : w.cell? ⟨Bn, 0, none⟩ = some (.int .i64 n)) :
    SeqStopsK F N Try.prog 55 #[.pointer (some ⟨Bs, 0, none⟩), .pointer (some ⟨Bn, 0, none⟩)] (chEnc b off len n) (KpC Bs Bn) (fun ys => ys = List.range (chN len n)) (fun _ => True) (chN len n) w := fun l J Jx W hW hJ _ hY h0 => by
  have hs := (hW.cell (p := ⟨Bs, 0, none⟩) (by simp; omega)).trans hBs
  have hb := (hW.cell (p := ⟨Bn, 0, none⟩) (by simp; omega)).trans hBn
  by_cases hz : len = 0
  · subst hz
    refine (chunk0_in F N h55 hro l Bs Bn cap n A J W hs hb h0).mono fun e W' ⟨he, hj⟩ => ⟨he, .inl ⟨[], ?_, hj⟩⟩
    have : chN 0 n = 0 := by unfold chN; exact Nat.div_eq_of_lt (by omega)
    rw [this]; rfl
  · rw [hA (by omega)] at hs
    exact chunk1_in F N h55 hro hN l Bs Bn b off len cap n hlen hn hn64 hcap J Jx hY W hs hb h0 (fun pre w hj => abides_drew hJ hj)
end Go.Proofs.Ytjknmancnfeifaa
