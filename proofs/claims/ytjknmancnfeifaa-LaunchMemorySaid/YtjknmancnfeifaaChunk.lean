/-
  Contracts of slices.Chunk and of the iterator that it hands back.
-/
import Derived.Test.YtjknmancnfeifaaMem
import Derived.RangeFuncNested
import Derived.RangeFuncBound
import Derived.RangeFuncCalls
import Derived.RangeFuncLeaves
import Derived.RangeFuncBox
import Derived.Shelf.Abstract
import Derived.Shelf.RegionOpen
import Derived.WalkKit
import Derived.OwnWalkIn
import Derived.TacticsInMore
import Derived.LoopNIn
import Derived.LoopIn
import Derived.Outline
set_option linter.unusedVariables false
set_option linter.unusedSimpArgs false
namespace Go.Proofs.Ytjknmancnfeifaa
open Go.RowKit Go.Shelf
attribute [local go_sem] Oper.semAt_some

/-- Chunk r of a slice of len items at ⟨b, off⟩, n to a chunk. -/
def chLen (len n r : Nat) : Nat := min n (len - r * n)
def chEnc (b off len n r : Nat) : Array Value := #[Value.slice (some ⟨b, off + r * n, none⟩) (chLen len n r) (chLen len n r)]
/-- How many chunks there are. -/
def chN (len n : Nat) : Nat := (len + n - 1) / n
theorem chN_lt {len n r : Nat} (hn : 1 ≤ n) : r < chN len n ↔ r * n < len := by
  unfold chN
  rw [Nat.lt_div_iff_mul_lt (by omega)]
  have : (r * n) = r * n := rfl
  constructor <;> intro h <;> omega

/-- What a round must keep: the two boxes. -/
def KpC (Bs Bn : Nat) (W W' : World) : Prop := W'.cell? ⟨Bs, 0, none⟩ = W.cell? ⟨Bs, 0, none⟩ ∧ W'.cell? ⟨Bn, 0, none⟩ = W.cell? ⟨Bn, 0, none⟩
theorem KpC.refl (Bs Bn : Nat) (W : World) : KpC Bs Bn W W := ⟨rfl, rfl⟩
theorem KpC.trans {Bs Bn : Nat} {A B C : World} (h : KpC Bs Bn A B) (k : KpC Bs Bn B C) : KpC Bs Bn A C := ⟨k.1.trans h.1, k.2.trans h.2⟩
theorem KpC.of_blocks {Bs Bn : Nat} {W W' : World} (hs : W'.heap[Bs]? = W.heap[Bs]?) (hn : W'.heap[Bn]? = W.heap[Bn]?) : KpC Bs Bn W W' := ⟨World.cell?_of_block (a := ⟨Bs, 0, none⟩) hs, World.cell?_of_block (a := ⟨Bn, 0, none⟩) hn⟩
theorem KpC.drew {Bs Bn : Nat} {W W' : World} (h : KpC Bs Bn W.drew W') : KpC Bs Bn W W' := h

set_option maxRecDepth 100000 in
set_option maxHeartbeats 2000000 in
theorem chunk1_in (F : Fence) (N : Nat) (h55 : F.fn 55) (hro : F.round = none) (hN : 1 ≤ N) (l Bs Bn b off len cap n : Nat) (hlen : len ≤ 65536) (hn : 1 ≤ n) (hn64 : n ≤ 64) (hcap : len ≤ cap) (J Jx : List Nat → World → Prop)
    (hY : ∀ pre x W, J pre W → pre.length < chN len n → YieldAt F (N - 1) Try.prog l (chEnc b off len n x) W fun e W' =>
      (e = .returned (.bool true) ∧ J (pre ++ [x]) W' ∧ KpC Bs Bn W W') ∨ (e = .returned (.bool false) ∧ Jx (pre ++ [x]) W'))
    (W : World) (hBs : W.cell? ⟨Bs, 0, none⟩ = some (.slice (some ⟨b, off, none⟩) len cap)) (hBn : W.cell? ⟨Bn, 0, none⟩ = some (.int .i64 n)) (h0 : J [] W) (hJd : ∀ pre w, J pre w → J pre w.drew) :
    CallsIn F N Try.prog 55 #[.func (.yield l) #[] #[], .pointer (some ⟨Bs, 0, none⟩), .pointer (some ⟨Bn, 0, none⟩)] W fun e W' => (∃ v, e = .returned v) ∧
      ((∃ ys, ys = List.range (chN len n) ∧ J ys W') ∨ (∃ pre, True ∧ Jx pre W')) := by
  refine callsIn_of_wp Try.func55 rfl h55 ?_ hro
  simp only [Try.ntmps55, List.size_toArray, List.length_cons, List.length_nil, Nat.reduceAdd, Nat.reduceSub, Array.replicate_succ, Array.replicate_zero, List.push_toArray, List.append_toArray, List.nil_append, List.cons_append]
  gi_wp2
  gi_loopw [4] (fun i wr => ∃ k : Nat, k ≤ chN len n ∧ i = .int .i64 ((k * n : Nat) : Int) ∧ J (List.range k) wr ∧ KpC Bs Bn W wr)
    (fun i _ => len - (intOf i).toNat)
  case atStart => exact ⟨0, Nat.zero_le _, by simp, h0, KpC.refl _ _ _⟩
  case round =>
    obtain ⟨k, hk, rfl, hJs, hnx⟩ := hrel
    have hcs : wr.cell? ⟨Bs, 0, none⟩ = some (.slice (some ⟨b, off, none⟩) len cap) := hnx.1.trans hBs
    have hcn : wr.cell? ⟨Bn, 0, none⟩ = some (.int .i64 n) := hnx.2.trans hBn
    obtain ⟨q, hq⟩ : ∃ q, q = k * n := ⟨_, rfl⟩
    rw [← hq]
    by_cases hlt : q < len
    · have hkn : k < chN len n := (chN_lt hn).2 (by omega)
      by_cases hend : len - q < n
      · obtain ⟨m, hm⟩ : ∃ m, len - q = m := ⟨_, rfl⟩
        have hmc : chLen len n k = m := by unfold chLen; omega
        have hend2 : m < n := by omega
        have hm1 : 1 ≤ m := by omega
        have hm3 : q + m ≤ len := by omega
        have hm4 : q + m ≤ cap := by omega
        clear hend
        obtain ⟨fn, tmps, assign, body, hy, hR⟩ := hY (List.range k) k wr.drew (hJd _ _ hJs) (by simpa using hkn)
        unfold chEnc at hy
        rw [hmc, ← hq] at hy
        have HQ := Lib.hid hq
        have HK := Lib.hid hkn
        have HX := Lib.hid hnx
        clear hq hkn hnx hmc hJs hY
        gi_wp2
        gi_region
        all_goals
          gi_wp2
          refine hR.mono ?_
          rintro e W3 (⟨rfl, hJ3, hk3⟩ | ⟨rfl, hJx3⟩)
          · have hcn3 : W3.cell? ⟨Bn, 0, none⟩ = some (.int .i64 n) := hk3.2.trans hcn
            have HJ := Lib.hid hJ3
            have H3 := Lib.hid hk3
            clear hJ3 hk3
            gi_wp2
            go_roundw
            case rel => exact ⟨k + 1, HK.out, by rw [HQ.out]; push_cast; rw [Int.add_mul, Int.one_mul], by rw [List.range_succ]; exact HJ.out, HX.out.trans H3.out.drew⟩
            case measure => simp [intOf]; omega
          · gi_wp2
            refine bodyPost_ret (results_none rfl _ _ _) rfl ?_
            exact ⟨⟨_, rfl⟩, .inr ⟨_, trivial, hJx3⟩⟩
      · have hmc : chLen len n k = n := by unfold chLen; omega
        have hm3 : q + n ≤ len := by omega
        have hm4 : q + n ≤ cap := by omega
        obtain ⟨fn, tmps, assign, body, hy, hR⟩ := hY (List.range k) k wr.drew (hJd _ _ hJs) (by simpa using hkn)
        unfold chEnc at hy
        rw [hmc, ← hq] at hy
        have HQ := Lib.hid hq
        have HK := Lib.hid hkn
        have HX := Lib.hid hnx
        clear hq hkn hnx hmc hJs hY
        gi_wp2
        gi_region
        all_goals
          gi_wp2
          refine hR.mono ?_
          rintro e W3 (⟨rfl, hJ3, hk3⟩ | ⟨rfl, hJx3⟩)
          · have hcn3 : W3.cell? ⟨Bn, 0, none⟩ = some (.int .i64 n) := hk3.2.trans hcn
            have HJ := Lib.hid hJ3
            have H3 := Lib.hid hk3
            clear hJ3 hk3
            gi_wp2
            go_roundw
            case rel => exact ⟨k + 1, HK.out, by rw [HQ.out]; push_cast; rw [Int.add_mul, Int.one_mul], by rw [List.range_succ]; exact HJ.out, HX.out.trans H3.out.drew⟩
            case measure => simp [intOf]; omega
          · gi_wp2
            refine bodyPost_ret (results_none rfl _ _ _) rfl ?_
            exact ⟨⟨_, rfl⟩, .inr ⟨_, trivial, hJx3⟩⟩
    · have hke : k = chN len n := by have := (chN_lt (len := len) (n := n) (r := k) hn); omega
      have HK := Lib.hid hke
      have HQ := Lib.hid hq
      have HJ := Lib.hid hJs
      clear hke hq hJs hY hnx
      gi_wp2
      go_end0
      exact ⟨⟨_, rfl⟩, .inl ⟨_, by rw [← HK.out], HJ.out⟩⟩
end Go.Proofs.Ytjknmancnfeifaa
