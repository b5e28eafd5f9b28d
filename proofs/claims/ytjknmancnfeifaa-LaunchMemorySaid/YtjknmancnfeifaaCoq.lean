/-
  Contracts of the reference's Copy and Same.
-/
import Derived.Test.YtjknmancnfeifaaCop
import Derived.Test.YtjknmancnfeifaaSame
import Derived.Test.YtjknmancnfeifaaExC
set_option linter.unusedVariables false
set_option linter.unusedSimpArgs false
namespace Go.Proofs.Ytjknmancnfeifaa
open Go.ChangeShapes Go.WideShapes Go.ChangeAt Go.RowKit

set_option maxRecDepth 100000 in
set_option maxHeartbeats 4000000 in
theorem Copy_any (n c : Nat) (A : Option Addr) (zl : Nat → Nat) (w : World) (hn : n ≤ 8) (hzl : ∀ j, zl j ≤ 15) (hz : ZR w A n zl) :
    Calls Try.prog 29 #[.slice A n c] w fun e w' => ∃ v, e = .returned v ∧ CJ w.heap.size zl n v w' ∧ Below w.heap.size w w' := by
  obtain ⟨i0, hi, hz0, hz1, hz2⟩ := info_parts info25
  obtain ⟨j0, hj, hy0, hy1, hy2⟩ := info_parts info21
  have HZ := Lib.hid hz
  have HLL := Lib.hid hzl
  clear hz hzl
  go_enter Try.func29, Try.ntmps29
  go_wp2
  go_loopw [3, 4] (fun v i wr => ∃ k : Nat, k ≤ n ∧ i = .int .i64 k ∧ CJ w.heap.size zl k v wr ∧ Below w.heap.size w wr) (fun _ i _ => n - (intOf i).toNat)
  case atStart => exact ⟨0, Nat.zero_le _, rfl, ⟨[], World.ownsRow_lit _ #[] 0 (Nat.le_refl _) (by unfold maxLen; omega) rfl, fun j hj => absurd hj (by omega)⟩, (Below.refl _ _).alloc (Nat.le_refl _) _⟩
  case round =>
    obtain ⟨k, hk, rfl, hcj, hbel⟩ := hrel
    by_cases hlt : k < n
    · obtain ⟨b0, rfl, hb0, hcell⟩ := (HZ.out.on hbel) (by omega)
      obtain ⟨u, hu, hrow⟩ := hcell k hlt
      have hsz := hbel.size
      have hq15 := HLL.out k
      obtain ⟨cells, h1, h2⟩ := hcj
      obtain ⟨q, hq⟩ : ∃ q, zl k = q := ⟨_, rfl⟩
      rw [hq] at hrow hq15
      have hu2 : ∀ o, (wr.alloc o).cell? ⟨b0, k, none⟩ = some u := fun o => (World.cell?_alloc_lt _ _ _ (by exact hb0)).trans hu
      have HB := Lib.hid hbel
      have HL := Lib.hid hq
      have H1 := Lib.hid h1
      have H2 := Lib.hid h2
      clear hbel hq h1 h2 hcell
      have hown0 : (wr.alloc (.cells #[] 21)).ownsRow w.heap.size 21 1 (.slice (some ⟨wr.heap.size, 0, none⟩) 0 0) 0 [] := World.ownsRow_lit (e := 21) (size := 1) wr #[] 0 hsz (by unfold maxLen; omega) rfl
      have HO0 := Lib.hid hown0
      rcases hrow with ⟨rfl, rfl⟩ | ⟨hq0, g, rfl, _, hg, hz⟩
      · have hnil := run_append_owned_none (P := Try.prog) (wr.alloc (.cells #[] 21)) w.heap.size 25 25 21 j0 1 Try.underlying25 hj _ 0 [] hown0
        clear hown0
        go_wp2_with (at_builtin; refine wpList_append_own_at _ rfl _ _ 70 rfl w.heap.size 25 i0 (.slice none 0 0) 1 24 Try.underlying70 hi hz0 hz1 hz2 rfl (by decide) _ _ _ rfl ((H1.out.alloc _).alloc _) ⟨wr.heap.size + 1, 0, none⟩ 1 1 [.slice (some ⟨wr.heap.size, 0, none⟩) 0 0] rfl rfl (World.news_of_block (cs := #[.slice (some ⟨wr.heap.size, 0, none⟩) 0 0]) (t := 25) (fr := (0, 0)) (newsZ wr _ _ _)) (by simp [Value.oneCell']) (by unfold maxLen; omega) (by omega) (by simp; omega) ?_; intro v' w5 hown5 hgrow _ hat)
        have hbw : Below wr.heap.size wr ((wr.alloc (.cells #[] 21)).alloc (.cells #[.slice (some ⟨wr.heap.size, 0, none⟩) 0 0] 25)) := below_alloc2 _ _ _
        go_roundw
        case rel => exact ⟨k + 1, by omega, by go_num, CJ.snoc H1.out H2.out hbw (by rw [HL.out]; exact HO0.out.alloc _) hown5 hgrow, (HB.out.trans (hbw.mono hsz)).grown hgrow (by simp; omega) (fun j hj => (H1.out.lt j hj).1)⟩
        case measure => simp [intOf]; omega
      · have hnews : ∀ (j : Nat) (x : Value), (zeros q)[j]? = some x → (wr.alloc (.cells #[] 21)).cell? ((⟨g, 0, none⟩ : Addr).add j) = some x := fun j x hx => by
          have hjq : j < q := by
            rcases Nat.lt_or_ge j q with h | h
            · exact h
            · rw [List.getElem?_eq_none (by simp [zeros]; omega)] at hx; cases hx
          have hx2 : x = .int .i32 0 := by simp [zeros, hjq] at hx; exact hx.symm
          rw [add_plain, Nat.zero_add, World.cell?_alloc_lt _ _ _ (by exact hg), hz j hjq, hx2]
        have HNW := Lib.hid hnews
        have h1c : ∀ x ∈ zeros q, x.oneCell' = true := fun x hx => by rw [List.eq_of_mem_replicate hx]; rfl
        have H1C := Lib.hid h1c
        have HGB := Lib.hid (fun (w2 : World) (hg2 : (wr.alloc (.cells #[] 21)).grownBy w2 (some wr.heap.size)) => ((Below.refl wr.heap.size wr).alloc (Nat.le_refl _) (.cells #[] 21)).grown hg2 (by simp) (fun j hj => by cases hj; exact Nat.le_refl _))
        have hA : 0 + q ≤ maxLen := by unfold maxLen; omega
        have hB : (0 + q) * 4 ≤ 140737488355328 := by omega
        have hC : w.heap.size ≤ (wr.alloc (.cells #[] 21)).heap.size := by simp; omega
        have hD : (zeros q).length = q * 1 := by simp [zeros]
        have HA := Lib.hid hA
        have HBB := Lib.hid hB
        have HCC := Lib.hid hC
        have HD := Lib.hid hD
        clear hown0 hnews h1c hz hA hB hC hD
        go_wp2_with (first
          | (at_builtin; refine wpList_append_own_at _ rfl _ _ 25 rfl w.heap.size 21 j0 (.int .i32 0) 1 4 Try.underlying25 hj hy0 hy1 hy2 rfl (by decide) _ _ _ rfl HO0.out ⟨g, 0, none⟩ q q (zeros q) rfl HD.out HNW.out H1C.out HA.out HBB.out HCC.out ?_; intro v2 w2 hown2 hgrow2 _ hat2; simp only [Nat.zero_add, List.nil_append] at hown2; obtain ⟨gv, cv, rfl, _, _⟩ := hown2.form hq0; have HO2 := Lib.hid hown2; have HB2 := Lib.hid (HGB.out _ hgrow2); have hs2 := HB2.out.size; have H12 := Lib.hid (own_on H1.out HB2.out); clear hown2 hgrow2 hat2)
          | (at_builtin; refine wpList_append_own_at _ rfl _ _ 70 rfl w.heap.size 25 i0 (.slice none 0 0) 1 24 Try.underlying70 hi hz0 hz1 hz2 rfl (by decide) _ _ _ rfl (H12.out.alloc _) ⟨w2.heap.size, 0, none⟩ 1 1 [.slice (some ⟨gv, 0, none⟩) q cv] rfl rfl (cell_one_new _ _ _) (by simp [Value.oneCell']) (by unfold maxLen; omega) (by omega) (by simp; omega) ?_; intro v' w5 hown5 hgrow _ hat))
        have hbw : Below wr.heap.size wr (w2.alloc (.cells #[.slice (some ⟨gv, 0, none⟩) q cv] 25)) := HB2.out.alloc hs2 _
        go_roundw
        case rel => exact ⟨k + 1, by omega, by go_num, CJ.snoc H1.out H2.out hbw (by rw [HL.out]; exact HO2.out.alloc _) hown5 hgrow, (HB.out.trans (hbw.mono hsz)).grown hgrow (by simp; omega) (fun j hj => (H1.out.lt j hj).1)⟩
        case measure => simp [intOf]; omega
    · obtain rfl : k = n := by omega
      have HZ := Lib.hid hcj
      have HB := Lib.hid hbel
      clear hcj hbel
      go_wp2
      go_ret
      exact ⟨_, rfl, HZ.out, HB.out⟩

set_option maxRecDepth 100000 in
set_option maxHeartbeats 1000000 in
theorem Same_true (n c c' : Nat) (A A' : Option Addr) (L : Nat → Nat) (F F' : Nat → Nat → Int) (w : World) (hn : n ≤ 65536) (hL : ∀ j, j < n → L j ≤ 65536) (hr : RW w w.heap.size .i32 A n L F) (hx : RW w w.heap.size .i32 A' n L F') (h : ∀ r, r < n → ∀ j, j < L r → F r j = F' r j) :
    Calls Try.prog 25 #[.slice A n c, .slice A' n c'] w fun e w' => e = .returned (.bool true) ∧ ∃ d, w' = w.drewN d := by
  have H1 := Lib.hid hr
  have H2 := Lib.hid hx
  have HE := Lib.hid h
  have HL := Lib.hid hL
  clear hr hx h hL
  go_enter Try.func25, Try.ntmps25
  go_wp2
  go_loopw [5] (fun i wr => ∃ k d : Nat, k ≤ n ∧ i = .int .i64 k ∧ wr = w.drewN d) (fun i _ => n - (intOf i).toNat)
  case atStart => exact ⟨0, 0, Nat.zero_le _, rfl, rfl⟩
  case round =>
    obtain ⟨k, d, hk, rfl, rfl⟩ := hrel
    by_cases hlt : k < n
    · obtain ⟨b, off, B1, k1, rfl, hb, hc, hf⟩ := H1.out.at_ hlt
      obtain ⟨b', off', B2, k2, rfl, hb', hc', hf'⟩ := H2.out.at_ hlt
      obtain ⟨q, hq⟩ : ∃ q, L k = q := ⟨_, rfl⟩
      have hq2 := HL.out k hlt
      have he := HE.out k hlt
      rw [hq] at hc hf hc' hf' hq2 he
      have HF1 := Lib.hid hf
      have HF2 := Lib.hid hf'
      have HEE := Lib.hid he
      clear hf hf' he hq
      go_wp2
      go_quiet ((go_at_call 20; exact quiet_add (SameWords_true q k1 k2 B1 B2 (F k) (F' k) _ hq2 HF1.out HF2.out HEE.out)))
      go_wp2
      go_roundw
      case rel => exact ⟨k + 1, _, by omega, by go_num, rfl⟩
      case measure => simp [intOf]; omega
    · obtain rfl : k = n := by omega
      go_wp2
      go_ret
      exact ⟨rfl, _, rfl⟩
end Go.Proofs.Ytjknmancnfeifaa
