/-
  Contracts of pack, SameInts, SamePacked; Pack where it refuses.
-/
import Derived.Test.YtjknmancnfeifaaPack
import Derived.Deep.QuietTactic
import Derived.BigQuiet
set_option linter.unusedVariables false
set_option linter.unusedSimpArgs false
namespace Go.Proofs.Ytjknmancnfeifaa
open Go.ChangeShapes Go.WideShapes Go.ChangeAt Go.RowKit

theorem quiet_add {P : Program} {f : FuncId} {args : Array Value} {w : World} {a n : Nat} {v : Value}
    (h : Calls P f args (w.drewN (a + n)) fun e w' => e = .returned v ∧ ∃ m, w' = (w.drewN (a + n)).drewN m) :
    Calls P f args (w.drewN (a + n)) fun e w'' => e = .returned v ∧ ∃ m, w'' = w.drewN (a + m) :=
  h.mono fun _ _ ⟨he, m, hm⟩ => ⟨he, n + m, by rw [hm, World.drewN_drewN, Nat.add_assoc]⟩

set_option maxRecDepth 100000 in
theorem SameInts_true (n c c' : Nat) (A A' : Option Addr) (f g : Nat → Int) (w : World) (hn : n ≤ 65536) (hr : RF w w.heap.size .i64 A n f) (hx : RF w w.heap.size .i64 A' n g) (h : ∀ j, j < n → f j = g j) :
    Calls Try.prog 37 #[.slice A n c, .slice A' n c'] w fun e w' => e = .returned (.bool true) ∧ ∃ d, w' = w.drewN d := by
  have HR := Lib.hid hr
  have HX := Lib.hid hx
  have HE := Lib.hid h
  clear hr hx h
  go_enter Try.func37, Try.ntmps37
  go_wp2
  go_loopw [5] (fun i wr => ∃ k d : Nat, k ≤ n ∧ i = .int .i64 k ∧ wr = w.drewN d) (fun i _ => n - (intOf i).toNat)
  case atStart => exact ⟨0, 0, Nat.zero_le _, rfl, rfl⟩
  case round =>
    obtain ⟨k, d, hk, rfl, rfl⟩ := hrel
    by_cases hlt : k < n
    · obtain ⟨b, off, rfl, hb, hc⟩ := HR.out.at_ hlt
      obtain ⟨b', off', rfl, hb', hc'⟩ := HX.out.at_ hlt
      rw [← HE.out k hlt] at hc'
      go_wp2
      go_quiet (fail)
      go_wp2
      go_roundw
      case rel => exact ⟨k + 1, _, by omega, by go_num, rfl⟩
      case measure => simp [intOf]; omega
    · obtain rfl : k = n := by omega
      go_wp2
      go_ret
      exact ⟨rfl, _, rfl⟩

set_option maxRecDepth 100000 in
set_option maxHeartbeats 1000000 in
theorem SamePacked_true (n c c' : Nat) (e : Int) (A A' : Option Addr) (L : Nat → Nat) (F F' : Nat → Nat → Int) (w : World) (hn : n ≤ 65536) (hL : ∀ j, j < n → L j ≤ 65536) (hr : RW w w.heap.size .i64 A n L F) (hx : RW w w.heap.size .i64 A' n L F') (h : ∀ r, r < n → ∀ j, j < L r → F r j = F' r j) :
    Calls Try.prog 21 #[.agg #[.slice A n c, .int .i64 e], .agg #[.slice A' n c', .int .i64 e]] w fun e w' => e = .returned (.bool true) ∧ Below w.heap.size w w' := by
  have hb2 : ∀ o o', Below w.heap.size w ((w.alloc o).alloc o') := fun o o' => ((Below.refl _ _).alloc (Nat.le_refl _) o).alloc (by simp) o'
  have HR := Lib.hid (fun o o' => hr.on (hb2 o o'))
  have HX := Lib.hid (fun o o' => hx.on (hb2 o o'))
  have HE := Lib.hid h
  have HL := Lib.hid hL
  have HB := Lib.hid hb2
  clear hr hx h hL hb2
  go_enter Try.func21, Try.ntmps21
  go_wp2
  obtain ⟨W, hW⟩ : ∃ W, (w.alloc (.cells #[.slice A n c, .int .i64 e] 66)).alloc (.cells #[.slice A' n c', .int .i64 e] 66) = W := ⟨_, rfl⟩
  have hR := HR.out (.cells #[.slice A n c, .int .i64 e] 66) (.cells #[.slice A' n c', .int .i64 e] 66)
  have hX := HX.out (.cells #[.slice A n c, .int .i64 e] 66) (.cells #[.slice A' n c', .int .i64 e] 66)
  have hB := HB.out (.cells #[.slice A n c, .int .i64 e] 66) (.cells #[.slice A' n c', .int .i64 e] 66)
  have c1 : ((w.alloc (.cells #[.slice A n c, .int .i64 e] 66)).alloc (.cells #[.slice A' n c', .int .i64 e] 66)).cell? ⟨w.heap.size, 0, none⟩ = some (.slice A n c) := (World.cell?_alloc_lt _ _ _ (by simp)).trans (by rw [World.cell?_alloc_at _ _ _ _ rfl]; rfl)
  have c2 : ((w.alloc (.cells #[.slice A n c, .int .i64 e] 66)).alloc (.cells #[.slice A' n c', .int .i64 e] 66)).cell? ⟨w.heap.size + 1, 0, none⟩ = some (.slice A' n c') := by rw [World.cell?_alloc_at _ _ _ _ (by simp)]; rfl
  rw [hW] at hR hX hB c1 c2 ⊢
  have H1 := Lib.hid hR
  have H2 := Lib.hid hX
  have HBB := Lib.hid hB
  clear hR hX hB HR HX HB hW
  go_loopw [5] (fun i wr => ∃ k d : Nat, k ≤ n ∧ i = .int .i64 k ∧ wr = W.drewN d) (fun i _ => n - (intOf i).toNat)
  case atStart => exact ⟨0, 0, Nat.zero_le _, rfl, rfl⟩
  case round =>
    obtain ⟨k, d, hk, rfl, rfl⟩ := hrel
    by_cases hlt : k < n
    · obtain ⟨b, off, B1, k1, rfl, hb, hc, hf⟩ := H1.out.at_ hlt
      obtain ⟨b', off', B2, k2, rfl, hb', hc', hf'⟩ := H2.out.at_ hlt
      obtain ⟨q, hq⟩ : ∃ q, L k = q := ⟨_, rfl⟩
      have hq2 := HL.out k hlt
      have he := HE.out k hlt
      rw [hq] at hc hf hc' hf' hq2 he
      have HF1 := Lib.hid hf
      have HF2 := Lib.hid hf'
      have HEE := Lib.hid he
      clear hf hf' he hq
      go_wp2
      go_quiet ((go_at_call 37; exact quiet_add (SameInts_true q k1 k2 B1 B2 (F k) (F' k) _ hq2 HF1.out HF2.out HEE.out)))
      go_wp2
      go_roundw
      case rel => exact ⟨k + 1, _, by omega, by go_num, rfl⟩
      case measure => simp [intOf]; omega
    · obtain rfl : k = n := by omega
      go_wp2
      go_ret
      exact ⟨rfl, below_drewN HBB.out _⟩

theorem Pack_yes (m : Nat) (d : Int) (len cap : Nat) (A : Option Addr) (f : Nat → Int) (w : World) (hm1 : 1 ≤ m) (hm : m ≤ 64) (hd0 : 0 ≤ d) (hd : d < 18446744073709551616) (hlen : len ≤ 65536) (hcap : len ≤ cap)
    (hr : RF w w.heap.size .i64 A len f) (hn1 : 1 ≤ (livL d m).length) :
    Calls Try.prog 38 #[.slice A len cap, .int .i64 m, .int .u64 d] w fun e w' => ∃ A' c', e = .returned (.tuple #[.slice A' (chN len (livL d m).length) c', .int .i64 0]) ∧
      RWo w' w.heap.size w'.heap.size .i64 A' (chN len (livL d m).length) (fun _ => m) (warpF (livL d m) len f) ∧ Below w.heap.size w w' :=
  callsIn_wide.1 (Pack_in m d len cap A f w hm1 hm hd0 hd hlen hcap hr hn1)

def packOk (L : Int) (d : Int) : Prop := 1 ≤ L ∧ L ≤ 64 ∧ livL d L.toNat ≠ []
theorem living_none {m : Nat} {d : Int} (W : World) (hm : m ≤ 64) (hd0 : 0 ≤ d) (hd : d < 18446744073709551616) (hlv : livL d m = []) :
    Calls Try.prog 47 #[.int .i64 m, .int .u64 d] W fun e w' => ∃ A c, e = .returned (.slice A 0 c) ∧ Below W.heap.size W w' :=
  (living_any m d W hm hd0 hd).mono fun e w' ⟨v, he, hown, hb⟩ => by
    rw [hlv] at hown
    rcases hown.2 with ⟨rfl, _⟩ | ⟨g, cap, cur, rfl, _⟩
    · exact ⟨_, _, he, hb⟩
    · exact ⟨_, _, he, hb⟩
set_option maxRecDepth 100000 in
theorem Pack_no (L : Int) (d : Int) (len cap : Nat) (A : Option Addr) (w : World) (hd0 : 0 ≤ d) (hd : d < 18446744073709551616) (h : ¬ packOk L d) :
    Calls Try.prog 38 #[.slice A len cap, .int .i64 L, .int .u64 d] w fun e w' => e = .returned (.tuple #[.slice none 0 0, .int .i64 1]) ∧ Below w.heap.size w w' := by
  have hcs : L < 1 ∨ 64 < L ∨ (1 ≤ L ∧ L ≤ 64 ∧ livL d L.toNat = []) := by
    unfold packOk at h
    by_cases h1 : L < 1
    · exact .inl h1
    · by_cases h2 : 64 < L
      · exact .inr (.inl h2)
      · refine .inr (.inr ⟨by omega, by omega, ?_⟩)
        exact Classical.byContradiction fun hn => h ⟨by omega, by omega, hn⟩
  clear h
  rcases hcs with h | h | ⟨h1, h2, h⟩
  · go_enter Try.func38, Try.ntmps38
    go_wp2
    go_ret2
    exact ⟨rfl, (Below.refl _ _).alloc (Nat.le_refl _) _⟩
  · go_enter Try.func38, Try.ntmps38
    go_wp2
    go_ret2
    exact ⟨rfl, (Below.refl _ _).alloc (Nat.le_refl _) _⟩
  · obtain ⟨m, rfl⟩ : ∃ m : Nat, L = m := ⟨L.toNat, by omega⟩
    rw [Int.toNat_natCast] at h
    have H := Lib.hid fun W => living_none W (m := m) (by omega) hd0 hd h
    clear h
    go_enter Try.func38, Try.ntmps38
    go_wp2_with (go_at_call 47; refine (H.out _).mono ?_; rintro e w1 ⟨A1, c1, rfl, hb⟩; have HB := Lib.hid hb; clear hb)
    go_ret2
    exact ⟨rfl, ((Below.refl _ _).alloc (Nat.le_refl _) _).trans ((HB.out.mono (by simp)).alloc (by have := HB.out.size; simp at this; omega) _)⟩

theorem pack_yes (m : Nat) (d : Int) (len cap : Nat) (A : Option Addr) (f : Nat → Int) (w : World) (hm1 : 1 ≤ m) (hm : m ≤ 64) (hd0 : 0 ≤ d) (hd : d < 18446744073709551616) (hlen : len ≤ 65536) (hcap : len ≤ cap)
    (hr : RF w w.heap.size .i64 A len f) (hn1 : livL d m ≠ []) :
    Calls Try.prog 22 #[.slice A len cap, .int .i64 m, .int .u64 d] w fun e w' => ∃ A' c', e = .returned (.agg #[.slice A' (chN len (livL d m).length) c', .int .i64 0]) ∧
      RW w' w'.heap.size .i64 A' (chN len (livL d m).length) (fun _ => m) (warpF (livL d m) len f) ∧ Below w.heap.size w w' := by
  have hal : ∀ o, Below w.heap.size w (w.alloc o) := fun o => (Below.refl _ _).alloc (Nat.le_refl _) o
  have hn2 : 1 ≤ (livL d m).length := by
    cases h : livL d m with
    | nil => exact absurd h hn1
    | cons a l => simp
  have HS := fun o => Pack_yes m d len cap A f (w.alloc o) hm1 hm hd0 hd hlen hcap (hr.on (hal o)) hn2
  obtain ⟨lv, hlv⟩ : ∃ lv, livL d m = lv := ⟨_, rfl⟩
  rw [hlv] at HS ⊢
  have HH := Lib.hid HS
  clear HS hr hal hn2 hlv hn1
  go_enter Try.func22, Try.ntmps22
  go_wp2_with (go_at_call 38; refine (HH.out _).mono ?_; rintro e w1 ⟨A', c', rfl, hR, hb⟩; obtain ⟨hc, hf⟩ := bcell hb; have hz : w.heap.size < w1.heap.size := (by have := hb.size; simp at this; omega); have HB := Lib.hid hb; have HRR := Lib.hid hR; clear hb hR)
  refine bodyPost_ret (v := .agg #[.slice A' (chN len lv.length) c', .int .i64 0]) (by simp [results, Try.results22, go_sem, hc]) rfl ⟨A', c', rfl, ?_, ?_⟩
  · have h3 := (HRR.out.far (p := ⟨w.heap.size, 0, none⟩) (by simp) (.slice A' (chN len lv.length) c')).far (p := ⟨w.heap.size, 1, none⟩) (by simp) (.int .i64 0)
    exact h3.rw_.more (by simp [World.setCell])
  · exact ((((Below.refl _ _).alloc (Nat.le_refl _) _).trans (HB.out.mono (by simp))).setCell (by simp) _).setCell (by simp) _
theorem pack_no (L : Int) (d : Int) (len cap : Nat) (A : Option Addr) (w : World) (hd0 : 0 ≤ d) (hd : d < 18446744073709551616) (h : ¬ packOk L d) :
    Calls Try.prog 22 #[.slice A len cap, .int .i64 L, .int .u64 d] w fun e w' => e = .returned (.agg #[.slice none 0 0, .int .i64 1]) ∧ Below w.heap.size w w' := by
  have HS := Lib.hid fun o => Pack_no L d len cap A (w.alloc o) hd0 hd h
  clear h
  go_enter Try.func22, Try.ntmps22
  go_wp2_with (go_at_call 38; refine (HS.out _).mono ?_; rintro e w1 ⟨rfl, hb⟩; obtain ⟨hc, hf⟩ := bcell hb; have hz : w.heap.size < w1.heap.size := (by have := hb.size; simp at this; omega); have HB := Lib.hid hb; clear hb)
  exact bodyPost_ret (v := .agg #[.slice none 0 0, .int .i64 1]) (by simp [results, Try.results22, go_sem, hc]) rfl ⟨rfl, ((((Below.refl _ _).alloc (Nat.le_refl _) _).trans (HB.out.mono (by simp))).setCell (by simp) _).setCell (by simp) _⟩
end Go.Proofs.Ytjknmancnfeifaa
