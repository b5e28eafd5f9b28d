import Derived.Test.YtkncilgmlkeifaaGreatDoorGrd
import Derived.Test.YtkncilgmlkeifaaGreatDoorSld
import Derived.Test.YtkncilgmlkeifaaGreatDoorNeq
import Derived.Test.YtkncilgmlkeifaaGreatDoorLin
import Derived.Test.YtkncilgmlkeifaaGreatDoorCpy
import Derived.Deep.MidRow
import Derived.Laws.AppendOwnNone
import Derived.Deep.RegionLaw
import Derived.Deep.RegionHeld3
import Derived.Test.YtkncilgmlkeifaaGreatDoorFrw
/-
  CodeRenames: what its walk needs.
-/
set_option linter.unusedVariables false
set_option linter.unusedSimpArgs false
set_option maxRecDepth 100000
set_option maxHeartbeats 3000000
namespace Go.Proofs.YtkncilgmlkeifaaGreatDoor
open Go.ChangeShapes Go.WideShapes Go.ChangeAt Go.RowKit Go.Shelf
def addI (l : List Int) (x : Int) : List Int := if x ∈ l then l else l.takeWhile (. < x) ++ x :: l.dropWhile (. < x)
theorem hasX_any (A : Option Addr) (n c : Nat) (f : Nat -> Int) (x : Int) (w : World) (h : RI w w.heap.size A n f) (hn : n <= 65536) :
 Calls Tryz.prog 114 #[.slice A n c, x] w fun e w' => e = .returned (.bool ((List.range n).any fun j => f j == x)) /\ Below w.heap.size w w' := by
 have HN := lh (fun (k : Nat) (hk : k < n) (e : f k = x) => show ((List.range n).any fun j => f j == x) = true from List.any_eq_true.2 ⟨k, by simpa using hk, by simpa using e⟩)
 have HT := lh (fun (h1 : ∀ j, j < n -> f j ≠ x) => show ((List.range n).any fun j => f j == x) = false from by
  rw [Bool.eq_false_iff]
  intro hh
  obtain ⟨j, hj, e⟩ := List.any_eq_true.1 hh
  exact h1 j (by simpa using hj) (by simpa using e))
 obtain ⟨res, hres⟩ : ∃ res, ((List.range n).any fun j => f j == x) = res := ⟨_, rfl⟩
 rw [hres] at HN HT ⊢
 have HH := lh h
 clear h hres
 go_enter Tryz.func114, Tryz.ntmps114
 go_wp2
 go_loopw [5] (fun i wr => ∃ k : Nat, k <= n /\ i = .int .i64 k /\ Hid (∀ j, j < k -> f j ≠ x) /\ Hid (Below w.heap.size w wr)) (fun i _ => n - (intOf i).toNat)
 case atStart => exact ⟨0, Nat.zero_le _, rfl, lh (fun j hj => absurd hj (by omega)), lh (Below.refl _ _)⟩
 case round =>
  obtain ⟨k, hk, rfl, HJ, HB⟩ := hrel
  by_cases hlt : k < n
  . obtain ⟨b, off, hA, hb, hc⟩ := (HH.out.below HB.out) (by omega)
    have m0 := hc k hlt
    subst hA
    have hki : (k : Int) < (n : Int) := by omega
    by_cases he : f k = x
    . have e1 : (f k == x) = true := by simpa using he
      have HR := lh (HN.out k hlt he)
      go_wp2
      go_ret
      exact ⟨by rw [HR.out]; rfl, HB.out⟩
    . have e1 : (f k == x) = false := by simpa using he
      have HE := lh he
      go_wp2
      go_roundw
      case rel => exact ⟨k + 1, by omega, by go_num, lh (fun j hj => by
       by_cases hjk : j = k
       . subst hjk
         exact HE.out
       . exact HJ.out j (by omega)), HB⟩
      case measure => simp [intOf]; omega
  . have HR := lh (HT.out (fun j hj => HJ.out j (by omega)))
    go_wp2
    go_ret
    exact ⟨by rw [HR.out]; rfl, HB.out⟩
def ivs (xs : List Int) : List Value := xs.map fun z => .int .i64 z
theorem ivs_len (xs : List Int) : (ivs xs).length = xs.length := List.length_map ..
theorem ivs_one (xs : List Int) : ∀ u, u ∈ ivs xs -> u.oneCell' = true := by
 intro u hu
 obtain ⟨z, _, rfl⟩ := List.mem_map.1 hu
 rfl
def RowI (W : World) (base : Nat) (v : Value) (xs : List Int) : Prop := ∃ g cap, v = .slice (some ⟨g, 0, none⟩) xs.length cap /\ W.ownsRow base 3 1 v xs.length (ivs xs)
theorem added_eq {xs : List Int} {x : Int} {k : Nat} (hk : k <= xs.length) (h1 : ∀ j, j < k -> xs.getD j 0 < x) (h2 : ∀ h : k < xs.length, ¬ xs.getD k 0 < x) (hx : ¬ x ∈ xs) : addI xs x = xs.take k ++ x :: xs.drop k := by
 unfold addI
 rw [if_neg hx]
 have key : ∀ (xs : List Int) (k : Nat), k <= xs.length -> (∀ j, j < k -> xs.getD j 0 < x) -> (∀ h : k < xs.length, ¬ xs.getD k 0 < x) -> xs.takeWhile (. < x) = xs.take k /\ xs.dropWhile (. < x) = xs.drop k := by
  intro xs
  induction xs with
  | nil => intro k hk _ _; simp at hk; subst hk; exact ⟨rfl, rfl⟩
  | cons z xs ih =>
   intro k hk h1 h2
   cases k with
   | zero =>
    have := h2 (by simp)
    rw [List.takeWhile_cons_of_neg (by simpa using this), List.dropWhile_cons_of_neg (by simpa using this)]
    exact ⟨rfl, rfl⟩
   | succ k =>
    have h0 := h1 0 (by omega)
    obtain ⟨e1, e2⟩ := ih k (by simpa using hk) (fun j hj => by have := h1 (j + 1) (by omega); simpa using this) (fun h => by have := h2 (by simpa using h); simpa using this)
    rw [List.takeWhile_cons_of_pos (by simpa using h0), List.dropWhile_cons_of_pos (by simpa using h0), e1, e2]
    exact ⟨rfl, rfl⟩
 obtain ⟨e1, e2⟩ := key xs k hk h1 h2
 rw [e1, e2]
theorem one_at {w : World} {b : Nat} {v : Value} (h : w.cell? ⟨b, 0, none⟩ = some v) : ∀ (j : Nat) (u : Value), ([v] : List Value)[j]? = some u -> w.cell? ((⟨b, 0, none⟩ : Addr).add j) = some u := by
 intro j u hj
 match j, hj with
 | 0, hj =>
  simp only [List.getElem?_cons_zero, Option.some.injEq] at hj
  subst hj
  exact h
theorem two_a (W : World) (x : Value) : ((W.alloc (.cells #[] 3)).drew.alloc (.cells #[x] 3)).cell? ⟨W.heap.size + 1, 0, none⟩ = some x := by
 have h : ((W.alloc (.cells #[] 3)).drew.alloc (.cells #[x] 3)).heap[(W.alloc (.cells #[] 3)).drew.heap.size]? = some (.cells #[x] 3 (0, 0)) := heap_alloc_new _ _
 have e : (W.alloc (.cells #[] 3)).drew.heap.size = W.heap.size + 1 := World.size_alloc _ _
 rw [e] at h
 exact cell_blk h (i := 0) rfl
theorem two_b (W : World) (x : Value) : ((W.alloc (.cells #[x] 3)).drew.alloc (.cells #[] 3)).cell? ⟨W.heap.size, 0, none⟩ = some x /\ ((W.alloc (.cells #[x] 3)).drew.alloc (.cells #[] 3)).ownsRow W.heap.size 3 1 (.slice (some ⟨W.heap.size + 1, 0, none⟩) 0 0) 0 [] := by
 have h : (W.alloc (.cells #[x] 3)).heap[W.heap.size]? = some (.cells #[x] 3 (0, 0)) := heap_alloc_new _ _
 have e : (W.alloc (.cells #[x] 3)).drew.heap.size = W.heap.size + 1 := World.size_alloc _ _
 refine ⟨cell_blk ((Below.heap_alloc (W.alloc (.cells #[x] 3)).drew _ _ (by rw [e]; exact Nat.lt_succ_self _)).trans h) (i := 0) rfl, ?_⟩
 have h2 := World.ownsRow_made (base := W.heap.size) (e := 3) (size := 1) (W.alloc (.cells #[x] 3)).drew #[] 0 (by rw [e]; exact Nat.le_succ _) (by decide) (by simp)
 rw [e] at h2
 exact h2
theorem added_any (base g cap : Nat) (xs : List Int) (x : Int) (w : World) (hb : base <= w.heap.size) (h : w.ownsRow base 3 1 (.slice (some ⟨g, 0, none⟩) xs.length cap) xs.length (ivs xs)) (hn : xs.length <= 100) :
 Calls Tryz.prog 75 #[.slice (some ⟨g, 0, none⟩) xs.length cap, x] w fun e w' => (∃ v, e = .returned v /\ RowI w' base v (addI xs x)) /\ Below w.heap.size w w' := by
 obtain ⟨iI, hI, hI0, hI1, hI2⟩ := info_parts infoInt3
 have HH := lh h
 have hri : RI w w.heap.size (some ⟨g, 0, none⟩) xs.length (fun j => xs.getD j 0) := fun hn0 => by
  obtain ⟨h1, h2⟩ := h.lt g rfl
  refine ⟨g, 0, rfl, h2, fun j hj => ?_⟩
  rw [Nat.zero_add, h.cellAt j (by omega)]
  unfold ivs
  rw [List.getElem?_map, List.getElem?_eq_getElem hj]
  show some (Value.int .i64 xs[j]) = some (Value.int .i64 (xs.getD j 0))
  rw [List.getD_eq_getElem?_getD, List.getElem?_eq_getElem hj]
  rfl
 have HR := lh hri
 have hcap : xs.length <= cap := by
  rcases h.2 with ⟨e, _⟩ | ⟨g', cap', cur, e, _, _, hc, _⟩
  . cases e
  . simp only [Value.slice.injEq] at e
    rw [e.2.2]
    exact hc
 have HHas := lh (hasX_any (some ⟨g, 0, none⟩) xs.length cap (fun j => xs.getD j 0) x w hri (by omega))
 have hany : ((List.range xs.length).any fun j => xs.getD j 0 == x) = decide (x ∈ xs) := by
  rw [Bool.eq_iff_iff, List.any_eq_true, decide_eq_true_eq]
  constructor
  . rintro ⟨j, hj, e⟩
    have hj' : j < xs.length := by simpa using hj
    have : xs.getD j 0 = x := by simpa using e
    rw [List.getD_eq_getElem?_getD, List.getElem?_eq_getElem hj'] at this
    rw [<- this]
    exact List.getElem_mem hj'
  . intro hx
    obtain ⟨j, hj, e⟩ := List.mem_iff_getElem.1 hx
    refine ⟨j, by simpa using hj, ?_⟩
    rw [List.getD_eq_getElem?_getD, List.getElem?_eq_getElem hj]
    simpa using e
 rw [hany] at HHas
 clear h hri hany
 go_enter Tryz.func75, Tryz.ntmps75
 by_cases hx : x ∈ xs
 . have HX := lh hx
   rw [decide_eq_true hx] at HHas
   clear hx
   go_wp2_with (first
    | (go_at_call 114; (with_reducible refine HHas.out.mono ?_); rintro e w1 ⟨rfl, hb1⟩; have HB1 := lh hb1; clear hb1))
   go_ret
   refine ⟨⟨_, rfl, ?_⟩, HB1.out⟩
   have e : addI xs x = xs := if_pos HX.out
   rw [e]
   exact ⟨g, cap, rfl, row_kept HH.out (kept_below HB1.out (fun _ => True)) trivial⟩
 . have HX := lh hx
   rw [decide_eq_false hx] at HHas
   clear hx
   go_upto_region 4 with (first
    | (go_at_call 114; (with_reducible refine HHas.out.mono ?_); rintro e w1 ⟨rfl, hb1⟩; have HB1 := lh hb1; clear hb1))
   obtain ⟨n, hnn⟩ : ∃ n, xs.length = n := ⟨_, rfl⟩
   rw [hnn] at hn hcap ⊢
   rw [hnn] at HH
   have HNN := lh hnn
   clear hnn
   go_loopw [5] (fun i wr => ∃ k : Nat, k <= n /\ i = .int .i64 k /\ Hid (∀ j, j < k -> xs.getD j 0 < x) /\ wr = w1) (fun i _ => n - (intOf i).toNat)
   case atStart => exact ⟨0, Nat.zero_le _, rfl, lh (fun j hj => absurd hj (by omega)), rfl⟩
   case round =>
    obtain ⟨k, hk, rfl, HJ, rfl⟩ := hrel
    by_cases hc : ∃ h : k < n, xs.getD k 0 < x
    . obtain ⟨hlt, hx2⟩ := hc
      have hrow := row_kept HH.out (kept_below HB1.out (fun _ => True)) trivial
      have hkx : k < xs.length := by rw [HNN.out]; exact hlt
      have m0 : wr.cell? ⟨g, k, none⟩ = some (.int .i64 (xs.getD k 0)) := by
       rw [hrow.cellAt k (by omega)]
       unfold ivs
       rw [List.getElem?_map, List.getElem?_eq_getElem hkx, List.getD_eq_getElem?_getD, List.getElem?_eq_getElem hkx]
       rfl
      have hki : (k : Int) < (n : Int) := by omega
      have HJ2 := lh (fun j (hj : j < k + 1) => show xs.getD j 0 < x from by
       by_cases hjk : j = k
       . subst hjk; exact hx2
       . exact HJ.out j (by omega))
      obtain ⟨y, hy⟩ : ∃ y, xs.getD k 0 = y := ⟨_, rfl⟩
      rw [hy] at m0 hx2
      clear hrow hy
      go_wp2
      go_roundw
      case rel => exact ⟨k + 1, by omega, by go_num, HJ2, by first | exact trivial | rfl⟩
      case measure => simp [intOf]; omega
    . have HX3 := lh (fun (h : k < xs.length) => show ¬ xs.getD k 0 < x from fun h2 => hc ⟨by rw [<- HNN.out]; exact h, h2⟩)
      have HB2 := lh (kept_below HB1.out (fun _ => True))
      have HRW := lh (row_kept HH.out HB2.out trivial)
      have HS1 : Hid (∀ W, Below wr.heap.size wr W -> Src W (some ⟨g, 0, none⟩) k 1 (ivs (xs.take k))) := lh (fun W hW => by
       have hr := row_kept HRW.out (kept_below hW (fun _ => True)) trivial
       refine ⟨by rw [ivs_len, List.length_take, HNN.out]; omega, ivs_one _, fun _ => ⟨_, rfl, fun j u hj => hr.cells rfl j u ?_⟩⟩
       have e : ivs (xs.take k) = (ivs xs).take k := List.map_take
       rw [e, List.getElem?_take] at hj
       split at hj
       . exact hj
       . cases hj)
      have HS2 : Hid (∀ W, Below wr.heap.size wr W -> Src W (some ⟨g, k, none⟩) (n - k) 1 (ivs (xs.drop k))) := lh (fun W hW => by
       have hr := row_kept HRW.out (kept_below hW (fun _ => True)) trivial
       refine ⟨by rw [ivs_len, List.length_drop, HNN.out]; omega, ivs_one _, fun _ => ⟨_, rfl, fun j u hj => ?_⟩⟩
       have e : ivs (xs.drop k) = (ivs xs).drop k := List.map_drop
       rw [e, List.getElem?_drop] at hj
       have hlt := (List.getElem?_eq_some_iff.1 hj).1
       rw [ivs_len, HNN.out] at hlt
       rw [Addr.add_mid, hr.cellAt _ (by omega)]
       exact hj)
      have HFN := lh (fun h1 => added_eq (x := x) (by rw [HNN.out]; exact hk) HJ.out h1 HX.out)
      by_cases hlt : k < n
      . have hkx : k < xs.length := by rw [HNN.out]; exact hlt
        have m0 : wr.cell? ⟨g, k, none⟩ = some (.int .i64 (xs.getD k 0)) := by
         rw [HRW.out.cellAt k (by omega)]
         unfold ivs
         rw [List.getElem?_map, List.getElem?_eq_getElem hkx, List.getD_eq_getElem?_getD, List.getElem?_eq_getElem hkx]
         rfl
        have hki : (k : Int) < (n : Int) := by omega
        have hkc : (k : Int) <= (cap : Int) := by omega
        have hkn : (k : Int) <= (n : Int) := by omega
        have hk0 : (0 : Int) <= (k : Int) := by omega
        have hck : ¬ cap = k := by omega
        have hx2 : ¬ xs.getD k 0 < x := fun hh => hc ⟨hlt, hh⟩
        obtain ⟨y, hy⟩ : ∃ y, xs.getD k 0 = y := ⟨_, rfl⟩
        rw [hy] at m0 hx2
        clear hy hc
        go_upto_region 6 with (fail)
        go_region_held3 (fun w' => Below wr.heap.size wr w') ((repeat' (first | assumption | exact Below.refl _ _ | exact HB8.out | exact HB9.out | exact HB10.out | with_reducible apply below_drewS | with_reducible apply below_allocS))) (first
         | (refine step_append_src (by rfl) _ _ 57 (by rfl) wr.heap.size 3 iI _ 1 8 Tryz.underlying57 hI hI0 hI1 hI2 rfl (by decide) (.slice (some ⟨wr.heap.size, 0, none⟩) 0 0) 0 [] (by rfl) (lit_ownD 3 1 (Below.refl _ wr)) (some ⟨g, 0, none⟩) k cap (ivs (xs.take k)) (by rfl) (HS1.out _ (below_drewS (below_allocS (Below.refl _ wr)))) (by unfold maxLen; omega) (by omega) (below_drewS (below_allocS (Below.refl _ wr))).size ?_; intro v1 w1 hown1 hg1; have HB8 := lh (grow_below (below_drewS (below_allocS (Below.refl _ wr))) (lit_ownD 3 1 (Below.refl _ wr)) hg1 (Nat.le_refl _) (Nat.le_refl _)); rw [Nat.zero_add, List.nil_append] at hown1; obtain ⟨A1, c1, rfl, _⟩ := own_cells hown1; have HO1 := lh hown1; clear hown1 hg1)
         | (refine step_append_src (by rfl) _ _ 57 (by rfl) wr.heap.size 3 iI _ 1 8 Tryz.underlying57 hI hI0 hI1 hI2 rfl (by decide) (.slice (some ⟨wr.heap.size, 0, none⟩) 0 0) 0 [] (by rfl) (row_kept (lit_ownD 3 1 (Below.refl _ wr)) (kept_below ((Below.refl _ _).alloc (Nat.le_refl _) (.cells #[x] 3)) (fun _ => True)) trivial) (some ⟨g, 0, none⟩) k cap (ivs (xs.take k)) (by rfl) (HS1.out _ (below_allocS (below_drewS (below_allocS (Below.refl _ wr))))) (by unfold maxLen; omega) (by omega) (below_allocS (o := .cells #[x] 3) (below_drewS (below_allocS (o := .cells #[] 3) (Below.refl _ wr)))).size ?_; intro v1 w1 hown1 hg1; have HC1 := lh (hg1.cell (two_a wr (.int .i64 x)) (by simp [Value.ownBlock])); have HB8 := lh (grow_below (below_allocS (below_drewS (below_allocS (Below.refl _ wr)))) (row_kept (lit_ownD 3 1 (Below.refl _ wr)) (kept_below ((Below.refl _ _).alloc (Nat.le_refl _) (.cells #[x] 3)) (fun _ => True)) trivial) hg1 (Nat.le_refl _) (Nat.le_refl _)); rw [Nat.zero_add, List.nil_append] at hown1; obtain ⟨A1, c1, rfl, _⟩ := own_cells hown1; have HO1 := lh hown1; clear hown1 hg1)
         | (refine step_append_src (by rfl) _ _ 57 (by rfl) wr.heap.size 3 iI _ 1 8 Tryz.underlying57 hI hI0 hI1 hI2 rfl (by decide) (.slice (some ⟨wr.heap.size + 1, 0, none⟩) 0 0) 0 [] (by rfl) (two_b wr (.int .i64 x)).2 (some ⟨g, 0, none⟩) k cap (ivs (xs.take k)) (by rfl) (HS1.out _ (below_allocS (below_drewS (below_allocS (Below.refl _ wr))))) (by unfold maxLen; omega) (by omega) (below_allocS (o := .cells #[] 3) (below_drewS (below_allocS (o := .cells #[x] 3) (Below.refl _ wr)))).size ?_; intro v1 w1 hown1 hg1; have HC1 := lh (hg1.cell (two_b wr (.int .i64 x)).1 (by simp [Value.ownBlock])); have HB8 := lh (grow_below (below_allocS (below_drewS (below_allocS (Below.refl _ wr)))) (two_b wr (.int .i64 x)).2 hg1 (Nat.le_refl _) (Nat.le_refl _)); rw [Nat.zero_add, List.nil_append] at hown1; obtain ⟨A1, c1, rfl, _⟩ := own_cells hown1; have HO1 := lh hown1; clear hown1 hg1)
         | (refine step_append_own (by rfl) _ _ 57 (by rfl) wr.heap.size 3 iI _ 1 8 Tryz.underlying57 hI hI0 hI1 hI2 rfl (by decide) (.slice A1 k c1) k (ivs (xs.take k)) (by rfl) HO1.out ⟨wr.heap.size + 1, 0, none⟩ 1 1 [.int .i64 x] (by rfl) (by rfl) (one_at HC1.out) (by simp [Value.oneCell']) (by unfold maxLen; omega) (by omega) HB8.out.size ?_; intro v2 w2 hown2 hg2 _; have HB9 := lh (grow_below HB8.out HO1.out hg2 (Nat.le_refl _) (Nat.le_refl _)); obtain ⟨A2, c2, rfl, _⟩ := own_cells hown2; have HO2 := lh hown2; clear hown2 hg2)
         | (refine step_append_own (by rfl) _ _ 57 (by rfl) wr.heap.size 3 iI _ 1 8 Tryz.underlying57 hI hI0 hI1 hI2 rfl (by decide) (.slice A1 k c1) k (ivs (xs.take k)) (by rfl) HO1.out ⟨wr.heap.size, 0, none⟩ 1 1 [.int .i64 x] (by rfl) (by rfl) (one_at HC1.out) (by simp [Value.oneCell']) (by unfold maxLen; omega) (by omega) HB8.out.size ?_; intro v2 w2 hown2 hg2 _; have HB9 := lh (grow_below HB8.out HO1.out hg2 (Nat.le_refl _) (Nat.le_refl _)); obtain ⟨A2, c2, rfl, _⟩ := own_cells hown2; have HO2 := lh hown2; clear hown2 hg2)
         | (refine step_append_own (by rfl) _ _ 57 (by rfl) wr.heap.size 3 iI _ 1 8 Tryz.underlying57 hI hI0 hI1 hI2 rfl (by decide) (.slice A1 k c1) k (ivs (xs.take k)) (by rfl) (row_kept HO1.out (kept_below ((Below.refl _ _).alloc (Nat.le_refl _) _) (fun _ => True)) trivial) ⟨w1.heap.size, 0, none⟩ 1 1 [.int .i64 x] (by rfl) (by rfl) (row_new w1 #[x] 3) (by simp [Value.oneCell']) (by unfold maxLen; omega) (by omega) (Nat.le_trans HB8.out.size (by simp)) ?_; intro v2 w2 hown2 hg2 _; have HB9 := lh (grow_below (HB8.out.alloc HB8.out.size _) (row_kept HO1.out (kept_below ((Below.refl _ _).alloc (Nat.le_refl _) _) (fun _ => True)) trivial) hg2 (Nat.le_refl _) (Nat.le_refl _)); obtain ⟨A2, c2, rfl, _⟩ := own_cells hown2; have HO2 := lh hown2; clear hown2 hg2)
         | (refine step_append_src (by rfl) _ _ 57 (by rfl) wr.heap.size 3 iI _ 1 8 Tryz.underlying57 hI hI0 hI1 hI2 rfl (by decide) (.slice A2 (k + 1) c2) (k + 1) (ivs (xs.take k) ++ [.int .i64 x]) (by rfl) HO2.out (some ⟨g, k, none⟩) (n - k) (cap - k) (ivs (xs.drop k)) (by rfl) (HS2.out _ HB9.out) (by unfold maxLen; omega) (by omega) HB9.out.size ?_; intro v3 w3 hown3 hg3; have HB10 := lh (grow_below HB9.out HO2.out hg3 (Nat.le_refl _) (Nat.le_refl _)); have HO3 := lh hown3; clear hown3 hg3))
        all_goals
         have e := HFN.out HX3.out
         have hl : (addI xs x).length = k + 1 + (n - k) := by
          rw [e, List.length_append, List.length_cons, List.length_take, List.length_drop, HNN.out]
          omega
         have hi : ivs (addI xs x) = ivs (xs.take k) ++ [.int .i64 x] ++ ivs (xs.drop k) := by
          rw [e]
          simp [ivs]
         obtain ⟨g3, cap3, rfl, _, _⟩ := HO3.out.form (by omega)
         have HHL := lh hl
         have HHI := lh hi
         clear e hl hi
         go_wp2
         go_ret
         refine ⟨⟨.slice (some ⟨g3, 0, none⟩) (k + 1 + (n - k)) cap3, rfl, g3, cap3, by rw [HHL.out], ?_⟩, HB1.out.trans (HB10.out.mono HB1.out.size)⟩
         rw [HHL.out, HHI.out]
         exact HO3.out.mono (Nat.le_trans hb HB1.out.size)
      . obtain rfl : k = n := by omega
        clear hc
        have hkc : (k : Int) <= (cap : Int) := by omega
        have hkn : (k : Int) <= (k : Int) := by omega
        have hk0 : (0 : Int) <= (k : Int) := by omega
        go_upto_region 6 with (fail)
        go_region_held3 (fun w' => Below wr.heap.size wr w') ((repeat' (first | assumption | exact Below.refl _ _ | exact HB8.out | exact HB9.out | exact HB10.out | with_reducible apply below_drewS | with_reducible apply below_allocS))) (first
         | (refine step_append_src (by rfl) _ _ 57 (by rfl) wr.heap.size 3 iI _ 1 8 Tryz.underlying57 hI hI0 hI1 hI2 rfl (by decide) (.slice (some ⟨wr.heap.size, 0, none⟩) 0 0) 0 [] (by rfl) (lit_ownD 3 1 (Below.refl _ wr)) (some ⟨g, 0, none⟩) k cap (ivs (xs.take k)) (by rfl) (HS1.out _ (below_drewS (below_allocS (Below.refl _ wr)))) (by unfold maxLen; omega) (by omega) (below_drewS (below_allocS (Below.refl _ wr))).size ?_; intro v1 w1 hown1 hg1; have HB8 := lh (grow_below (below_drewS (below_allocS (Below.refl _ wr))) (lit_ownD 3 1 (Below.refl _ wr)) hg1 (Nat.le_refl _) (Nat.le_refl _)); rw [Nat.zero_add, List.nil_append] at hown1; obtain ⟨A1, c1, rfl, _⟩ := own_cells hown1; have HO1 := lh hown1; clear hown1 hg1)
         | (refine step_append_src (by rfl) _ _ 57 (by rfl) wr.heap.size 3 iI _ 1 8 Tryz.underlying57 hI hI0 hI1 hI2 rfl (by decide) (.slice (some ⟨wr.heap.size, 0, none⟩) 0 0) 0 [] (by rfl) (row_kept (lit_ownD 3 1 (Below.refl _ wr)) (kept_below ((Below.refl _ _).alloc (Nat.le_refl _) (.cells #[x] 3)) (fun _ => True)) trivial) (some ⟨g, 0, none⟩) k cap (ivs (xs.take k)) (by rfl) (HS1.out _ (below_allocS (below_drewS (below_allocS (Below.refl _ wr))))) (by unfold maxLen; omega) (by omega) (below_allocS (o := .cells #[x] 3) (below_drewS (below_allocS (o := .cells #[] 3) (Below.refl _ wr)))).size ?_; intro v1 w1 hown1 hg1; have HC1 := lh (hg1.cell (two_a wr (.int .i64 x)) (by simp [Value.ownBlock])); have HB8 := lh (grow_below (below_allocS (below_drewS (below_allocS (Below.refl _ wr)))) (row_kept (lit_ownD 3 1 (Below.refl _ wr)) (kept_below ((Below.refl _ _).alloc (Nat.le_refl _) (.cells #[x] 3)) (fun _ => True)) trivial) hg1 (Nat.le_refl _) (Nat.le_refl _)); rw [Nat.zero_add, List.nil_append] at hown1; obtain ⟨A1, c1, rfl, _⟩ := own_cells hown1; have HO1 := lh hown1; clear hown1 hg1)
         | (refine step_append_src (by rfl) _ _ 57 (by rfl) wr.heap.size 3 iI _ 1 8 Tryz.underlying57 hI hI0 hI1 hI2 rfl (by decide) (.slice (some ⟨wr.heap.size + 1, 0, none⟩) 0 0) 0 [] (by rfl) (two_b wr (.int .i64 x)).2 (some ⟨g, 0, none⟩) k cap (ivs (xs.take k)) (by rfl) (HS1.out _ (below_allocS (below_drewS (below_allocS (Below.refl _ wr))))) (by unfold maxLen; omega) (by omega) (below_allocS (o := .cells #[] 3) (below_drewS (below_allocS (o := .cells #[x] 3) (Below.refl _ wr)))).size ?_; intro v1 w1 hown1 hg1; have HC1 := lh (hg1.cell (two_b wr (.int .i64 x)).1 (by simp [Value.ownBlock])); have HB8 := lh (grow_below (below_allocS (below_drewS (below_allocS (Below.refl _ wr)))) (two_b wr (.int .i64 x)).2 hg1 (Nat.le_refl _) (Nat.le_refl _)); rw [Nat.zero_add, List.nil_append] at hown1; obtain ⟨A1, c1, rfl, _⟩ := own_cells hown1; have HO1 := lh hown1; clear hown1 hg1)
         | (refine step_append_own (by rfl) _ _ 57 (by rfl) wr.heap.size 3 iI _ 1 8 Tryz.underlying57 hI hI0 hI1 hI2 rfl (by decide) (.slice A1 k c1) k (ivs (xs.take k)) (by rfl) HO1.out ⟨wr.heap.size + 1, 0, none⟩ 1 1 [.int .i64 x] (by rfl) (by rfl) (one_at HC1.out) (by simp [Value.oneCell']) (by unfold maxLen; omega) (by omega) HB8.out.size ?_; intro v2 w2 hown2 hg2 _; have HB9 := lh (grow_below HB8.out HO1.out hg2 (Nat.le_refl _) (Nat.le_refl _)); obtain ⟨A2, c2, rfl, _⟩ := own_cells hown2; have HO2 := lh hown2; clear hown2 hg2)
         | (refine step_append_own (by rfl) _ _ 57 (by rfl) wr.heap.size 3 iI _ 1 8 Tryz.underlying57 hI hI0 hI1 hI2 rfl (by decide) (.slice A1 k c1) k (ivs (xs.take k)) (by rfl) HO1.out ⟨wr.heap.size, 0, none⟩ 1 1 [.int .i64 x] (by rfl) (by rfl) (one_at HC1.out) (by simp [Value.oneCell']) (by unfold maxLen; omega) (by omega) HB8.out.size ?_; intro v2 w2 hown2 hg2 _; have HB9 := lh (grow_below HB8.out HO1.out hg2 (Nat.le_refl _) (Nat.le_refl _)); obtain ⟨A2, c2, rfl, _⟩ := own_cells hown2; have HO2 := lh hown2; clear hown2 hg2)
         | (refine step_append_own (by rfl) _ _ 57 (by rfl) wr.heap.size 3 iI _ 1 8 Tryz.underlying57 hI hI0 hI1 hI2 rfl (by decide) (.slice A1 k c1) k (ivs (xs.take k)) (by rfl) (row_kept HO1.out (kept_below ((Below.refl _ _).alloc (Nat.le_refl _) _) (fun _ => True)) trivial) ⟨w1.heap.size, 0, none⟩ 1 1 [.int .i64 x] (by rfl) (by rfl) (row_new w1 #[x] 3) (by simp [Value.oneCell']) (by unfold maxLen; omega) (by omega) (Nat.le_trans HB8.out.size (by simp)) ?_; intro v2 w2 hown2 hg2 _; have HB9 := lh (grow_below (HB8.out.alloc HB8.out.size _) (row_kept HO1.out (kept_below ((Below.refl _ _).alloc (Nat.le_refl _) _) (fun _ => True)) trivial) hg2 (Nat.le_refl _) (Nat.le_refl _)); obtain ⟨A2, c2, rfl, _⟩ := own_cells hown2; have HO2 := lh hown2; clear hown2 hg2)
         | (refine step_append_src (by rfl) _ _ 57 (by rfl) wr.heap.size 3 iI _ 1 8 Tryz.underlying57 hI hI0 hI1 hI2 rfl (by decide) (.slice A2 (k + 1) c2) (k + 1) (ivs (xs.take k) ++ [.int .i64 x]) (by rfl) HO2.out _ 0 (cap - k) [] (by rfl) ⟨rfl, fun u hu => absurd hu (by simp), fun h => absurd h (by omega)⟩ (by unfold maxLen; omega) (by omega) HB9.out.size ?_; intro v3 w3 hown3 hg3; have HB10 := lh (grow_below HB9.out HO2.out hg3 (Nat.le_refl _) (Nat.le_refl _)); have HO3 := lh hown3; clear hown3 hg3))
        all_goals
         have e := HFN.out HX3.out
         have hl : (addI xs x).length = k + 1 + 0 := by
          rw [e, List.length_append, List.length_cons, List.length_take, List.length_drop, HNN.out]
          omega
         have hi : ivs (addI xs x) = ivs (xs.take k) ++ [.int .i64 x] ++ [] := by
          have hdr : xs.drop k = [] := List.drop_eq_nil_of_le (Nat.le_of_eq HNN.out)
          rw [e, hdr]
          simp [ivs]
         obtain ⟨g3, cap3, rfl, _, _⟩ := HO3.out.form (by omega)
         have HHL := lh hl
         have HHI := lh hi
         clear e hl hi
         go_wp2
         all_goals
          go_ret
          refine ⟨⟨.slice (some ⟨g3, 0, none⟩) (k + 1 + 0) cap3, rfl, g3, cap3, by rw [HHL.out], ?_⟩, HB1.out.trans (HB10.out.mono HB1.out.size)⟩
          rw [HHL.out, HHI.out]
          exact HO3.out.mono (Nat.le_trans hb HB1.out.size)
theorem addI_len (l : List Int) (x : Int) : (addI l x).length <= l.length + 1 := by
 unfold addI
 split
 . omega
 . have e : l.takeWhile (. < x) ++ l.dropWhile (. < x) = l := List.takeWhile_append_dropWhile
   have h := congrArg List.length e
   rw [List.length_append] at h
   rw [List.length_append, List.length_cons]
   omega
end Go.Proofs.YtkncilgmlkeifaaGreatDoor
