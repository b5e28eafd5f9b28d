import Derived.Test.YtkncilgmlkeifaaGreatDoorBase
import Derived.RangeFuncCalls
import Derived.RangeFuncBound
import Derived.Shelf.Abstract
/-
  Package code: words for blocks in memory; the contract of limited.
-/
set_option linter.unusedVariables false
set_option linter.unusedSimpArgs false
set_option maxRecDepth 100000
set_option maxHeartbeats 4000000
namespace Go.Proofs.YtkncilgmlkeifaaGreatDoor
open Go.ChangeShapes Go.WideShapes Go.ChangeAt Go.RowKit Go.Shelf
structure OpdV where
 k : Int
 n : Int
 v : Int
structure TermV where
 kind : Int
 sub : Int
 d : OpdV
 a : OpdV
 b : OpdV
 t0 : Int
 t1 : Int
structure InstV where
 op : Int
 sub : Int
 n : Int
 d : OpdV
 a : OpdV
 b : OpdV
 c : OpdV
def RBl (w : World) (B : Nat) (A : Option Addr) (n : Nat) (IA : Nat -> Option Addr) (IL IC : Nat -> Nat) (T : Nat -> TermV) : Prop :=
 0 < n -> ∃ b off, A = some ⟨b, off, none⟩ /\ b < B /\ ∀ j, j < n -> w.cell? ⟨b, off + j * 14, none⟩ = some (.slice (IA j) (IL j) (IC j)) /\
  w.cell? ⟨b, off + j * 14 + 1, none⟩ = some (.int .i64 (T j).kind) /\ w.cell? ⟨b, off + j * 14 + 2, none⟩ = some (.int .i64 (T j).sub) /\
  w.cell? ⟨b, off + j * 14 + 3, none⟩ = some (.int .i64 (T j).d.k) /\ w.cell? ⟨b, off + j * 14 + 4, none⟩ = some (.int .i64 (T j).d.n) /\ w.cell? ⟨b, off + j * 14 + 5, none⟩ = some (.int .i32 (T j).d.v) /\
  w.cell? ⟨b, off + j * 14 + 6, none⟩ = some (.int .i64 (T j).a.k) /\ w.cell? ⟨b, off + j * 14 + 7, none⟩ = some (.int .i64 (T j).a.n) /\ w.cell? ⟨b, off + j * 14 + 8, none⟩ = some (.int .i32 (T j).a.v) /\
  w.cell? ⟨b, off + j * 14 + 9, none⟩ = some (.int .i64 (T j).b.k) /\ w.cell? ⟨b, off + j * 14 + 10, none⟩ = some (.int .i64 (T j).b.n) /\ w.cell? ⟨b, off + j * 14 + 11, none⟩ = some (.int .i32 (T j).b.v) /\
  w.cell? ⟨b, off + j * 14 + 12, none⟩ = some (.int .i64 (T j).t0) /\ w.cell? ⟨b, off + j * 14 + 13, none⟩ = some (.int .i64 (T j).t1)
theorem RBl.below {w w' : World} {B n : Nat} {A : Option Addr} {IA : Nat -> Option Addr} {IL IC : Nat -> Nat} {T : Nat -> TermV} (h : RBl w B A n IA IL IC T) (hb : Below B w w') : RBl w' B A n IA IL IC T := fun hn => by
 obtain ⟨b, off, e, hlt, hc⟩ := h hn
 have k : ∀ o, w'.cell? ⟨b, o, none⟩ = w.cell? ⟨b, o, none⟩ := fun o => hb.cell (p := ⟨b, o, none⟩) hlt
 refine ⟨b, off, e, hlt, fun j hj => ?_⟩
 simp only [k]
 exact hc j hj
def sumL (IL : Nat -> Nat) : Nat -> Nat
 | 0 => 0
 | k + 1 => sumL IL k + IL k
theorem sumL_le {IL : Nat -> Nat} {n : Nat} (h : ∀ j, j < n -> IL j <= 65536) : ∀ k, k <= n -> sumL IL k <= k * 65536
 | 0, _ => Nat.le_refl _
 | k + 1, hk => by
  have h1 := sumL_le h k (by omega)
  have h2 := h k (by omega)
  unfold sumL; omega
def limB (r sl p : Int) (n1 n2 n3 : Nat) (IL : Nat -> Nat) (nm : Nat -> ByteArray) : Bool :=
 decide (n1 <= 8) && (decide (n2 <= 400) && (decide (n3 <= 400) && (decide (r <= 256) && (decide (sl <= 256) && (decide (p <= 8) && (decide (sumL IL n3 <= 2000) && (List.range n1).all fun j => decide (((nm j).size : Int) <= 12)))))))
section
variable (g s r sl p : Int) (n1 c1 n2 c2 n3 c3 : Nat) (A1 A2 A3 : Option Addr) (nm : Nat -> ByteArray) (sp ty ln : Nat -> Int) (IA : Nat -> Option Addr) (IL IC : Nat -> Nat) (T : Nat -> TermV)
theorem limited_any (w : World) (h1 : RAr w w.heap.size A1 n1 nm sp ty ln) (h3 : RBl w w.heap.size A3 n3 IA IL IC T) (hI : ∀ j, j < n3 -> IL j <= 65536) (hc2 : n2 <= 9223372036854775807) (hc1 : n1 <= 9223372036854775807) (hc3 : n3 <= 9223372036854775807) :
 Calls Tryz.prog 54 #[.agg #[g, s, r, sl, p, .slice A1 n1 c1, .slice A2 n2 c2, .slice A3 n3 c3]] w fun e w' => e = .returned (.bool (limB r sl p n1 n2 n3 IL nm)) /\ Below w.heap.size w w' := by
 have hb : ∀ o, Below w.heap.size w (w.alloc o) := fun o => (Below.refl _ _).alloc (Nat.le_refl _) o
 have HB := lh hb
 clear hb
 unfold limB
 by_cases q1 : n1 <= 8
 . simp only [decide_eq_true q1, Bool.true_and]
   by_cases q2 : n2 <= 400
   . simp only [decide_eq_true q2, Bool.true_and]
     by_cases q3 : n3 <= 400
     . simp only [decide_eq_true q3, Bool.true_and]
       by_cases q4 : r <= 256
       . simp only [decide_eq_true q4, Bool.true_and]
         by_cases q5 : sl <= 256
         . simp only [decide_eq_true q5, Bool.true_and]
           by_cases q6 : p <= 8
           . simp only [decide_eq_true q6, Bool.true_and]
             have HA := lh (fun (W : World) (hW : Below w.heap.size w W) => allArr_any n1 c1 94 A1 nm sp ty ln (fun j => decide (((nm j).size : Int) <= 12)) W (by omega) (show RAr W W.heap.size A1 n1 nm sp ty ln from fun hn => by
              obtain ⟨b, off, e, hlt, hc⟩ := (h1.below (w' := W) hW) hn
              exact ⟨b, off, e, by have := hW.size; omega, hc⟩) (enters_of Tryz.func94 (by kernel_rfl) rfl) (fun j V _ => short_any (nm j) (sp j) (ty j) (ln j) V))
             have HS := lh (sumL_le hI)
             have H3 := lh h3
             have HI := lh hI
             obtain ⟨ab, hab⟩ : ∃ ab, ((List.range n1).all fun j => decide (((nm j).size : Int) <= 12)) = ab := ⟨_, rfl⟩
             rw [hab] at HA ⊢
             clear h1 h3 hI hab
             go_enter Tryz.func54, Tryz.ntmps54
             go_wp2
             go_loopw [3, 38] (fun t i wr => ∃ k : Nat, k <= n3 /\ i = .int .i64 k /\ t = .int .i64 (sumL IL k : Nat) /\ Below (w.heap.size + 1) (w.alloc (.cells #[g, s, r, sl, p, .slice A1 n1 c1, .slice A2 n2 c2, .slice A3 n3 c3] 36)) wr) (fun _ i _ => n3 - (intOf i).toNat)
             case atStart => exact ⟨0, Nat.zero_le _, rfl, rfl, Below.refl _ _⟩
             case round =>
              obtain ⟨k, hk, rfl, rfl, hbel⟩ := hrel
              have hs := HS.out k hk
              by_cases hlt : k < n3
              . obtain ⟨b, off, rfl, hb3, hc⟩ := (H3.out.below ((HB.out _).trans (hbel.mono (by omega)))) (by omega)
                obtain ⟨_, _, _, _, _, _, _, _, _, _, _, _, _, _⟩ := hc k hlt
                have hi := HI.out k hlt
                have hsz := hbel.size
                simp only [World.size_alloc] at hsz
                have hsl : sumL IL (k + 1) = sumL IL k + IL k := rfl
                have HL := lh hbel
                have HSL := lh hsl
                clear hbel hc hsl
                go_wp2
                go_roundw
                case rel => exact ⟨k + 1, by omega, by go_num, by rw [HSL.out]; go_num, HL.out.alloc (by omega) _⟩
                case measure => simp [intOf]; omega
              . obtain rfl : k = n3 := by omega
                obtain ⟨S, hS⟩ : ∃ S, sumL IL k = S := ⟨_, rfl⟩
                rw [hS] at hs ⊢
                have hbx := (HB.out (.cells #[g, s, r, sl, p, .slice A1 n1 c1, .slice A2 n2 c2, .slice A3 k c3] 36)).trans (hbel.mono (by omega))
                have hx5 : wr.cell? ⟨w.heap.size, 5, none⟩ = some (.slice A1 n1 c1) := (hbel.cell (p := ⟨w.heap.size, 5, none⟩) (by simp)).trans (by rw [World.cell?_alloc_at _ _ _ _ rfl]; rfl)
                have HL := lh hbx
                have HS2 := lh hS
                clear hbel hbx hS
                by_cases q7 : S <= 2000
                . have hq : (S : Int) <= 2000 := by omega
                  have e7 : Hid ((decide (sumL IL k <= 2000) && ab) = ab) := lh (by rw [HS2.out, decide_eq_true q7, Bool.true_and])
                  go_wp2_with (go_at_call 93; (with_reducible refine (HA.out _ HL.out).mono ?_); rintro e w1 ⟨rfl, hb1⟩; have HB1 := lh (HL.out.trans (hb1.mono HL.out.size)); clear hb1)
                  go_ret
                  exact ⟨ret_b e7.out.symm, HB1.out⟩
                . have hq : ¬ (S : Int) <= 2000 := by omega
                  have e7 : Hid ((decide (sumL IL k <= 2000) && ab) = false) := lh (by rw [HS2.out, decide_eq_false q7, Bool.false_and])
                  go_wp2
                  go_ret
                  exact ⟨ret_b e7.out.symm, HL.out⟩
           . simp only [decide_eq_false q6, Bool.false_and]
             go_enter Tryz.func54, Tryz.ntmps54
             go_wp2
             go_ret
             exact ⟨rfl, HB.out _⟩
         . simp only [decide_eq_false q5, Bool.false_and]
           go_enter Tryz.func54, Tryz.ntmps54
           go_wp2
           go_ret
           exact ⟨rfl, HB.out _⟩
       . simp only [decide_eq_false q4, Bool.false_and]
         go_enter Tryz.func54, Tryz.ntmps54
         go_wp2
         go_ret
         exact ⟨rfl, HB.out _⟩
     . simp only [decide_eq_false q3, Bool.false_and]
       go_enter Tryz.func54, Tryz.ntmps54
       go_wp2
       go_ret
       exact ⟨rfl, HB.out _⟩
   . simp only [decide_eq_false q2, Bool.false_and]
     go_enter Tryz.func54, Tryz.ntmps54
     go_wp2
     go_ret
     exact ⟨rfl, HB.out _⟩
 . simp only [decide_eq_false q1, Bool.false_and]
   go_enter Tryz.func54, Tryz.ntmps54
   go_wp2
   go_ret
   exact ⟨rfl, HB.out _⟩
end
structure FormV where
 word : Array UInt8
 subs : Int
 table : Int
 d : Bool
 a : Bool
 b : Bool
 c : Bool
 targets : Int
def FormV.val (f : FormV) : Value := .agg #[.string ⟨f.word⟩, .int .u32 f.subs, f.table, .bool f.d, .bool f.a, .bool f.b, .bool f.c, f.targets]
def noForm : FormV := ⟨#[], 0, 0, false, false, false, false, 0⟩
def instF (op : Int) : FormV :=
 if op = 1 then ⟨#[109, 111, 118], 0, 0, true, true, false, false, 0⟩ else if op = 2 then ⟨#[117, 110], 62, 0, true, true, false, false, 0⟩ else if op = 3 then ⟨#[98, 105, 110], 1073740800, 0, true, true, true, false, 0⟩
 else if op = 4 then ⟨#[115, 101, 108], 0, 0, true, true, true, true, 0⟩ else if op = 5 then ⟨#[105, 100], 254, 0, true, false, false, false, 0⟩ else if op = 6 then ⟨#[112, 97, 114, 97, 109], 0, 1, true, false, false, false, 0⟩
 else if op = 7 then ⟨#[108, 111, 97, 100], 0, 2, true, true, false, false, 0⟩ else if op = 8 then ⟨#[115, 116, 111, 114, 101], 0, 2, false, true, true, false, 0⟩ else if op = 9 then ⟨#[97, 116, 111, 109], 13501440, 3, false, true, true, false, 0⟩
 else if op = 10 then ⟨#[102, 101, 110, 99, 101], 6, 0, false, false, false, false, 0⟩ else if op = 11 then ⟨#[103, 101, 116], 0, 4, true, false, false, false, 0⟩ else if op = 12 then ⟨#[112, 117, 116], 0, 4, false, true, false, false, 0⟩ else noForm
def endF (k : Int) : FormV :=
 if k = 1 then ⟨#[106, 117, 109, 112], 0, 0, false, false, false, false, 1⟩ else if k = 2 then ⟨#[98, 114, 97, 110, 99, 104], 0, 0, false, true, false, false, 2⟩ else if k = 3 then ⟨#[98, 97, 114, 114, 105, 101, 114], 0, 0, false, false, false, false, 1⟩
 else if k = 4 then ⟨#[99, 111, 108, 108, 101, 99, 116], 126, 0, true, true, true, false, 1⟩ else if k = 5 then ⟨#[101, 120, 105, 116], 0, 0, false, false, false, false, 0⟩ else noForm
theorem span_k (lo hi v : Int) (w : World) (h : (lo = 1 /\ hi = 5 /\ v = 62) \/ (lo = 10 /\ hi = 29 /\ v = 1073740800) \/ (lo = 1 /\ hi = 7 /\ v = 254) \/ (lo = 1 /\ hi = 2 /\ v = 6) \/ (lo = 1 /\ hi = 6 /\ v = 126)) :
 Calls Tryz.prog 101 #[lo, hi] w fun e w' => e = .returned (.int .u32 v) /\ ∃ d, w' = w.drewN d := by
 rcases h with ⟨rfl, rfl, rfl⟩ | ⟨rfl, rfl, rfl⟩ | ⟨rfl, rfl, rfl⟩ | ⟨rfl, rfl, rfl⟩ | ⟨rfl, rfl, rfl⟩
 all_goals
  go_enter Tryz.func101, Tryz.ntmps101
  go_wp2
  go_quiet (fail)
  go_wp2
  go_ret
  exact ⟨rfl, _, rfl⟩
theorem below_drewN {B : Nat} {a w : World} (h : Below B a w) (n : Nat) : Below B a (w.drewN n) := ⟨h.os, h.tape, h.output, h.size, h.block⟩
theorem span_b (lo hi v : Int) (w : World) (h : (lo = 1 /\ hi = 5 /\ v = 62) \/ (lo = 10 /\ hi = 29 /\ v = 1073740800) \/ (lo = 1 /\ hi = 7 /\ v = 254) \/ (lo = 1 /\ hi = 2 /\ v = 6) \/ (lo = 1 /\ hi = 6 /\ v = 126)) :
 Calls Tryz.prog 101 #[lo, hi] w fun e w' => e = .returned (.int .u32 v) /\ Below w.heap.size w w' :=
 (span_k lo hi v w h).mono fun e w' ⟨he, d, hd⟩ => ⟨he, by rw [hd]; exact below_drewN (Below.refl _ _) d⟩
theorem instForm_any (op : Int) (w : World) : Calls Tryz.prog 87 #[op] w fun e w' => e = .returned (instF op).val /\ Below w.heap.size w w' := by
 have HS := lh (fun (lo hi v : Int) (W : World) h => span_b lo hi v W h)
 have hop : op = 1 \/ op = 2 \/ op = 3 \/ op = 4 \/ op = 5 \/ op = 6 \/ op = 7 \/ op = 8 \/ op = 9 \/ op = 10 \/ op = 11 \/ op = 12 \/ (op < 1 \/ 12 < op) := by omega
 rcases hop with rfl | rfl | rfl | rfl | rfl | rfl | rfl | rfl | rfl | rfl | rfl | rfl | h
 . go_enter Tryz.func87, Tryz.ntmps87
   go_wp2
   exact bodyPost_ret (v := (instF 1).val) (by simp [results, Tryz.results87, go_sem, FormV.val, instF]) rfl ⟨rfl, (Below.refl _ _).alloc (Nat.le_refl _) _⟩
 . have H1 := lh (fun W => HS.out 1 5 62 W (by decide))
   go_enter Tryz.func87, Tryz.ntmps87
   go_wp2_with (go_at_call 101; (with_reducible refine (H1.out _).mono ?_); rintro e w1 ⟨rfl, hb⟩; obtain ⟨hc, hf⟩ := bcell hb; have hz : w.heap.size < w1.heap.size := (by have := hb.size; simp at this; omega); have HB := lh hb; clear hb)
   exact bodyPost_ret (v := (instF 2).val) (by simp [results, Tryz.results87, go_sem, FormV.val, instF, hc]) rfl ⟨rfl, ((((((((((Below.refl _ _).alloc (Nat.le_refl _) _).trans (HB.out.mono (by simp))).setCell (by simp) _).setCell (by simp) _).setCell (by simp) _).setCell (by simp) _).setCell (by simp) _).setCell (by simp) _).setCell (by simp) _).setCell (by simp) _⟩
 . have H1 := lh (fun W => HS.out 10 29 1073740800 W (by decide))
   go_enter Tryz.func87, Tryz.ntmps87
   go_wp2_with (go_at_call 101; (with_reducible refine (H1.out _).mono ?_); rintro e w1 ⟨rfl, hb⟩; obtain ⟨hc, hf⟩ := bcell hb; have hz : w.heap.size < w1.heap.size := (by have := hb.size; simp at this; omega); have HB := lh hb; clear hb)
   exact bodyPost_ret (v := (instF 3).val) (by simp [results, Tryz.results87, go_sem, FormV.val, instF, hc]) rfl ⟨rfl, ((((((((((Below.refl _ _).alloc (Nat.le_refl _) _).trans (HB.out.mono (by simp))).setCell (by simp) _).setCell (by simp) _).setCell (by simp) _).setCell (by simp) _).setCell (by simp) _).setCell (by simp) _).setCell (by simp) _).setCell (by simp) _⟩
 . go_enter Tryz.func87, Tryz.ntmps87
   go_wp2
   exact bodyPost_ret (v := (instF 4).val) (by simp [results, Tryz.results87, go_sem, FormV.val, instF]) rfl ⟨rfl, (Below.refl _ _).alloc (Nat.le_refl _) _⟩
 . have H1 := lh (fun W => HS.out 1 7 254 W (by decide))
   go_enter Tryz.func87, Tryz.ntmps87
   go_wp2_with (go_at_call 101; (with_reducible refine (H1.out _).mono ?_); rintro e w1 ⟨rfl, hb⟩; obtain ⟨hc, hf⟩ := bcell hb; have hz : w.heap.size < w1.heap.size := (by have := hb.size; simp at this; omega); have HB := lh hb; clear hb)
   exact bodyPost_ret (v := (instF 5).val) (by simp [results, Tryz.results87, go_sem, FormV.val, instF, hc]) rfl ⟨rfl, ((((((((((Below.refl _ _).alloc (Nat.le_refl _) _).trans (HB.out.mono (by simp))).setCell (by simp) _).setCell (by simp) _).setCell (by simp) _).setCell (by simp) _).setCell (by simp) _).setCell (by simp) _).setCell (by simp) _).setCell (by simp) _⟩
 . go_enter Tryz.func87, Tryz.ntmps87
   go_wp2
   exact bodyPost_ret (v := (instF 6).val) (by simp [results, Tryz.results87, go_sem, FormV.val, instF]) rfl ⟨rfl, (Below.refl _ _).alloc (Nat.le_refl _) _⟩
 . go_enter Tryz.func87, Tryz.ntmps87
   go_wp2
   exact bodyPost_ret (v := (instF 7).val) (by simp [results, Tryz.results87, go_sem, FormV.val, instF]) rfl ⟨rfl, (Below.refl _ _).alloc (Nat.le_refl _) _⟩
 . go_enter Tryz.func87, Tryz.ntmps87
   go_wp2
   exact bodyPost_ret (v := (instF 8).val) (by simp [results, Tryz.results87, go_sem, FormV.val, instF]) rfl ⟨rfl, (Below.refl _ _).alloc (Nat.le_refl _) _⟩
 . go_enter Tryz.func87, Tryz.ntmps87
   go_wp2
   exact bodyPost_ret (v := (instF 9).val) (by simp [results, Tryz.results87, go_sem, FormV.val, instF]) rfl ⟨rfl, (Below.refl _ _).alloc (Nat.le_refl _) _⟩
 . have H1 := lh (fun W => HS.out 1 2 6 W (by decide))
   go_enter Tryz.func87, Tryz.ntmps87
   go_wp2_with (go_at_call 101; (with_reducible refine (H1.out _).mono ?_); rintro e w1 ⟨rfl, hb⟩; obtain ⟨hc, hf⟩ := bcell hb; have hz : w.heap.size < w1.heap.size := (by have := hb.size; simp at this; omega); have HB := lh hb; clear hb)
   exact bodyPost_ret (v := (instF 10).val) (by simp [results, Tryz.results87, go_sem, FormV.val, instF, hc]) rfl ⟨rfl, ((((((((((Below.refl _ _).alloc (Nat.le_refl _) _).trans (HB.out.mono (by simp))).setCell (by simp) _).setCell (by simp) _).setCell (by simp) _).setCell (by simp) _).setCell (by simp) _).setCell (by simp) _).setCell (by simp) _).setCell (by simp) _⟩
 . go_enter Tryz.func87, Tryz.ntmps87
   go_wp2
   exact bodyPost_ret (v := (instF 11).val) (by simp [results, Tryz.results87, go_sem, FormV.val, instF]) rfl ⟨rfl, (Below.refl _ _).alloc (Nat.le_refl _) _⟩
 . go_enter Tryz.func87, Tryz.ntmps87
   go_wp2
   exact bodyPost_ret (v := (instF 12).val) (by simp [results, Tryz.results87, go_sem, FormV.val, instF]) rfl ⟨rfl, (Below.refl _ _).alloc (Nat.le_refl _) _⟩
 . have h0 : instF op = noForm := by unfold instF; rw [if_neg (by omega), if_neg (by omega), if_neg (by omega), if_neg (by omega), if_neg (by omega), if_neg (by omega), if_neg (by omega), if_neg (by omega), if_neg (by omega), if_neg (by omega), if_neg (by omega), if_neg (by omega)]
   rw [h0]
   rcases h with h | h
   all_goals
    go_enter Tryz.func87, Tryz.ntmps87
    go_wp2
    exact bodyPost_ret (v := noForm.val) (by simp [results, Tryz.results87, go_sem, FormV.val, noForm]) rfl ⟨rfl, (Below.refl _ _).alloc (Nat.le_refl _) _⟩
theorem endForm_any (op : Int) (w : World) : Calls Tryz.prog 58 #[op] w fun e w' => e = .returned (endF op).val /\ Below w.heap.size w w' := by
 have HS := lh (fun (lo hi v : Int) (W : World) h => span_b lo hi v W h)
 have hop : op = 1 \/ op = 2 \/ op = 3 \/ op = 4 \/ op = 5 \/ (op < 1 \/ 5 < op) := by omega
 rcases hop with rfl | rfl | rfl | rfl | rfl | h
 . go_enter Tryz.func58, Tryz.ntmps58
   go_wp2
   exact bodyPost_ret (v := (endF 1).val) (by simp [results, Tryz.results58, go_sem, FormV.val, endF]) rfl ⟨rfl, (Below.refl _ _).alloc (Nat.le_refl _) _⟩
 . go_enter Tryz.func58, Tryz.ntmps58
   go_wp2
   exact bodyPost_ret (v := (endF 2).val) (by simp [results, Tryz.results58, go_sem, FormV.val, endF]) rfl ⟨rfl, (Below.refl _ _).alloc (Nat.le_refl _) _⟩
 . go_enter Tryz.func58, Tryz.ntmps58
   go_wp2
   exact bodyPost_ret (v := (endF 3).val) (by simp [results, Tryz.results58, go_sem, FormV.val, endF]) rfl ⟨rfl, (Below.refl _ _).alloc (Nat.le_refl _) _⟩
 . have H1 := lh (fun W => HS.out 1 6 126 W (by decide))
   go_enter Tryz.func58, Tryz.ntmps58
   go_wp2_with (go_at_call 101; (with_reducible refine (H1.out _).mono ?_); rintro e w1 ⟨rfl, hb⟩; obtain ⟨hc, hf⟩ := bcell hb; have hz : w.heap.size < w1.heap.size := (by have := hb.size; simp at this; omega); have HB := lh hb; clear hb)
   exact bodyPost_ret (v := (endF 4).val) (by simp [results, Tryz.results58, go_sem, FormV.val, endF, hc]) rfl ⟨rfl, ((((((((((Below.refl _ _).alloc (Nat.le_refl _) _).trans (HB.out.mono (by simp))).setCell (by simp) _).setCell (by simp) _).setCell (by simp) _).setCell (by simp) _).setCell (by simp) _).setCell (by simp) _).setCell (by simp) _).setCell (by simp) _⟩
 . go_enter Tryz.func58, Tryz.ntmps58
   go_wp2
   exact bodyPost_ret (v := (endF 5).val) (by simp [results, Tryz.results58, go_sem, FormV.val, endF]) rfl ⟨rfl, (Below.refl _ _).alloc (Nat.le_refl _) _⟩
 . have h0 : endF op = noForm := by unfold endF; rw [if_neg (by omega), if_neg (by omega), if_neg (by omega), if_neg (by omega), if_neg (by omega)]
   rw [h0]
   rcases h with h | h
   all_goals
    go_enter Tryz.func58, Tryz.ntmps58
    go_wp2
    exact bodyPost_ret (v := noForm.val) (by simp [results, Tryz.results58, go_sem, FormV.val, noForm]) rfl ⟨rfl, (Below.refl _ _).alloc (Nat.le_refl _) _⟩
end Go.Proofs.YtkncilgmlkeifaaGreatDoor
