/-
  Package code: all over integers, with a method value as the test.
-/
import Derived.Test.YtkncilgmlkeifaaGreatDoorLim
set_option linter.unusedVariables false
set_option linter.unusedSimpArgs false
namespace Go.Proofs.YtkncilgmlkeifaaGreatDoor
open Go.ChangeShapes Go.WideShapes Go.ChangeAt Go.RowKit Go.Shelf

def RI (w : World) (B : Nat) (A : Option Addr) (n : Nat) (f : Nat → Int) : Prop :=
  0 < n → ∃ b off, A = some ⟨b, off, none⟩ ∧ b < B ∧ ∀ j, j < n → w.cell? ⟨b, off + j, none⟩ = some (.int .i64 (f j))
theorem RI.below {w w' : World} {B n : Nat} {A : Option Addr} {f : Nat → Int} (h : RI w B A n f) (hb : Below B w w') : RI w' B A n f := fun hn => by
  obtain ⟨b, off, e, hlt, hc⟩ := h hn
  exact ⟨b, off, e, hlt, fun j hj => (hb.cell (p := ⟨b, _, none⟩) hlt).trans (hc j hj)⟩
set_option maxRecDepth 100000 in
set_option maxHeartbeats 2000000 in
theorem allI_any (n c F : Nat) (rc : Value) (A : Option Addr) (f : Nat → Int) (t : Nat → Bool) (w : World) (hn : n ≤ 65536) (hr : RI w w.heap.size A n f) (hE : ∀ args w, (callFunc F args).run Tryz.prog w = .ok (.enter F args) w)
    (hF : ∀ j W, j < n → Below w.heap.size w W → Calls Tryz.prog F #[rc, .int .i64 (f j)] W fun e w' => e = .returned (.bool (t j)) ∧ Below W.heap.size W w') :
    Calls Tryz.prog 171 #[.slice A n c, .func (.func F) #[rc] #[]] w fun e w' => e = .returned (.bool ((List.range n).all t)) ∧ Below w.heap.size w w' := by
  have HR := Lib.hid hr
  have HF := Lib.hid hF
  have HT := Lib.hid (fun (h : ∀ j, j < n → t j = true) => show (List.range n).all t = true from List.all_eq_true.2 (fun j hj => h j (by simpa using hj)))
  have HN := Lib.hid (fun (k : Nat) (hk : k < n) (h : t k = false) => show (List.range n).all t = false from by rw [Bool.eq_false_iff, ne_eq, List.all_eq_true]; exact fun hh => by have := hh k (by simpa using hk); rw [h] at this; cases this)
  obtain ⟨res, hres⟩ : ∃ res, (List.range n).all t = res := ⟨_, rfl⟩
  rw [hres] at HT HN ⊢
  clear hr hF hres
  go_enter Tryz.func171, Tryz.ntmps171
  go_wp2
  go_loopw [6, 9] (fun x i wr => ∃ k : Nat, k ≤ n ∧ i = .int .i64 k ∧ Hid (∀ j, j < k → t j = true) ∧ Below w.heap.size w wr) (fun _ i _ => n - (intOf i).toNat)
  case atStart => exact ⟨0, Nat.zero_le _, rfl, Lib.hid (fun j hj => absurd hj (by omega)), Below.refl _ _⟩
  case round =>
    obtain ⟨k, hk, rfl, hall, hbel⟩ := hrel
    by_cases hlt : k < n
    · obtain ⟨b, off, rfl, hb, hc⟩ := (HR.out.below hbel) (by omega)
      have m0 := hc k hlt
      have hsz := hbel.size
      have HB := Lib.hid hbel
      have HFK := HF.out k wr hlt hbel
      clear hbel hc
      cases ht : t k
      · rw [ht] at HFK
        have HK := Lib.hid HFK
        have HX := Lib.hid (HN.out k hlt ht)
        clear HFK ht hall
        go_wp2_with ((with_reducible refine HK.out.mono ?_); rintro e w1 ⟨rfl, hb1⟩; have HB1 := Lib.hid hb1; clear hb1)
        go_ret
        exact ⟨ret_b HX.out.symm, HB.out.trans (HB1.out.mono hsz)⟩
      · rw [ht] at HFK
        have HK := Lib.hid HFK
        have HA : Hid (∀ j, j < k + 1 → t j = true) := Lib.hid (fun j hj => by
          by_cases e : j = k
          · subst e; exact ht
          · exact hall.out j (by omega))
        clear HFK ht hall
        go_wp2_with ((with_reducible refine HK.out.mono ?_); rintro e w1 ⟨rfl, hb1⟩; have HB1 := Lib.hid hb1; clear hb1)
        go_roundw
        case rel => exact ⟨k + 1, by omega, by go_num, HA, HB.out.trans (HB1.out.mono hsz)⟩
        case measure => simp [intOf]; omega
    · obtain rfl : k = n := by omega
      have HX := Lib.hid (HT.out hall.out)
      go_wp2
      go_ret
      exact ⟨ret_b HX.out.symm, hbel⟩
end Go.Proofs.YtkncilgmlkeifaaGreatDoor
