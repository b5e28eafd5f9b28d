import Derived.Test.YtkncilgmlkeifaaGreatDoorWre
import Derived.Test.YtkncilgmlkeifaaGreatDoorLnp
import Derived.Deep.RegionHeld3
import Derived.Deep.CutRange
/-
  CodeParses: the contract of edited.
-/
set_option linter.unusedVariables false
set_option linter.unusedSimpArgs false
namespace Go.Proofs.YtkncilgmlkeifaaGreatDoor
open Go.ChangeShapes Go.WideShapes Go.ChangeAt Go.RowKit Go.Shelf
set_option maxRecDepth 100000 in
set_option maxHeartbeats 8000000 in
theorem edited_any (s : ByteArray) (kd a t b : Int) (w : World) (hs : s.size <= 1000000) (hkd : 0 <= kd /\ kd <= 255) (ha : 0 <= a /\ a <= 65535) (ht : 0 <= t /\ t <= 65535) :
 Calls Tryz.prog 35 #[.string s, .agg #[.int .u8 kd, .int .u16 a, .int .u16 t, .int .u8 b]] w fun e w' => (∃ X : ByteArray, e = .returned (.string X) /\ X.size <= 2 * s.size + 1) /\ Below w.heap.size w w' := by
 have hb : ∀ o, Below w.heap.size w (w.alloc o) := fun o => bo _
 rcases Nat.eq_zero_or_pos s.size with h0 | h0
 . have hE : s = ⟨#[]⟩ := by
    apply ByteArray.ext
    exact Array.eq_empty_of_size_eq_zero h0
   subst hE
   go_enter Tryz.func35, Tryz.ntmps35
   go_wp2
   go_ret
   exact ⟨⟨⟨#[]⟩, rfl, by decide⟩, hb _⟩
 . have hne : s ≠ ⟨#[]⟩ := fun e => by rw [e] at h0; exact absurd h0 (by decide)
   have hbe := bs_ne' (l := []) hne
   obtain ⟨n, hn⟩ : ∃ n, s.size = n := ⟨_, rfl⟩
   have hn1 : (n : Int) ≠ 0 := by omega
   obtain ⟨i0, hi0⟩ : ∃ i, Int.tmod a n = i := ⟨_, rfl⟩
   obtain ⟨j0, hj0⟩ : ∃ i, Int.tmod t n = i := ⟨_, rfl⟩
   have hi1 : 0 <= i0 /\ i0 < n := by rw [<- hi0]; exact ⟨Int.tmod_nonneg _ ha.1, Int.tmod_lt_of_pos _ (by omega)⟩
   have hj1 : 0 <= j0 /\ j0 < n := by rw [<- hj0]; exact ⟨Int.tmod_nonneg _ ht.1, Int.tmod_lt_of_pos _ (by omega)⟩
   have HBX := lh (show ∀ W, Below (w.heap.size + 1) (w.alloc (.cells #[.int .u8 kd, .int .u16 a, .int .u16 t, .int .u8 b] 71)) W -> ∀ o, W.cell? ⟨w.heap.size, o, none⟩ = (#[.int .u8 kd, .int .u16 a, .int .u16 t, .int .u8 b] : Array Value)[o]? from fun W hW o => (hW.cell (p := ⟨w.heap.size, o, none⟩) (by simp)).trans (World.cell?_alloc_at _ _ _ _ rfl))
   go_enter Tryz.func35, Tryz.ntmps35
   go_upto_if 26 with fail
   obtain ⟨W0, hW0⟩ : ∃ W0, w.alloc (.cells #[.int .u8 kd, .int .u16 a, .int .u16 t, .int .u8 b] 71) = W0 := ⟨_, rfl⟩
   have hBW : Below w.heap.size w W0 := by rw [<- hW0]; exact hb _
   rw [hW0] at HBX ⊢
   have hsW : w.heap.size + 1 <= W0.heap.size := by rw [<- hW0]; simp
   have kc := HBX.out W0 (Below.refl _ _)
   have ka := fun (o : Obj) => HBX.out (W0.alloc o) ((Below.refl _ _).alloc hsW o)
   clear hW0
   obtain ⟨i1, rfl⟩ : ∃ i : Nat, i0 = i := ⟨i0.toNat, by omega⟩
   obtain ⟨j1, rfl⟩ : ∃ i : Nat, j0 = i := ⟨j0.toNat, by omega⟩
   go_cut [5, 6] (fun z5 z6 wx => ∃ i j : Nat, z5 = .int .i64 i /\ z6 = .int .i64 j /\ Hid (i <= j /\ j < n) /\ W0 = wx)
   case first =>
    by_cases hlt : (j1 : Int) < (i1 : Int)
    . go_wp2
      go_meet
      exact ⟨j1, i1, rfl, rfl, lh (by omega), rfl⟩
    . go_wp2
      go_meet
      exact ⟨i1, j1, rfl, rfl, lh (by omega), rfl⟩
   case rest =>
   obtain ⟨i, j, rfl, rfl, hij, rfl⟩ := hcut
   obtain ⟨hij1, hjn⟩ := hij.out
   have x0 : 0 <= (i : Int) := by omega
   have x1 : (i : Int) <= (n : Int) := by omega
   have x2 : 0 <= (j : Int) := by omega
   have x3 : (j : Int) <= (n : Int) := by omega
   obtain ⟨m, hm⟩ : ∃ m : Nat, i + 1 = m := ⟨_, rfl⟩
   have x4 : (m : Int) <= (n : Int) := by omega
   have x5 : 0 <= (m : Int) := by omega
   have x6 : IntKind.i64.wrap ((i : Int) + 1) = (m : Int) := by rw [show (i : Int) + 1 = (m : Int) by omega]; exact IntWalk.i64_in _ (by omega)
   have q1 : ¬ 9223372036854775807 < min i n + 1 := by omega
   have q2 : ¬ 9223372036854775807 < min i n + 1 + (n - i) := by omega
   have q3 : ¬ 9223372036854775807 < min i n + 1 + (n - m) := by omega
   have q4 : ¬ 9223372036854775807 < min i n + (n - m) := by omega
   have q5 : ¬ 9223372036854775807 < min i n + (n - j) := by omega
   have q6 : ¬ 9223372036854775807 < min j n + (n - i) := by omega
   clear hm
   clear hi0 hj0 hi1 hj1 hij
   obtain ⟨r, hr⟩ : ∃ r, Int.tmod kd 5 = r := ⟨_, rfl⟩
   have hBN := lh (show ∀ o, Below w.heap.size w (W0.alloc o) from fun o => hBW.alloc (by omega) o)
   go_upto_region 10 with (first | (rw [conv1]))
   obtain ⟨e, he⟩ : ∃ e : ByteArray, (⟨#[UInt8.ofNat b.toNat]⟩ : ByteArray) = e := ⟨_, rfl⟩
   have hes : e.size = 1 := by rw [<- he]; rfl
   rw [he]
   clear he
   have HBD := lh (show ∀ o, Below w.heap.size w (W0.alloc o).drew from fun o => ⟨(hBN.out o).os, (hBN.out o).tape, (hBN.out o).output, (hBN.out o).size, (hBN.out o).block⟩)
   by_cases r0 : r = 0
   . go_wp2
     go_region_held3 (fun _ => True) (trivial) (fail)
     go_wp2
     go_ret
     exact ⟨⟨_, rfl, by simp [ByteArray.size_append, ByteArray.size_extract]; omega⟩, HBD.out _⟩
   have e0 : (r == 0) = false := by simpa using r0
   by_cases r1 : r = 1
   . go_wp2
     go_region_held3 (fun _ => True) (trivial) (fail)
     go_wp2
     go_ret
     exact ⟨⟨_, rfl, by simp [ByteArray.size_append, ByteArray.size_extract]; omega⟩, HBD.out _⟩
   have e1 : (r == 1) = false := by simpa using r1
   by_cases r2 : r = 2
   . go_wp2
     go_region_held3 (fun _ => True) (trivial) (fail)
     go_wp2
     go_ret
     exact ⟨⟨_, rfl, by simp [ByteArray.size_append, ByteArray.size_extract]; omega⟩, HBD.out _⟩
   have e2 : (r == 2) = false := by simpa using r2
   by_cases r3 : r = 3
   . go_wp2
     go_region_held3 (fun _ => True) (trivial) (fail)
     go_wp2
     go_ret
     exact ⟨⟨_, rfl, by simp [ByteArray.size_append, ByteArray.size_extract]; omega⟩, HBD.out _⟩
   have e3 : (r == 3) = false := by simpa using r3
   go_wp2
   go_region_held3 (fun _ => True) (trivial) (fail)
   go_wp2
   go_ret
   exact ⟨⟨_, rfl, by simp [ByteArray.size_append, ByteArray.size_extract]; omega⟩, HBD.out _⟩
end Go.Proofs.YtkncilgmlkeifaaGreatDoor
