/-
  Package code: all over loops, instructions and blocks, with a method value as the test.
-/
import Derived.Test.YtkncilgmlkeifaaGreatDoorLim
set_option linter.unusedVariables false
set_option linter.unusedSimpArgs false
namespace Go.Proofs.YtkncilgmlkeifaaGreatDoor
open Go.ChangeShapes Go.WideShapes Go.ChangeAt Go.RowKit Go.Shelf

/-- A slice of them in memory. -/
def RLo (w : World) (B : Nat) (A : Option Addr) (n : Nat) (hd rg bd : Nat → Int) : Prop :=
  0 < n → ∃ b off, A = some ⟨b, off, none⟩ ∧ b < B ∧ ∀ j, j < n → w.cell? ⟨b, off + j * 3, none⟩ = some (.int .i64 (hd j)) ∧ w.cell? ⟨b, off + j * 3 + 1, none⟩ = some (.int .i64 (rg j)) ∧ w.cell? ⟨b, off + j * 3 + 2, none⟩ = some (.int .i64 (bd j))
theorem RLo.below {w w' : World} {B n : Nat} {A : Option Addr} {hd rg bd : Nat → Int} (h : RLo w B A n hd rg bd) (hb : Below B w w') : RLo w' B A n hd rg bd := fun hn => by
  obtain ⟨b, off, e, hlt, hc⟩ := h hn
  have k : ∀ o, w'.cell? ⟨b, o, none⟩ = w.cell? ⟨b, o, none⟩ := fun o => hb.cell (p := ⟨b, o, none⟩) hlt
  refine ⟨b, off, e, hlt, fun j hj => ?_⟩
  simp only [k]
  exact hc j hj
set_option maxRecDepth 100000 in
set_option maxHeartbeats 2000000 in
/-- all: F, its receiver rc bound, answers (t j) for the element j. -/
theorem allLo_any (n c F : Nat) (rc : Value) (A : Option Addr) (hd rg bd : Nat → Int) (t : Nat → Bool) (w : World) (hn : n ≤ 65536) (hr : RLo w w.heap.size A n hd rg bd) (hE : ∀ args w, (callFunc F args).run Tryz.prog w = .ok (.enter F args) w)
    (hF : ∀ j W, j < n → Below w.heap.size w W → Calls Tryz.prog F #[rc, .agg #[.int .i64 (hd j), .int .i64 (rg j), .int .i64 (bd j)]] W fun e w' => e = .returned (.bool (t j)) ∧ Below W.heap.size W w') :
    Calls Tryz.prog 97 #[.slice A n c, .func (.func F) #[rc] #[]] w fun e w' => e = .returned (.bool ((List.range n).all t)) ∧ Below w.heap.size w w' := by
  have HR := Lib.hid hr
  have HF := Lib.hid hF
  have HT := Lib.hid (fun (h : ∀ j, j < n → t j = true) => show (List.range n).all t = true from List.all_eq_true.2 (fun j hj => h j (by simpa using hj)))
  have HN := Lib.hid (fun (k : Nat) (hk : k < n) (h : t k = false) => show (List.range n).all t = false from by rw [Bool.eq_false_iff, ne_eq, List.all_eq_true]; exact fun hh => by have := hh k (by simpa using hk); rw [h] at this; cases this)
  obtain ⟨res, hres⟩ : ∃ res, (List.range n).all t = res := ⟨_, rfl⟩
  rw [hres] at HT HN ⊢
  clear hr hF hres
  go_enter Tryz.func97, Tryz.ntmps97
  go_wp2
  go_loopw [9] (fun i wr => ∃ k : Nat, k ≤ n ∧ i = .int .i64 k ∧ Hid (∀ j, j < k → t j = true) ∧ Below w.heap.size w wr) (fun i _ => n - (intOf i).toNat)
  case atStart => exact ⟨0, Nat.zero_le _, rfl, Lib.hid (fun j hj => absurd hj (by omega)), Below.refl _ _⟩
  case round =>
    obtain ⟨k, hk, rfl, hall, hbel⟩ := hrel
    by_cases hlt : k < n
    · obtain ⟨b, off, rfl, hb, hc⟩ := (HR.out.below hbel) (by omega)
      obtain ⟨m0, m1, m2⟩ := hc k hlt
      have hsz := hbel.size
      have HB := Lib.hid hbel
      have hal : ∀ o : Obj, Below w.heap.size w (wr.alloc o) := fun o => hbel.alloc hsz o
      have HFK := fun (o : Obj) => HF.out k (wr.alloc o) hlt (hal o)
      clear hbel hc hal
      cases ht : t k
      · rw [ht] at HFK
        have HK := Lib.hid HFK
        have HX := Lib.hid (HN.out k hlt ht)
        clear HFK ht hall
        go_wp2_with ((with_reducible refine (HK.out _).mono ?_); rintro e w1 ⟨rfl, hb1⟩; have HB1 := Lib.hid hb1; clear hb1)
        go_ret
        exact ⟨ret_b HX.out.symm, HB.out.trans (((Below.refl wr.heap.size wr).alloc (Nat.le_refl _) _).trans (HB1.out.mono (by simp))|>.mono hsz)⟩
      · rw [ht] at HFK
        have HK := Lib.hid HFK
        have HA : Hid (∀ j, j < k + 1 → t j = true) := Lib.hid (fun j hj => by
          by_cases e : j = k
          · subst e; exact ht
          · exact hall.out j (by omega))
        clear HFK ht hall
        go_wp2_with ((with_reducible refine (HK.out _).mono ?_); rintro e w1 ⟨rfl, hb1⟩; have HB1 := Lib.hid hb1; clear hb1)
        go_roundw
        case rel => exact ⟨k + 1, by omega, by go_num, HA, HB.out.trans (((Below.refl wr.heap.size wr).alloc (Nat.le_refl _) _).trans (HB1.out.mono (by simp))|>.mono hsz)⟩
        case measure => simp [intOf]; omega
    · obtain rfl : k = n := by omega
      have HX := Lib.hid (HT.out hall.out)
      go_wp2
      go_ret
      exact ⟨ret_b HX.out.symm, hbel⟩
/-- A slice of them in memory. -/
def RIn (w : World) (B : Nat) (A : Option Addr) (n : Nat) (I : Nat → InstV) : Prop :=
  0 < n → ∃ b off, A = some ⟨b, off, none⟩ ∧ b < B ∧ ∀ j, j < n → w.cell? ⟨b, off + j * 15, none⟩ = some (.int .i64 (I j).op) ∧ w.cell? ⟨b, off + j * 15 + 1, none⟩ = some (.int .i64 (I j).sub) ∧ w.cell? ⟨b, off + j * 15 + 2, none⟩ = some (.int .i64 (I j).n) ∧ w.cell? ⟨b, off + j * 15 + 3, none⟩ = some (.int .i64 (I j).d.k) ∧ w.cell? ⟨b, off + j * 15 + 4, none⟩ = some (.int .i64 (I j).d.n) ∧ w.cell? ⟨b, off + j * 15 + 5, none⟩ = some (.int .i32 (I j).d.v) ∧ w.cell? ⟨b, off + j * 15 + 6, none⟩ = some (.int .i64 (I j).a.k) ∧ w.cell? ⟨b, off + j * 15 + 7, none⟩ = some (.int .i64 (I j).a.n) ∧ w.cell? ⟨b, off + j * 15 + 8, none⟩ = some (.int .i32 (I j).a.v) ∧ w.cell? ⟨b, off + j * 15 + 9, none⟩ = some (.int .i64 (I j).b.k) ∧ w.cell? ⟨b, off + j * 15 + 10, none⟩ = some (.int .i64 (I j).b.n) ∧ w.cell? ⟨b, off + j * 15 + 11, none⟩ = some (.int .i32 (I j).b.v) ∧ w.cell? ⟨b, off + j * 15 + 12, none⟩ = some (.int .i64 (I j).c.k) ∧ w.cell? ⟨b, off + j * 15 + 13, none⟩ = some (.int .i64 (I j).c.n) ∧ w.cell? ⟨b, off + j * 15 + 14, none⟩ = some (.int .i32 (I j).c.v)
theorem RIn.below {w w' : World} {B n : Nat} {A : Option Addr} {I : Nat → InstV} (h : RIn w B A n I) (hb : Below B w w') : RIn w' B A n I := fun hn => by
  obtain ⟨b, off, e, hlt, hc⟩ := h hn
  have k : ∀ o, w'.cell? ⟨b, o, none⟩ = w.cell? ⟨b, o, none⟩ := fun o => hb.cell (p := ⟨b, o, none⟩) hlt
  refine ⟨b, off, e, hlt, fun j hj => ?_⟩
  simp only [k]
  exact hc j hj
set_option maxRecDepth 100000 in
set_option maxHeartbeats 2000000 in
/-- all: F, its receiver rc bound, answers (t j) for the element j. -/
theorem allIn_any (n c F : Nat) (rc : Value) (A : Option Addr) (I : Nat → InstV) (t : Nat → Bool) (w : World) (hn : n ≤ 65536) (hr : RIn w w.heap.size A n I) (hE : ∀ args w, (callFunc F args).run Tryz.prog w = .ok (.enter F args) w)
    (hF : ∀ j W, j < n → Below w.heap.size w W → Calls Tryz.prog F #[rc, .agg #[.int .i64 (I j).op, .int .i64 (I j).sub, .int .i64 (I j).n, .int .i64 (I j).d.k, .int .i64 (I j).d.n, .int .i32 (I j).d.v, .int .i64 (I j).a.k, .int .i64 (I j).a.n, .int .i32 (I j).a.v, .int .i64 (I j).b.k, .int .i64 (I j).b.n, .int .i32 (I j).b.v, .int .i64 (I j).c.k, .int .i64 (I j).c.n, .int .i32 (I j).c.v]] W fun e w' => e = .returned (.bool (t j)) ∧ Below W.heap.size W w') :
    Calls Tryz.prog 130 #[.slice A n c, .func (.func F) #[rc] #[]] w fun e w' => e = .returned (.bool ((List.range n).all t)) ∧ Below w.heap.size w w' := by
  have HR := Lib.hid hr
  have HF := Lib.hid hF
  have HT := Lib.hid (fun (h : ∀ j, j < n → t j = true) => show (List.range n).all t = true from List.all_eq_true.2 (fun j hj => h j (by simpa using hj)))
  have HN := Lib.hid (fun (k : Nat) (hk : k < n) (h : t k = false) => show (List.range n).all t = false from by rw [Bool.eq_false_iff, ne_eq, List.all_eq_true]; exact fun hh => by have := hh k (by simpa using hk); rw [h] at this; cases this)
  obtain ⟨res, hres⟩ : ∃ res, (List.range n).all t = res := ⟨_, rfl⟩
  rw [hres] at HT HN ⊢
  clear hr hF hres
  go_enter Tryz.func130, Tryz.ntmps130
  go_wp2
  go_loopw [9] (fun i wr => ∃ k : Nat, k ≤ n ∧ i = .int .i64 k ∧ Hid (∀ j, j < k → t j = true) ∧ Below w.heap.size w wr) (fun i _ => n - (intOf i).toNat)
  case atStart => exact ⟨0, Nat.zero_le _, rfl, Lib.hid (fun j hj => absurd hj (by omega)), Below.refl _ _⟩
  case round =>
    obtain ⟨k, hk, rfl, hall, hbel⟩ := hrel
    by_cases hlt : k < n
    · obtain ⟨b, off, rfl, hb, hc⟩ := (HR.out.below hbel) (by omega)
      obtain ⟨m0, m1, m2, m3, m4, m5, m6, m7, m8, m9, m10, m11, m12, m13, m14⟩ := hc k hlt
      have hsz := hbel.size
      have HB := Lib.hid hbel
      have hal : ∀ o : Obj, Below w.heap.size w (wr.alloc o) := fun o => hbel.alloc hsz o
      have HFK := fun (o : Obj) => HF.out k (wr.alloc o) hlt (hal o)
      clear hbel hc hal
      cases ht : t k
      · rw [ht] at HFK
        have HK := Lib.hid HFK
        have HX := Lib.hid (HN.out k hlt ht)
        clear HFK ht hall
        go_wp2_with ((with_reducible refine (HK.out _).mono ?_); rintro e w1 ⟨rfl, hb1⟩; have HB1 := Lib.hid hb1; clear hb1)
        go_ret
        exact ⟨ret_b HX.out.symm, HB.out.trans (((Below.refl wr.heap.size wr).alloc (Nat.le_refl _) _).trans (HB1.out.mono (by simp))|>.mono hsz)⟩
      · rw [ht] at HFK
        have HK := Lib.hid HFK
        have HA : Hid (∀ j, j < k + 1 → t j = true) := Lib.hid (fun j hj => by
          by_cases e : j = k
          · subst e; exact ht
          · exact hall.out j (by omega))
        clear HFK ht hall
        go_wp2_with ((with_reducible refine (HK.out _).mono ?_); rintro e w1 ⟨rfl, hb1⟩; have HB1 := Lib.hid hb1; clear hb1)
        go_roundw
        case rel => exact ⟨k + 1, by omega, by go_num, HA, HB.out.trans (((Below.refl wr.heap.size wr).alloc (Nat.le_refl _) _).trans (HB1.out.mono (by simp))|>.mono hsz)⟩
        case measure => simp [intOf]; omega
    · obtain rfl : k = n := by omega
      have HX := Lib.hid (HT.out hall.out)
      go_wp2
      go_ret
      exact ⟨ret_b HX.out.symm, hbel⟩
set_option maxRecDepth 100000 in
set_option maxHeartbeats 2000000 in
/-- all: F, its receiver rc bound, answers (t j) for the element j. -/
theorem allBl_any (n c F : Nat) (rc : Value) (A : Option Addr) (IA : Nat → Option Addr) (IL IC : Nat → Nat) (T : Nat → TermV) (t : Nat → Bool) (w : World) (hn : n ≤ 65536) (hr : RBl w w.heap.size A n IA IL IC T) (hE : ∀ args w, (callFunc F args).run Tryz.prog w = .ok (.enter F args) w)
    (hF : ∀ j W, j < n → Below w.heap.size w W → Calls Tryz.prog F #[rc, .agg #[.slice (IA j) (IL j) (IC j), .int .i64 (T j).kind, .int .i64 (T j).sub, .int .i64 (T j).d.k, .int .i64 (T j).d.n, .int .i32 (T j).d.v, .int .i64 (T j).a.k, .int .i64 (T j).a.n, .int .i32 (T j).a.v, .int .i64 (T j).b.k, .int .i64 (T j).b.n, .int .i32 (T j).b.v, .int .i64 (T j).t0, .int .i64 (T j).t1]] W fun e w' => e = .returned (.bool (t j)) ∧ Below W.heap.size W w') :
    Calls Tryz.prog 99 #[.slice A n c, .func (.func F) #[rc] #[]] w fun e w' => e = .returned (.bool ((List.range n).all t)) ∧ Below w.heap.size w w' := by
  have HR := Lib.hid hr
  have HF := Lib.hid hF
  have HT := Lib.hid (fun (h : ∀ j, j < n → t j = true) => show (List.range n).all t = true from List.all_eq_true.2 (fun j hj => h j (by simpa using hj)))
  have HN := Lib.hid (fun (k : Nat) (hk : k < n) (h : t k = false) => show (List.range n).all t = false from by rw [Bool.eq_false_iff, ne_eq, List.all_eq_true]; exact fun hh => by have := hh k (by simpa using hk); rw [h] at this; cases this)
  obtain ⟨res, hres⟩ : ∃ res, (List.range n).all t = res := ⟨_, rfl⟩
  rw [hres] at HT HN ⊢
  clear hr hF hres
  go_enter Tryz.func99, Tryz.ntmps99
  go_wp2
  go_loopw [9] (fun i wr => ∃ k : Nat, k ≤ n ∧ i = .int .i64 k ∧ Hid (∀ j, j < k → t j = true) ∧ Below w.heap.size w wr) (fun i _ => n - (intOf i).toNat)
  case atStart => exact ⟨0, Nat.zero_le _, rfl, Lib.hid (fun j hj => absurd hj (by omega)), Below.refl _ _⟩
  case round =>
    obtain ⟨k, hk, rfl, hall, hbel⟩ := hrel
    by_cases hlt : k < n
    · obtain ⟨b, off, rfl, hb, hc⟩ := (HR.out.below hbel) (by omega)
      obtain ⟨m0, m1, m2, m3, m4, m5, m6, m7, m8, m9, m10, m11, m12, m13⟩ := hc k hlt
      have hsz := hbel.size
      have HB := Lib.hid hbel
      have hal : ∀ o : Obj, Below w.heap.size w (wr.alloc o) := fun o => hbel.alloc hsz o
      have HFK := fun (o : Obj) => HF.out k (wr.alloc o) hlt (hal o)
      clear hbel hc hal
      cases ht : t k
      · rw [ht] at HFK
        have HK := Lib.hid HFK
        have HX := Lib.hid (HN.out k hlt ht)
        clear HFK ht hall
        go_wp2_with ((with_reducible refine (HK.out _).mono ?_); rintro e w1 ⟨rfl, hb1⟩; have HB1 := Lib.hid hb1; clear hb1)
        go_ret
        exact ⟨ret_b HX.out.symm, HB.out.trans (((Below.refl wr.heap.size wr).alloc (Nat.le_refl _) _).trans (HB1.out.mono (by simp))|>.mono hsz)⟩
      · rw [ht] at HFK
        have HK := Lib.hid HFK
        have HA : Hid (∀ j, j < k + 1 → t j = true) := Lib.hid (fun j hj => by
          by_cases e : j = k
          · subst e; exact ht
          · exact hall.out j (by omega))
        clear HFK ht hall
        go_wp2_with ((with_reducible refine (HK.out _).mono ?_); rintro e w1 ⟨rfl, hb1⟩; have HB1 := Lib.hid hb1; clear hb1)
        go_roundw
        case rel => exact ⟨k + 1, by omega, by go_num, HA, HB.out.trans (((Below.refl wr.heap.size wr).alloc (Nat.le_refl _) _).trans (HB1.out.mono (by simp))|>.mono hsz)⟩
        case measure => simp [intOf]; omega
    · obtain rfl : k = n := by omega
      have HX := Lib.hid (HT.out hall.out)
      go_wp2
      go_ret
      exact ⟨ret_b HX.out.symm, hbel⟩
end Go.Proofs.YtkncilgmlkeifaaGreatDoor
