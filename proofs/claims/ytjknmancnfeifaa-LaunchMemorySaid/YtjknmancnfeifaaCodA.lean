/-
  The contract of the reference's Code.
-/
import Derived.Test.YtjknmancnfeifaaCodR
set_option linter.unusedVariables false
set_option linter.unusedSimpArgs false
namespace Go.Proofs.Ytjknmancnfeifaa
open Go.ChangeShapes Go.WideShapes Go.ChangeAt Go.RowKit
attribute [local go_sem ↓] Go.wp_at_zero Go.wp_at_succ

/-- What the first statement leaves, and the second. -/
def CodB (w : World) (a c d : Int) (nx cx : Nat) (AX : Option Addr) (g s : Int) (b3 : Value) (wx : World) : Prop :=
  ∃ B : Nat, b3 = .pointer (some ⟨B, 0, none⟩) ∧ w.heap.size + 2 ≤ B ∧ Cd wx B g s (d % 4) (.slice none 0 0) ∧ Cd wx (w.heap.size + 1) 0 0 0 (.slice none 0 0) ∧ Shp wx w.heap.size a c d (.slice AX nx cx) ∧ Below w.heap.size w wx
theorem codB1 {w W : World} {a c d s : Int} {nx cx : Nat} {AX : Option Addr} (hZ : W.heap.size = w.heap.size + 2) (hS : Shp W w.heap.size a c d (.slice AX nx cx)) (hC : Cd W (w.heap.size + 1) 0 0 0 (.slice none 0 0)) (hB : Below w.heap.size w W) (o : Obj) :
    CodB w a c d nx cx AX 0 s (.pointer (some ⟨w.heap.size + 2 + 1, 0, none⟩)) (((W.alloc o).alloc (.cells #[.int .i64 0, .int .i64 s, .int .i64 0, .int .i64 0, .int .i64 (d % 4), .slice none 0 0, .slice none 0 0, .slice none 0 0] 34)).drew) := by
  have hb : Below W.heap.size W (((W.alloc o).alloc (.cells #[.int .i64 0, .int .i64 s, .int .i64 0, .int .i64 0, .int .i64 (d % 4), .slice none 0 0, .slice none 0 0, .slice none 0 0] 34)).drew) := (((Below.refl _ _).alloc (Nat.le_refl _) _).alloc (by simp) _).drew
  refine ⟨_, rfl, by omega, ?_, hC.on hb, hS.of_block (hb.block _ hS.lt), hB.trans (hb.mono (by omega))⟩
  have := heap_alloc_new (W.alloc o) (.cells #[.int .i64 0, .int .i64 s, .int .i64 0, .int .i64 0, .int .i64 (d % 4), .slice none 0 0, .slice none 0 0, .slice none 0 0] 34)
  rw [World.size_alloc, hZ] at this
  exact this
theorem codB2 {w W : World} {a c d s : Int} {nx cx : Nat} {AX : Option Addr} (hZ : W.heap.size = w.heap.size + 2) (hS : Shp W w.heap.size a c d (.slice AX nx cx)) (hC : Cd W (w.heap.size + 1) 0 0 0 (.slice none 0 0)) (hB : Below w.heap.size w W) (o : Obj) :
    CodB w a c d nx cx AX 0 s (.pointer (some ⟨w.heap.size + 2, 0, none⟩)) (((W.alloc (.cells #[.int .i64 0, .int .i64 s, .int .i64 0, .int .i64 0, .int .i64 (d % 4), .slice none 0 0, .slice none 0 0, .slice none 0 0] 34)).alloc o).drew) := by
  have hb : Below W.heap.size W (((W.alloc (.cells #[.int .i64 0, .int .i64 s, .int .i64 0, .int .i64 0, .int .i64 (d % 4), .slice none 0 0, .slice none 0 0, .slice none 0 0] 34)).alloc o).drew) := (((Below.refl _ _).alloc (Nat.le_refl _) _).alloc (by simp) _).drew
  refine ⟨_, rfl, by omega, ?_, hC.on hb, hS.of_block (hb.block _ hS.lt), hB.trans (hb.mono (by omega))⟩
  have h1 := heap_alloc_new W (.cells #[.int .i64 0, .int .i64 s, .int .i64 0, .int .i64 0, .int .i64 (d % 4), .slice none 0 0, .slice none 0 0, .slice none 0 0] 34)
  rw [hZ] at h1
  exact (Below.heap_alloc _ o _ (by simp; omega)).trans h1

theorem Cd.step {w w1 : World} {b : Nat} {g s p : Int} {v : Value} {o : Obj} {row : Option Nat} (h : Cd w b g s p v) (hg : (w.alloc o).drew.grownBy w1 row) (hr : some b ≠ row) : Cd w1 b g s p v :=
  Cd.kept (w := (w.alloc o).drew) ((Below.heap_alloc w o b h.lt).trans h) hg hr
theorem Shp.step {w w1 : World} {b : Nat} {a c d : Int} {v : Value} {o : Obj} {row : Option Nat} (h : Shp w b a c d v) (hg : (w.alloc o).drew.grownBy w1 row) (hr : some b ≠ row) : Shp w1 b a c d v :=
  (hg.block b (by have := h.lt; show b < (w.alloc o).heap.size; simp; omega) hr).trans ((Below.heap_alloc w o b h.lt).trans h)
theorem CA.later {sp ln : Nat → Int} {k : Nat} {cells : List Value} {w W : World} {base : Nat} {A : Option Addr} {c : Nat} (h : CA sp ln k cells) (hr : w.ownsRow base 79 4 (.slice A k c) k cells) (hk : ∀ g, (Value.slice A k c).ownBlock = some g → W.heap[g]? = w.heap[g]?) (hs : w.heap.size ≤ W.heap.size) : RA W W.heap.size A k sp ln := by
  obtain ⟨A', c', e, hra, hg⟩ := h.reads hr
  simp only [Value.slice.injEq, true_and] at e
  obtain ⟨rfl, rfl⟩ := e
  intro h0
  obtain ⟨b, off, rfl, hb, hc⟩ := hra h0
  have hkb := hk b rfl
  refine ⟨b, off, rfl, by omega, fun j hj => ?_⟩
  obtain ⟨nm, ty, h1, h2, h3, h4⟩ := hc j hj
  exact ⟨nm, ty, (World.cell?_of_block (a := ⟨b, _, none⟩) hkb).trans h1, (World.cell?_of_block (a := ⟨b, _, none⟩) hkb).trans h2, (World.cell?_of_block (a := ⟨b, _, none⟩) hkb).trans h3, (World.cell?_of_block (a := ⟨b, _, none⟩) hkb).trans h4⟩
theorem set8 {w : World} {b g : Nat} (h : g ≠ b) (v0 v1 v2 v3 v4 v5 v6 v7 : Value) : ((((((((w.setCell ⟨b, 0, none⟩ v0).setCell ⟨b, 1, none⟩ v1).setCell ⟨b, 2, none⟩ v2).setCell ⟨b, 3, none⟩ v3).setCell ⟨b, 4, none⟩ v4).setCell ⟨b, 5, none⟩ v5).setCell ⟨b, 6, none⟩ v6).setCell ⟨b, 7, none⟩ v7).heap[g]? = w.heap[g]? := by
  rw [Below.heap_setCell _ _ _ g h, Below.heap_setCell _ _ _ g h, Below.heap_setCell _ _ _ g h, Below.heap_setCell _ _ _ g h, Below.heap_setCell _ _ _ g h, Below.heap_setCell _ _ _ g h, Below.heap_setCell _ _ _ g h, Below.heap_setCell _ _ _ g h]
theorem slice_nm (k : Nat) (h : k < 8) : ∃ nm : ByteArray, nm.size ≤ 8 ∧ ∀ W : World, (Instr.slice 9 (Value.string { data := #[48, 49, 50, 51, 52, 53, 54, 55] }) (some (Value.int IntKind.i64 ↑k)) (some (Value.int IntKind.i64 (↑k + 1))) none).run Try.prog W = .ok (.string nm) W :=
  ⟨_, by
    rw [ByteArray.size_extract]
    have : (ByteArray.mk #[48, 49, 50, 51, 52, 53, 54, 55]).size = 8 := rfl
    omega, fun W => run_slice_string W 9 ⟨#[48, 49, 50, 51, 52, 53, 54, 55]⟩ .i64 .i64 k (k + 1) Try.underlying9 (by omega) (by omega) (by show (k : Int) + 1 ≤ 8; omega)⟩
set_option maxRecDepth 100000 in
set_option maxHeartbeats 4000000 in
theorem Code_any (a c d : Int) (nx cx : Nat) (AX : Option Addr) (x : Nat → Int) (w : World) (a0 : 0 ≤ a) (a1 : a ≤ 255) (c0 : 0 ≤ c) (c1 : c ≤ 255) (d0 : 0 ≤ d) (d1 : d ≤ 255) (hx0 : ∀ j, 0 ≤ x j ∧ x j ≤ 255)
    (hr : RF w w.heap.size .u8 AX nx x) :
    Calls Try.prog 10 #[.agg #[.int .u8 a, .int .u8 c, .int .u8 d, .slice AX nx cx]] w fun e w' => ∃ A cc, e = .returned (.agg #[.int .i64 (grpV a c), .int .i64 (subV a), .int .i64 0, .int .i64 0, .int .i64 (d % 4), .slice A (min nx 8) cc, .slice none 0 0, .slice none 0 0]) ∧
      RA w' w'.heap.size A (min nx 8) (fun j => 1 + x j % 3) (fun j => x j / 16) ∧ Below w.heap.size w w' := by
  have HRF := Lib.hid hr
  have HX := Lib.hid hx0
  clear hr hx0
  have hs := subV_cases a a0
  obtain ⟨s, hse⟩ : ∃ s, subV a = s := ⟨_, rfl⟩
  rw [hse] at hs ⊢
  obtain ⟨g, hge⟩ : ∃ g, grpV a c = g := ⟨_, rfl⟩
  have hg2 : s * (1 + c % max 1 (64 / s)) = g := by rw [← hge, ← hse]; rfl
  rw [hge]
  have HG := Lib.hid hg2
  have HS := Lib.hid hs
  clear hg2 hge hs hse
  obtain ⟨N, hN⟩ : ∃ N, min nx 8 = N := ⟨_, rfl⟩
  have hN8 : N ≤ 8 := by omega
  have hNx : N ≤ nx := by omega
  rw [hN]
  have HN := Lib.hid hN
  clear hN
  go_enter Try.func10, Try.ntmps10
  go_upto_region 1 with fail
  go_cut [3] (fun b3 wx => CodB w a c d nx cx AX 0 s b3 wx)
  case first =>
    go_wp2
    obtain ⟨W, hW⟩ : ∃ W, (w.alloc (.cells #[.int .u8 a, .int .u8 c, .int .u8 d, .slice AX nx cx] 24)).alloc (.cells #[.int .i64 0, .int .i64 0, .int .i64 0, .int .i64 0, .int .i64 0, .slice none 0 0, .slice none 0 0, .slice none 0 0] 34) = W := ⟨_, rfl⟩
    have hS : Shp W w.heap.size a c d (.slice AX nx cx) := by rw [← hW]; exact (Shp.new w a c d _).of_block (Below.heap_alloc _ _ _ (by simp))
    have hC : Cd W (w.heap.size + 1) 0 0 0 (.slice none 0 0) := by rw [← hW]; unfold Cd; have := heap_alloc_new (w.alloc (.cells #[.int .u8 a, .int .u8 c, .int .u8 d, .slice AX nx cx] 24)) (.cells #[.int .i64 0, .int .i64 0, .int .i64 0, .int .i64 0, .int .i64 0, .slice none 0 0, .slice none 0 0, .slice none 0 0] 34); rw [World.size_alloc] at this; exact this
    have hB : Below w.heap.size w W := by rw [← hW]; exact ((Below.refl _ _).alloc (Nat.le_refl _) _).alloc (by simp) _
    have hZ : W.heap.size = w.heap.size + 2 := by rw [← hW]; simp
    rw [hW]
    clear hW
    have e0 := hS.c0
    have e1 := hS.c1
    have e2 := hS.c2
    have n0 := World.new_ne W ⟨w.heap.size, 0, none⟩ e0
    have n1 := World.new_ne W ⟨w.heap.size, 2, none⟩ e2
    have H1 := Lib.hid hS
    have H2 := Lib.hid hC
    have H3 := Lib.hid hB
    clear hS hC hB
    obtain ⟨q, hq⟩ : ∃ q : Nat, a % 6 = (q : Int) := ⟨(a % 6).toNat, by omega⟩
    have hq6 : (q : Int) < 6 := by omega
    have hqL : (#[Value.int .i64 1, .int .i64 2, .int .i64 4, .int .i64 8, .int .i64 16, .int .i64 32] : Array Value)[q]? = some (.int .i64 s) := by
      rcases HS.out with ⟨h, rfl⟩ | ⟨h, rfl⟩ | ⟨h, rfl⟩ | ⟨h, rfl⟩ | ⟨h, rfl⟩ | ⟨h, rfl⟩ <;> (rw [hq] at h; obtain rfl : q = _ := Int.ofNat.inj h; rfl)
    have t6 : a.tmod 6 = q := by rw [Int.tmod_eq_emod_of_nonneg a0]; exact hq
    have t4 : d.tmod 4 = d % 4 := Int.tmod_eq_emod_of_nonneg d0
    have w4 : IntKind.i64.wrap (d % 4) = d % 4 := IntWalk.i64_in _ (by omega)
    clear hq
    refine wp_region_held_drew (S := (fun w' => w'.cell? ⟨w.heap.size, 0, none⟩ = some (.int .u8 a) ∧ w'.cell? ⟨w.heap.size, 2, none⟩ = some (.int .u8 d))) (by kernel_rfl) ?_ (fun hHeld => ?_)
    · (try dsimp only); go_keep
    refine wpAnyH_take (i := 1) (oi := { dst := some 7, op := Op.fieldAddr 24 (Operand.tmp 1) 0, type := 0, pos := "ref.go:260", after := #[], guard := none }) (v := ?_) rfl (by kernel_rfl) (by kernel_rfl) (by kernel_rfl) (fun _ _ _ h => h) (Or.inl ⟨by kernel_rfl, ?_⟩) (by assumption) ?_
    rotate_left
    · (intro w hSw; (try dsimp only at hSw); go_simp; (try with_reducible rfl))
    try simp only [Act.put, List.setIfInBounds_toArray, List.set_cons_zero, List.set_cons_succ]
    refine wpAnyH_take (i := 2) (oi := { dst := some 8, op := Op.load 5 (Operand.tmp 7), type := 5, pos := "ref.go:260", after := #[{ on := 1, ground := Ground.data }], guard := none }) (v := ?_) rfl (by kernel_rfl) (by kernel_rfl) (by kernel_rfl) (fun _ _ _ h => h) (Or.inl ⟨by kernel_rfl, ?_⟩) (by assumption) ?_
    rotate_left
    · (intro w hSw; (try dsimp only at hSw); go_simp; (try with_reducible rfl))
    try simp only [Act.put, List.setIfInBounds_toArray, List.set_cons_zero, List.set_cons_succ]
    refine wpAnyH_take (i := 3) (oi := { dst := some 9, op := Op.binOp BinOp.rem 5 (Operand.tmp 8) (Operand.const (Value.int IntKind.u8 6)) 5, type := 5, pos := "ref.go:260", after := #[{ on := 2, ground := Ground.data }], guard := none }) (v := ?_) rfl (by kernel_rfl) (by kernel_rfl) (by kernel_rfl) (fun _ _ _ h => h) (Or.inl ⟨by kernel_rfl, ?_⟩) (by assumption) ?_
    rotate_left
    · (intro w hSw; (try dsimp only at hSw); go_simp; (try with_reducible rfl))
    try simp only [Act.put, List.setIfInBounds_toArray, List.set_cons_zero, List.set_cons_succ]
    refine wpAnyH_take (i := 6) (oi := { dst := some 12, op := Op.fieldAddr 24 (Operand.tmp 1) 2, type := 0, pos := "ref.go:260", after := #[], guard := none }) (v := ?_) rfl (by kernel_rfl) (by kernel_rfl) (by kernel_rfl) (fun _ _ _ h => h) (Or.inl ⟨by kernel_rfl, ?_⟩) (by assumption) ?_
    rotate_left
    · (intro w hSw; (try dsimp only at hSw); go_simp; (try with_reducible rfl))
    try simp only [Act.put, List.setIfInBounds_toArray, List.set_cons_zero, List.set_cons_succ]
    refine wpAnyH_take (i := 7) (oi := { dst := some 13, op := Op.load 5 (Operand.tmp 12), type := 5, pos := "ref.go:260", after := #[{ on := 6, ground := Ground.data }], guard := none }) (v := ?_) rfl (by kernel_rfl) (by kernel_rfl) (by kernel_rfl) (fun _ _ _ h => h) (Or.inl ⟨by kernel_rfl, ?_⟩) (by assumption) ?_
    rotate_left
    · (intro w hSw; (try dsimp only at hSw); go_simp; (try with_reducible rfl))
    try simp only [Act.put, List.setIfInBounds_toArray, List.set_cons_zero, List.set_cons_succ]
    refine wpAnyH_take (i := 8) (oi := { dst := some 14, op := Op.binOp BinOp.rem 5 (Operand.tmp 13) (Operand.const (Value.int IntKind.u8 4)) 5, type := 5, pos := "ref.go:260", after := #[{ on := 7, ground := Ground.data }], guard := none }) (v := ?_) rfl (by kernel_rfl) (by kernel_rfl) (by kernel_rfl) (fun _ _ _ h => h) (Or.inl ⟨by kernel_rfl, ?_⟩) (by assumption) ?_
    rotate_left
    · (intro w hSw; (try dsimp only at hSw); go_simp; (try with_reducible rfl))
    try simp only [Act.put, List.setIfInBounds_toArray, List.set_cons_zero, List.set_cons_succ]
    refine wpAnyH_take (i := 9) (oi := { dst := some 15, op := Op.convert 5 3 (Operand.tmp 14), type := 3, pos := "ref.go:260", after := #[{ on := 8, ground := Ground.data }], guard := none }) (v := ?_) rfl (by kernel_rfl) (by kernel_rfl) (by kernel_rfl) (fun _ _ _ h => h) (Or.inl ⟨by kernel_rfl, ?_⟩) (by assumption) ?_
    rotate_left
    · (intro w hSw; (try dsimp only at hSw); go_simp; (try with_reducible rfl))
    try simp only [Act.put, List.setIfInBounds_toArray, List.set_cons_zero, List.set_cons_succ]
    refine wpAnyH_ready (rs := [0, 11]) (by kernel_rfl) (by simp) ?_
    refine AllReadyH.cons (o := { dst := some 6, op := Op.buildSlice 49 6 #[(0, Operand.const (Value.int IntKind.i64 1)), (1, Operand.const (Value.int IntKind.i64 2)), (2, Operand.const (Value.int IntKind.i64 4)), (3, Operand.const (Value.int IntKind.i64 8)), (4, Operand.const (Value.int IntKind.i64 16)), (5, Operand.const (Value.int IntKind.i64 32))], type := 49, pos := "ref.go:260", after := #[], guard := none }) rfl (fun K hK => ?_) ?_
    · go_simp
      refine hK.out _ _ ?_ (fun hHeld => ?_)
      · (try dsimp only); go_keep
      clear hK K
      try simp only [Act.put, List.setIfInBounds_toArray, List.set_cons_zero, List.set_cons_succ]
      refine wpAnyH_take (i := 4) (oi := { dst := some 10, op := Op.indexAddr 49 (Operand.tmp 6) (Operand.tmp 9), type := 0, pos := "ref.go:260", after := #[{ on := 0, ground := Ground.data }, { on := 3, ground := Ground.data }], guard := none }) (v := ?_) rfl (by kernel_rfl) (by kernel_rfl) (by kernel_rfl) (fun _ _ _ h => h) (Or.inl ⟨by kernel_rfl, ?_⟩) (by assumption) ?_
      rotate_left
      · (intro w hSw; (try dsimp only at hSw); go_simp; (try with_reducible rfl))
      try simp only [Act.put, List.setIfInBounds_toArray, List.set_cons_zero, List.set_cons_succ]
      refine wpAnyH_ready (rs := [5, 11]) (by kernel_rfl) (by simp) ?_
      refine AllReadyH.cons (o := { dst := some 11, op := Op.load 3 (Operand.tmp 10), type := 3, pos := "ref.go:260", after := #[{ on := 4, ground := Ground.data }], guard := none }) rfl (fun K hK => ?_) ?_
      · go_simp
        refine hK.out _ _ ?_ (fun hHeld => ?_)
        · (try dsimp only); go_keep
        clear hK K
        try simp only [Act.put, List.setIfInBounds_toArray, List.set_cons_zero, List.set_cons_succ]
        refine wpAnyH_take (i := 10) (oi := { dst := some 16, op := Op.build 34 #[(1, Operand.tmp 11), (4, Operand.tmp 15)], type := 34, pos := "ref.go:260", after := #[{ on := 5, ground := Ground.data }, { on := 9, ground := Ground.data }], guard := none }) (v := ?_) rfl (by kernel_rfl) (by kernel_rfl) (by kernel_rfl) (fun _ _ _ h => h) (Or.inl ⟨by kernel_rfl, ?_⟩) (by assumption) ?_
        rotate_left
        · (intro w hSw; (try dsimp only at hSw); go_simp; (try with_reducible rfl))
        try simp only [Act.put, List.setIfInBounds_toArray, List.set_cons_zero, List.set_cons_succ]
        refine wpAnyH_ready (rs := [11]) (by kernel_rfl) (by simp) ?_
        refine AllReadyH.cons (o := { dst := some 3, op := Op.alloc 34, type := 0, pos := "ref.go:260", after := #[], guard := none }) rfl (fun K hK => ?_) ?_
        · go_simp
          refine hK.out _ _ ?_ (fun hHeld => ?_)
          · (try dsimp only); go_keep
          clear hK K
          try simp only [Act.put, List.setIfInBounds_toArray, List.set_cons_zero, List.set_cons_succ]
          refine wpAnyH_ready (rs := [12]) (by kernel_rfl) (by simp) ?_
          refine AllReadyH.cons (o := { dst := none, op := Op.store 34 (Operand.tmp 3) (Operand.tmp 16), type := 0, pos := "ref.go:260", after := #[{ on := 11, ground := Ground.data }, { on := 10, ground := Ground.data }, { on := 0, ground := Ground.phase }, { on := 1, ground := Ground.phase }, { on := 2, ground := Ground.phase }, { on := 3, ground := Ground.phase }, { on := 4, ground := Ground.phase }, { on := 5, ground := Ground.phase }, { on := 6, ground := Ground.phase }, { on := 7, ground := Ground.phase }, { on := 8, ground := Ground.phase }, { on := 9, ground := Ground.phase }, { on := 10, ground := Ground.phase }, { on := 11, ground := Ground.phase }], guard := none }) rfl (fun K hK => ?_) ?_
          · go_simp
            refine hK.out _ _ ?_ (fun hHeld => ?_)
            · (try dsimp only); go_keep
            clear hK K
            try simp only [Act.put, List.setIfInBounds_toArray, List.set_cons_zero, List.set_cons_succ]
            refine wpAnyH_done (by kernel_rfl) ?_ _
            (go_wp2; go_meet; (first | exact codB1 hZ H1.out H2.out H3.out _ | exact codB2 hZ H1.out H2.out H3.out _))
          exact AllReadyH.nil
        exact AllReadyH.nil
      refine AllReadyH.cons (o := { dst := some 3, op := Op.alloc 34, type := 0, pos := "ref.go:260", after := #[], guard := none }) rfl (fun K hK => ?_) ?_
      · go_simp
        refine hK.out _ _ ?_ (fun hHeld => ?_)
        · (try dsimp only); go_keep
        clear hK K
        try simp only [Act.put, List.setIfInBounds_toArray, List.set_cons_zero, List.set_cons_succ]
        refine wpAnyH_ready (rs := [5]) (by kernel_rfl) (by simp) ?_
        refine AllReadyH.cons (o := { dst := some 11, op := Op.load 3 (Operand.tmp 10), type := 3, pos := "ref.go:260", after := #[{ on := 4, ground := Ground.data }], guard := none }) rfl (fun K hK => ?_) ?_
        · go_simp
          refine hK.out _ _ ?_ (fun hHeld => ?_)
          · (try dsimp only); go_keep
          clear hK K
          try simp only [Act.put, List.setIfInBounds_toArray, List.set_cons_zero, List.set_cons_succ]
          refine wpAnyH_take (i := 10) (oi := { dst := some 16, op := Op.build 34 #[(1, Operand.tmp 11), (4, Operand.tmp 15)], type := 34, pos := "ref.go:260", after := #[{ on := 5, ground := Ground.data }, { on := 9, ground := Ground.data }], guard := none }) (v := ?_) rfl (by kernel_rfl) (by kernel_rfl) (by kernel_rfl) (fun _ _ _ h => h) (Or.inl ⟨by kernel_rfl, ?_⟩) (by assumption) ?_
          rotate_left
          · (intro w hSw; (try dsimp only at hSw); go_simp; (try with_reducible rfl))
          try simp only [Act.put, List.setIfInBounds_toArray, List.set_cons_zero, List.set_cons_succ]
          refine wpAnyH_ready (rs := [12]) (by kernel_rfl) (by simp) ?_
          refine AllReadyH.cons (o := { dst := none, op := Op.store 34 (Operand.tmp 3) (Operand.tmp 16), type := 0, pos := "ref.go:260", after := #[{ on := 11, ground := Ground.data }, { on := 10, ground := Ground.data }, { on := 0, ground := Ground.phase }, { on := 1, ground := Ground.phase }, { on := 2, ground := Ground.phase }, { on := 3, ground := Ground.phase }, { on := 4, ground := Ground.phase }, { on := 5, ground := Ground.phase }, { on := 6, ground := Ground.phase }, { on := 7, ground := Ground.phase }, { on := 8, ground := Ground.phase }, { on := 9, ground := Ground.phase }, { on := 10, ground := Ground.phase }, { on := 11, ground := Ground.phase }], guard := none }) rfl (fun K hK => ?_) ?_
          · go_simp
            refine hK.out _ _ ?_ (fun hHeld => ?_)
            · (try dsimp only); go_keep
            clear hK K
            try simp only [Act.put, List.setIfInBounds_toArray, List.set_cons_zero, List.set_cons_succ]
            refine wpAnyH_done (by kernel_rfl) ?_ _
            (go_wp2; go_meet; (first | exact codB1 hZ H1.out H2.out H3.out _ | exact codB2 hZ H1.out H2.out H3.out _))
          exact AllReadyH.nil
        exact AllReadyH.nil
      exact AllReadyH.nil
    refine AllReadyH.cons (o := { dst := some 3, op := Op.alloc 34, type := 0, pos := "ref.go:260", after := #[], guard := none }) rfl (fun K hK => ?_) ?_
    · go_simp
      refine hK.out _ _ ?_ (fun hHeld => ?_)
      · (try dsimp only); go_keep
      clear hK K
      try simp only [Act.put, List.setIfInBounds_toArray, List.set_cons_zero, List.set_cons_succ]
      refine wpAnyH_ready (rs := [0]) (by kernel_rfl) (by simp) ?_
      refine AllReadyH.cons (o := { dst := some 6, op := Op.buildSlice 49 6 #[(0, Operand.const (Value.int IntKind.i64 1)), (1, Operand.const (Value.int IntKind.i64 2)), (2, Operand.const (Value.int IntKind.i64 4)), (3, Operand.const (Value.int IntKind.i64 8)), (4, Operand.const (Value.int IntKind.i64 16)), (5, Operand.const (Value.int IntKind.i64 32))], type := 49, pos := "ref.go:260", after := #[], guard := none }) rfl (fun K hK => ?_) ?_
      · go_simp
        refine hK.out _ _ ?_ (fun hHeld => ?_)
        · (try dsimp only); go_keep
        clear hK K
        try simp only [Act.put, List.setIfInBounds_toArray, List.set_cons_zero, List.set_cons_succ]
        refine wpAnyH_take (i := 4) (oi := { dst := some 10, op := Op.indexAddr 49 (Operand.tmp 6) (Operand.tmp 9), type := 0, pos := "ref.go:260", after := #[{ on := 0, ground := Ground.data }, { on := 3, ground := Ground.data }], guard := none }) (v := ?_) rfl (by kernel_rfl) (by kernel_rfl) (by kernel_rfl) (fun _ _ _ h => h) (Or.inl ⟨by kernel_rfl, ?_⟩) (by assumption) ?_
        rotate_left
        · (intro w hSw; (try dsimp only at hSw); go_simp; (try with_reducible rfl))
        try simp only [Act.put, List.setIfInBounds_toArray, List.set_cons_zero, List.set_cons_succ]
        refine wpAnyH_ready (rs := [5]) (by kernel_rfl) (by simp) ?_
        refine AllReadyH.cons (o := { dst := some 11, op := Op.load 3 (Operand.tmp 10), type := 3, pos := "ref.go:260", after := #[{ on := 4, ground := Ground.data }], guard := none }) rfl (fun K hK => ?_) ?_
        · go_simp
          refine hK.out _ _ ?_ (fun hHeld => ?_)
          · (try dsimp only); go_keep
          clear hK K
          try simp only [Act.put, List.setIfInBounds_toArray, List.set_cons_zero, List.set_cons_succ]
          refine wpAnyH_take (i := 10) (oi := { dst := some 16, op := Op.build 34 #[(1, Operand.tmp 11), (4, Operand.tmp 15)], type := 34, pos := "ref.go:260", after := #[{ on := 5, ground := Ground.data }, { on := 9, ground := Ground.data }], guard := none }) (v := ?_) rfl (by kernel_rfl) (by kernel_rfl) (by kernel_rfl) (fun _ _ _ h => h) (Or.inl ⟨by kernel_rfl, ?_⟩) (by assumption) ?_
          rotate_left
          · (intro w hSw; (try dsimp only at hSw); go_simp; (try with_reducible rfl))
          try simp only [Act.put, List.setIfInBounds_toArray, List.set_cons_zero, List.set_cons_succ]
          refine wpAnyH_ready (rs := [12]) (by kernel_rfl) (by simp) ?_
          refine AllReadyH.cons (o := { dst := none, op := Op.store 34 (Operand.tmp 3) (Operand.tmp 16), type := 0, pos := "ref.go:260", after := #[{ on := 11, ground := Ground.data }, { on := 10, ground := Ground.data }, { on := 0, ground := Ground.phase }, { on := 1, ground := Ground.phase }, { on := 2, ground := Ground.phase }, { on := 3, ground := Ground.phase }, { on := 4, ground := Ground.phase }, { on := 5, ground := Ground.phase }, { on := 6, ground := Ground.phase }, { on := 7, ground := Ground.phase }, { on := 8, ground := Ground.phase }, { on := 9, ground := Ground.phase }, { on := 10, ground := Ground.phase }, { on := 11, ground := Ground.phase }], guard := none }) rfl (fun K hK => ?_) ?_
          · go_simp
            refine hK.out _ _ ?_ (fun hHeld => ?_)
            · (try dsimp only); go_keep
            clear hK K
            try simp only [Act.put, List.setIfInBounds_toArray, List.set_cons_zero, List.set_cons_succ]
            refine wpAnyH_done (by kernel_rfl) ?_ _
            (go_wp2; go_meet; (first | exact codB1 hZ H1.out H2.out H3.out _ | exact codB2 hZ H1.out H2.out H3.out _))
          exact AllReadyH.nil
        exact AllReadyH.nil
      exact AllReadyH.nil
    exact AllReadyH.nil
  case rest =>
    obtain ⟨B, rfl, hB2, hC, hC0, hS, hB⟩ := hcut
    go_upto_region 2 with fail
    go_cut [3] (fun b3 wx => b3 = .pointer (some ⟨B, 0, none⟩) ∧ Cd wx B g s (d % 4) (.slice none 0 0) ∧ Cd wx (w.heap.size + 1) 0 0 0 (.slice none 0 0) ∧ Shp wx w.heap.size a c d (.slice AX nx cx) ∧ Below w.heap.size w wx)
    case first =>
      have hs32 : 1 ≤ s ∧ s ≤ 32 := by rcases HS.out with ⟨_, h⟩ | ⟨_, h⟩ | ⟨_, h⟩ | ⟨_, h⟩ | ⟨_, h⟩ | ⟨_, h⟩ <;> omega
      obtain ⟨M, hM⟩ : ∃ M, 64 / s = M := ⟨_, rfl⟩
      have hMb : 2 ≤ M ∧ M ≤ 64 := by
        rcases HS.out with ⟨_, h⟩ | ⟨_, h⟩ | ⟨_, h⟩ | ⟨_, h⟩ | ⟨_, h⟩ | ⟨_, h⟩ <;> subst h <;> omega
      obtain ⟨hs1, hs2⟩ := hs32
      obtain ⟨hM1, hM2⟩ := hMb
      have f1 : (64 : Int).tdiv s = M := by rw [Int.tdiv_eq_ediv_of_nonneg (by omega)]; exact hM
      obtain ⟨r, hr⟩ : ∃ r, c % M = r := ⟨_, rfl⟩
      have f2 : c.tmod M = r := by rw [Int.tmod_eq_emod_of_nonneg c0]; exact hr
      have hr0 : 0 ≤ r := by rw [← hr]; exact Int.emod_nonneg _ (by omega)
      have hr1 : r < M := by rw [← hr]; exact Int.emod_lt_of_pos _ (by omega)
      have hmax : max 1 (64 / s) = M := by rw [hM]; omega
      have hgv : s * (1 + r) = g := by have := HG.out; rw [hmax, hr] at this; exact this
      have hg1 : 0 ≤ g ∧ g ≤ 2080 := by
        rw [← hgv]
        exact ⟨Int.mul_nonneg (by omega) (by omega), Int.le_trans (Int.mul_le_mul hs2 (show 1 + r ≤ 65 by omega) (by omega) (by omega)) (by decide)⟩
      have f3 : IntKind.i64.wrap (1 + r) = 1 + r := IntWalk.i64_in _ (by omega)
      have f4 : IntKind.i64.wrap g = g := IntWalk.i64_in _ (by omega)
      have hs0 : ¬ s = 0 := by omega
      have hM0 : ¬ M = 0 := by omega
      have wM : IntKind.i64.wrap M = M := IntWalk.i64_in _ (by omega)
      have wc : IntKind.i64.wrap c = c := IntWalk.i64_in _ (by omega)
      have hM3 : 1 < M := by omega
      have hBn : ¬ w.heap.size = B := by omega
      have hBn2 : ¬ B = w.heap.size := by omega
      have hst : ∀ W : World, (W.setCell ⟨B, 0, none⟩ (.int .i64 g)).cell? ⟨B, 1, none⟩ = W.cell? ⟨B, 1, none⟩ := fun W => World.cell?_setCell_other W ⟨B, 0, none⟩ ⟨B, 1, none⟩ _ (by simp)
      have e0 := hC.c1
      have e1 := hS.c1
      have f0 := hC.free (i := 0)
      have e2 := hC.c0
      have H1 := Lib.hid hS
      have H2 := Lib.hid hC
      have H3 := Lib.hid hB
      have H4 := Lib.hid hC0
      clear hS hC hB hC0 hmax hg1
      go_region_held3 (fun w' => w'.cell? ⟨B, 1, none⟩ = some (.int .i64 s) ∧ w'.cell? ⟨w.heap.size, 1, none⟩ = some (.int .u8 c)) (go_keep) (fail)
      go_wp2
      go_meet
      exact ⟨rfl, H2.out.set0 g, H4.out.far (by show w.heap.size + 1 ≠ B; omega) _, H1.out.of_block (Below.heap_setCell _ _ _ _ (by show w.heap.size ≠ B; omega)), (H3.out.setCell (by show w.heap.size ≤ B; omega) _).drew⟩
    case rest =>
      obtain ⟨rfl, hC, hC0, hS, hB⟩ := hcut
      obtain ⟨i0, hi, hz0, hz1, hz2⟩ := info_parts info79
      have HI := Lib.hid (⟨hC, hC0, hS, hB⟩ : _ ∧ _ ∧ _ ∧ _)
      clear hC hC0 hS hB
      go_wp2
      go_loopw [4] (fun i wr => ∃ (k : Nat) (v : Value) (cells : List Value), k ≤ N ∧ i = .int .i64 k ∧ Cd wr B g s (d % 4) v ∧ Cd wr (w.heap.size + 1) 0 0 0 (.slice none 0 0) ∧ Shp wr w.heap.size a c d (.slice AX nx cx) ∧ wr.ownsRow (w.heap.size + 1) 79 4 v k cells ∧ CA (fun j => 1 + x j % 3) (fun j => x j / 16) k cells ∧ Below w.heap.size w wr) (fun i _ => N - (intOf i).toNat)
      case atStart => exact ⟨0, _, [], Nat.zero_le _, rfl, HI.out.1, HI.out.2.1, HI.out.2.2.1, World.ownsRow_nil _ _ _ _, CA.nil, HI.out.2.2.2⟩
      case round =>
        obtain ⟨k, v, cells, hk, rfl, hC, hC0, hS, hown, hca, hbel⟩ := hrel
        have e3 := hS.c3
        by_cases hlt : k < N
        · have hk8 : k < 8 := by omega
          have hkx : k < nx := by omega
          obtain ⟨b, off, rfl, hb, hcell⟩ := (HRF.out.below hbel).at_ hkx
          obtain ⟨y0, y1⟩ := HX.out k
          obtain ⟨y, hy⟩ : ∃ y, x k = y := ⟨_, rfl⟩
          rw [hy] at hcell y0 y1
          have t3 : y.tmod 3 = y % 3 := Int.tmod_eq_emod_of_nonneg y0
          have t16 : y.tdiv 16 = y / 16 := Int.tdiv_eq_ediv_of_nonneg y0
          have wy : IntKind.i64.wrap y = y := IntWalk.i64_in _ (by omega)
          have ws : IntKind.i64.wrap (1 + y % 3) = 1 + y % 3 := IntWalk.i64_in _ (by omega)
          have wy16 : IntKind.i64.wrap (y / 16) = y / 16 := IntWalk.i64_in _ (by omega)
          have hwz := hbel.size
          have wk : IntKind.i64.wrap ((k : Int) + 1) = (k : Int) + 1 := IntWalk.i64_in _ (by omega)
          have kn : ((k : Int) + 1).toNat = k + 1 := by omega
          obtain ⟨nm, hns, hnm⟩ := slice_nm k hk8
          have hnz : ¬ 9223372036854775807 < 1 + nm.size := by omega
          have hc5 := hC.c5
          have hf5 := hC.free (i := 5)
          have hBlt := hC.lt
          have hBne : ¬ B = wr.heap.size := by omega
          have hn5 := World.new_ne wr ⟨B, 5, none⟩ hc5
          have HY := Lib.hid hy
          have HC := Lib.hid hC
          have HC0 := Lib.hid hC0
          have HS1 := Lib.hid hS
          have HO := Lib.hid hown
          have HCA := Lib.hid hca
          have HB := Lib.hid hbel
          clear hy hC hC0 hS hown hca hbel
          go_wp2
          have hnr := HC.out.not_row HO.out
          have hnr0 := HC0.out.not_row HO.out
          have hnrs : some w.heap.size ≠ v.ownBlock := fun e => by have := (HO.out.lt _ e.symm).1; omega
          go_region_law ((refine step_append_lies _ (by rfl) _ _ _ (by rfl) (w.heap.size + 1) 79 i0 _ 4 40 Try.underlying30 hi hz0 hz1 hz2 rfl (by omega) v k cells (by rfl) ((HO.out.alloc _).drew) ⟨wr.heap.size, 0, none⟩ 1 1 [.string ({ data := #[97] } ++ nm), .int .i64 (1 + y % 3), .int .i64 1, .int .i64 (y / 16)] (by rfl) (by rfl) (World.news_of_block (cs := #[.string ({ data := #[97] } ++ nm), .int .i64 (1 + y % 3), .int .i64 1, .int .i64 (y / 16)]) (t := 79) (fr := (0, 0)) (heap_alloc_new wr _)) (by simp [Value.oneCell']) (by omega) (by unfold maxLen; omega) (by omega) (by simp; omega) (wr.heap.size + 1) (by simp) ?_; intro gg cap w1 hown1 hgrow hat hltg; have hC1 := HC.out.step hgrow hnr; have hcc := hC1.c5; have hff := hC1.free (i := 5); have HC1 := Lib.hid hC1; have HC01 := Lib.hid (HC0.out.step hgrow hnr0); have HSS := Lib.hid (HS1.out.step hgrow hnrs); have HG1 := Lib.hid hgrow; have HO1 := Lib.hid hown1; clear hC1 hgrow hown1 hat))
          all_goals
            go_wp2
            go_roundw
            case rel =>
              refine ⟨k + 1, _, _, by omega, by go_num, HC1.out.set5 _, HC01.out.far (by show w.heap.size + 1 ≠ B; omega) _, HSS.out.of_block (Below.heap_setCell _ _ _ _ (by show w.heap.size ≠ B; omega)), ownsRow_setCell_other HO1.out (fun e => (HC1.out.not_row HO1.out) e.symm) _, ?_, ?_⟩
              · have := HCA.out.snoc ({ data := #[97] } ++ nm) 1
                rw [HY.out] at this
                exact this
              · exact ((HB.out.alloc (by omega) _).drew.grown HG1.out (by simp; omega) (fun j hj => by have := (HO.out.lt j hj).1; omega)).setCell (by show w.heap.size ≤ B; omega) _
            case measure => simp [intOf]; omega
        · obtain rfl : k = N := by omega
          obtain ⟨A, cc, rfl, hRA, hAg⟩ := hca.reads hown
          have hlim : ¬ ((k : Int) < nx ∧ (k : Int) < 8) := by have := HN.out; omega
          have c0' := hC.c0
          have c1' := hC.c1
          have c2' := hC.c2
          have c3' := hC.c3
          have c4' := hC.c4
          have c5' := hC.c5
          have c6' := hC.c6
          have c7' := hC.c7
          have d0' := hC0.c0
          have d1' := hC0.c1
          have d2' := hC0.c2
          have d3' := hC0.c3
          have d4' := hC0.c4
          have d5' := hC0.c5
          have d6' := hC0.c6
          have d7' := hC0.c7
          have fz : ∀ i, wr.frozen? ⟨w.heap.size + 1, i, none⟩ = false := fun i => hC0.free
          have HF := Lib.hid (fun (W : World) => hca.later (W := W) hown)
          have HNR : Hid (∀ g, (Value.slice A k cc).ownBlock = some g → g ≠ w.heap.size + 1) := Lib.hid (fun g hg e => hC0.not_row hown (by rw [hg, e]))
          have HB := Lib.hid hbel
          have HL := Lib.hid hlim
          clear hC hC0 hS hown hca hRA hbel hlim hlt hAg
          by_cases hkx : k < nx
          · have hk8 : ¬ k < 8 := by have := HL.out; omega
            go_wp2
            refine bodyPost_ret (v := .agg #[.int .i64 g, .int .i64 s, .int .i64 0, .int .i64 0, .int .i64 (d % 4), .slice A k cc, .slice none 0 0, .slice none 0 0]) (by simp [results, Try.results10, go_sem, d0', d1', d2', d3', d4', d5', d6', d7', fz]) rfl ⟨_, _, rfl, HF.out _ (fun g hg => set8 (HNR.out g hg) _ _ _ _ _ _ _ _) (by simp [World.setCell]), ?_⟩
            exact (((((((HB.out.setCell (by simp) _).setCell (by simp) _).setCell (by simp) _).setCell (by simp) _).setCell (by simp) _).setCell (by simp) _).setCell (by simp) _).setCell (by simp) _
          · go_wp2
            refine bodyPost_ret (v := .agg #[.int .i64 g, .int .i64 s, .int .i64 0, .int .i64 0, .int .i64 (d % 4), .slice A k cc, .slice none 0 0, .slice none 0 0]) (by simp [results, Try.results10, go_sem, d0', d1', d2', d3', d4', d5', d6', d7', fz]) rfl ⟨_, _, rfl, HF.out _ (fun g hg => set8 (HNR.out g hg) _ _ _ _ _ _ _ _) (by simp [World.setCell]), ?_⟩
            exact (((((((HB.out.setCell (by simp) _).setCell (by simp) _).setCell (by simp) _).setCell (by simp) _).setCell (by simp) _).setCell (by simp) _).setCell (by simp) _).setCell (by simp) _
end Go.Proofs.Ytjknmancnfeifaa
