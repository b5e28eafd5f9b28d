import Derived.Test.YtkncilgmlkeifaaGreatDoorTkp
import Derived.Test.YtkncilgmlkeifaaGreatDoorChb
import Derived.Test.YtkncilgmlkeifaaGreatDoorRci
import Derived.Test.YtkncilgmlkeifaaGreatDoorExs
import Derived.Test.YtkncilgmlkeifaaGreatDoorMkd
import Derived.Test.YtkncilgmlkeifaaGreatDoorRdx
/-
  CodeReaches: the law's walk.
-/
set_option linter.unusedVariables false
set_option linter.unusedSimpArgs false
namespace Go.Proofs.YtkncilgmlkeifaaGreatDoor
open Go.ChangeShapes Go.WideShapes Go.ChangeAt Go.RowKit Go.Shelf

/-- What the law's walk asks of the changed code. -/
structure RcF (C : CdV) : Prop where
  fits : C.Fits
  nb : 1 ≤ C.b.length ∧ C.b.length ≤ 18
  ok : chkC C = 0 → ∀ j, j < C.b.length → ∀ x, x ∈ succL (C.te j) → 0 ≤ x ∧ x < C.b.length
theorem there8 {W : World} {b : Nat} {u0 u1 u2 u3 u4 u5 u6 u7 : Value} (h : W.heap[b]? = some (.cells #[u0, u1, u2, u3, u4, u5, u6, u7] 36 (0, 0))) : W.there b 0 8 := fun j hj => by
  have rf := frozen_of_row W b (0 + j) _ _ h
  refine ⟨?_, rf⟩
  have : j = 0 ∨ j = 1 ∨ j = 2 ∨ j = 3 ∨ j = 4 ∨ j = 5 ∨ j = 6 ∨ j = 7 := by omega
  rcases this with rfl | rfl | rfl | rfl | rfl | rfl | rfl | rfl <;> simp [World.cell?, h]
theorem cd_one (C : CdV) (ca : CdA) : (#[.int .i64 (C.n 0), .int .i64 (C.n 1), .int .i64 (C.n 2), .int .i64 (C.n 3), .int .i64 (C.n 4), .slice ca.a1 C.q.length ca.c1, .slice ca.a2 C.l.length ca.c2, .slice ca.a3 C.b.length ca.c3] : Array Value).all (·.oneCell') = true := by
  rw [Array.all_eq_true_iff_forall_mem]
  intro v hv
  simp only [List.mem_toArray, List.mem_cons, List.not_mem_nil, or_false] at hv
  rcases hv with rfl | rfl | rfl | rfl | rfl | rfl | rfl | rfl <;> rfl
/-- What the law's loops keep: the reached blocks and the steps in memory. -/
structure RcK (W4 : World) (bl bs nb : Nat) (R : Nat → Bool) (s : Nat → Nat) (W : World) : Prop where
  below : Below W4.heap.size W4 W
  l : W.rowIs bl 4 nb (fun j => .bool (R j))
  st : W.rowIs bs 3 nb (fun j => .int .i64 (s j : Nat))
  ne : bl ≠ bs
  hi : W4.heap.size ≤ bs
theorem RcK.on {W4 W W' : World} {bl bs nb : Nat} {R : Nat → Bool} {s : Nat → Nat} (h : RcK W4 bl bs nb R s W) (hb : Below W.heap.size W W') : RcK W4 bl bs nb R s W' :=
  ⟨h.below.trans (hb.mono h.below.size), h.l.of_block (hb.block _ h.l.lt), h.st.of_block (hb.block _ h.st.lt), h.ne, h.hi⟩
theorem RcK.set {W4 W : World} {bl bs nb : Nat} {R : Nat → Bool} {s : Nat → Nat} (h : RcK W4 bl bs nb R s W) (x m : Nat) : RcK W4 bl bs nb R (setS s x m) (W.setCell ⟨bs, x, none⟩ (.int .i64 (m : Nat))) :=
  ⟨h.below.setCell h.hi _, h.l.of_block (heap_setCell_other _ _ _ _ h.ne), (h.st.set x (.int .i64 (m : Nat))).congr (fun j hj => by unfold setS; split <;> rfl), h.ne, h.hi⟩
set_option maxRecDepth 100000 in
set_option maxHeartbeats 40000000 in
theorem reaches_of (A : Option Addr) (nx cx : Nat) (pt a0 a1 y ok on ov : Int) (nm : ByteArray) (w : World) (hpt : 0 ≤ pt ∧ pt ≤ 255) (hE : EnvP w)
    (hM : ∀ W, Below w.heap.size w W → Calls Tryz.prog 34 #[.agg #[.slice A nx cx]] W fun e w' => ∃ (D : CdV) (a : CdA), e = .returned (cdval D a) ∧ (MdOk D ∧ CdK D a w') ∧ Below W.heap.size W w')
    (hC : ∀ (pn yy : Int) (D : CdV) (a : CdA) (V : World), (pn = 12 ∨ pn = 92) → (MdOk D ∧ CdK D a V) → Calls Tryz.prog 13 #[cdval D a, .agg #[.int .u8 pn, .int .u8 a0, .int .u8 a1, .int .i64 yy, .string ⟨#[]⟩, .int .i64 0, .int .i64 0, .int .i32 0]] V fun e w' => ∃ (C : CdV) (a' : CdA), e = .returned (cdval C a') ∧ (RcF C ∧ CdK C a' w') ∧ Below V.heap.size V w') :
    Calls Tryz.prog 6 #[.agg #[.slice A nx cx], .agg #[.int .u8 pt, .int .u8 a0, .int .u8 a1, .int .i64 y, .string nm, .int .i64 ok, .int .i64 on, .int .i32 ov]] w fun e w' => e = .returned (.bool true) ∧ Below w.heap.size w w' := by
  have HX := Lib.hid (fun W (hW : Below w.heap.size w W) => examples_any W (hE.on hW))
  have HM := Lib.hid hM
  have HCH := Lib.hid hC
  have HB0 := Lib.hid (show Below w.heap.size w ((w.alloc (.cells #[.slice A nx cx] 24)).alloc (.cells #[.int .u8 pt, .int .u8 a0, .int .u8 a1, .int .i64 y, .string nm, .int .i64 ok, .int .i64 on, .int .i32 ov] 29)) from ((Below.refl _ _).alloc (Nat.le_refl _) _).alloc (by simp) _)
  have K2 := Lib.hid (show ((w.alloc (.cells #[.slice A nx cx] 24)).alloc (.cells #[.int .u8 pt, .int .u8 a0, .int .u8 a1, .int .i64 y, .string nm, .int .i64 ok, .int .i64 on, .int .i32 ov] 29)).heap[w.heap.size]? = some (.cells #[.slice A nx cx] 24 (0, 0)) from (Below.heap_alloc _ _ _ (by simp)).trans (heap_alloc_new _ _))
  have K3 := Lib.hid (show ((w.alloc (.cells #[.slice A nx cx] 24)).alloc (.cells #[.int .u8 pt, .int .u8 a0, .int .u8 a1, .int .i64 y, .string nm, .int .i64 ok, .int .i64 on, .int .i32 ov] 29)).heap[w.heap.size + 1]? = some (.cells #[.int .u8 pt, .int .u8 a0, .int .u8 a1, .int .i64 y, .string nm, .int .i64 ok, .int .i64 on, .int .i32 ov] 29 (0, 0)) from by
    have := heap_alloc_new (w.alloc (.cells #[.slice A nx cx] 24)) (.cells #[.int .u8 pt, .int .u8 a0, .int .u8 a1, .int .i64 y, .string nm, .int .i64 ok, .int .i64 on, .int .i32 ov] 29)
    rwa [World.size_alloc] at this)
  clear hM hE hC
  go_enter Tryz.func6, Tryz.ntmps6
  go_upto_region 4 with (first
    | (go_at_call 11; (with_reducible refine (HX.out _ HB0.out).mono ?_); rintro e w1 ⟨rfl, hb1⟩; have HB1 := Lib.hid (HB0.out.trans (hb1.mono HB0.out.size)); have L2 := Lib.hid ((hb1.block _ (Array.getElem?_eq_some_iff.1 K2.out).1).trans K2.out); have L3 := Lib.hid ((hb1.block _ (Array.getElem?_eq_some_iff.1 K3.out).1).trans K3.out); clear hb1))
  have HTS := Lib.hid (show ∀ V, Below w1.heap.size w1 V → (fun w' => w'.cell? ⟨w.heap.size, 0, none⟩ = some (.slice A nx cx) ∧ w'.cell? ⟨w.heap.size + 1, 0, none⟩ = some (.int .u8 pt) ∧ w'.cell? ⟨w.heap.size + 1, 1, none⟩ = some (.int .u8 a0) ∧ w'.cell? ⟨w.heap.size + 1, 2, none⟩ = some (.int .u8 a1) ∧ w'.cell? ⟨w.heap.size + 1, 3, none⟩ = some (.int .i64 y) ∧ w'.cell? ⟨w.heap.size + 1, 4, none⟩ = some (.string nm) ∧ w'.cell? ⟨w.heap.size + 1, 5, none⟩ = some (.int .i64 ok) ∧ w'.cell? ⟨w.heap.size + 1, 6, none⟩ = some (.int .i64 on) ∧ w'.cell? ⟨w.heap.size + 1, 7, none⟩ = some (.int .i32 ov)) V from fun V hV => by
    have q2 := (hV.block _ (Array.getElem?_eq_some_iff.1 L2.out).1).trans L2.out
    have q3 := (hV.block _ (Array.getElem?_eq_some_iff.1 L3.out).1).trans L3.out
    exact ⟨cell_blk q2 (i := 0) rfl, cell_blk q3 (i := 0) rfl, cell_blk q3 (i := 1) rfl, cell_blk q3 (i := 2) rfl, cell_blk q3 (i := 3) rfl, cell_blk q3 (i := 4) rfl, cell_blk q3 (i := 5) rfl, cell_blk q3 (i := 6) rfl, cell_blk q3 (i := 7) rfl⟩)
  have HBc := Lib.hid (show Below w1.heap.size w1 w1.drew from below_drewS (Below.refl _ w1))
  clear K2 K3 L2 L3
  obtain ⟨yy, hyy⟩ : ∃ yy, bits BinOp.and IntKind.i64 y 15 = yy := ⟨_, rfl⟩
  go_cut [6] (fun v wx => ∃ (b6 : Nat) (C : CdV) (ca : CdA) (W4 : World), W4 = wx ∧ v = .pointer (some ⟨b6, 0, none⟩) ∧ Hid (wx.heap[b6]? = some (.cells #[.int .i64 (C.n 0), .int .i64 (C.n 1), .int .i64 (C.n 2), .int .i64 (C.n 3), .int .i64 (C.n 4), .slice ca.a1 C.q.length ca.c1, .slice ca.a2 C.l.length ca.c2, .slice ca.a3 C.b.length ca.c3] 36 (0, 0))) ∧ Hid (RcF C ∧ CdK C ca wx) ∧ Hid (Below w.heap.size w wx))
  case first =>
    obtain ⟨hp0, hp1⟩ := hpt
    have hm : Int.tmod pt 2 = 0 ∨ Int.tmod pt 2 = 1 := by
      have := Int.tmod_nonneg (2 : Int) hp0
      have := Int.tmod_lt_of_pos pt (show (0 : Int) < 2 by decide)
      omega
    rcases hm with hm | hm
    · refine wp_region_held_drew (S := (fun w' => w'.cell? ⟨w.heap.size, 0, none⟩ = some (.slice A nx cx) ∧ w'.cell? ⟨w.heap.size + 1, 0, none⟩ = some (.int .u8 pt) ∧ w'.cell? ⟨w.heap.size + 1, 1, none⟩ = some (.int .u8 a0) ∧ w'.cell? ⟨w.heap.size + 1, 2, none⟩ = some (.int .u8 a1) ∧ w'.cell? ⟨w.heap.size + 1, 3, none⟩ = some (.int .i64 y) ∧ w'.cell? ⟨w.heap.size + 1, 4, none⟩ = some (.string nm) ∧ w'.cell? ⟨w.heap.size + 1, 5, none⟩ = some (.int .i64 ok) ∧ w'.cell? ⟨w.heap.size + 1, 6, none⟩ = some (.int .i64 on) ∧ w'.cell? ⟨w.heap.size + 1, 7, none⟩ = some (.int .i32 ov))) (by kernel_rfl) ?_ (fun hHeld => ?_)
      · (try dsimp only); exact HTS.out _ HBc.out
      refine tk 0 ⟨some 17, .load 24 (.tmp 2), 24, "law.go:285", #[], none⟩ (v := ?_) ?_ (by assumption) ?_
      rotate_left
      · (intro w hSw; (try dsimp only at hSw); go_simp; (try with_reducible rfl))
      try simp only [pe]
      refine tk 2 ⟨some 19, .fieldAddr 29 (.tmp 3) 0, 0, "law.go:285", #[], none⟩ (v := ?_) ?_ (by assumption) ?_
      rotate_left
      · (intro w hSw; (try dsimp only at hSw); go_simp; (try with_reducible rfl))
      try simp only [pe]
      refine tk 3 ⟨some 20, .load 5 (.tmp 19), 5, "law.go:285", #[⟨2, .data⟩], none⟩ (v := ?_) ?_ (by assumption) ?_
      rotate_left
      · (intro w hSw; (try dsimp only at hSw); go_simp; (try with_reducible rfl))
      try simp only [pe]
      refine tk 4 ⟨some 21, .binOp .rem 5 (.tmp 20) (.const (.int .u8 2)) 5, 5, "law.go:285", #[⟨3, .data⟩], none⟩ (v := ?_) ?_ (by assumption) ?_
      rotate_left
      · (intro w hSw; (try dsimp only at hSw); go_simp; (try with_reducible rfl))
      try simp only [pe]
      refine tk 5 ⟨some 22, .binOp .mul 5 (.const (.int .u8 80)) (.tmp 21) 5, 5, "law.go:285", #[⟨4, .data⟩], none⟩ (v := ?_) ?_ (by assumption) ?_
      rotate_left
      · (intro w hSw; (try dsimp only at hSw); go_simp; (try with_reducible rfl))
      try simp only [pe]
      refine tk 6 ⟨some 23, .binOp .add 5 (.const (.int .u8 12)) (.tmp 22) 5, 5, "law.go:285", #[⟨5, .data⟩], none⟩ (v := ?_) ?_ (by assumption) ?_
      rotate_left
      · (intro w hSw; (try dsimp only at hSw); go_simp; (try with_reducible rfl))
      try simp only [pe]
      refine tk 7 ⟨some 24, .fieldAddr 29 (.tmp 3) 1, 0, "law.go:285", #[], none⟩ (v := ?_) ?_ (by assumption) ?_
      rotate_left
      · (intro w hSw; (try dsimp only at hSw); go_simp; (try with_reducible rfl))
      try simp only [pe]
      refine tk 8 ⟨some 25, .load 25 (.tmp 24), 25, "law.go:285", #[⟨7, .data⟩], none⟩ (v := ?_) ?_ (by assumption) ?_
      rotate_left
      · (intro w hSw; (try dsimp only at hSw); go_simp; (try with_reducible rfl))
      try simp only [pe]
      refine tk 9 ⟨some 26, .fieldAddr 29 (.tmp 3) 2, 0, "law.go:285", #[], none⟩ (v := ?_) ?_ (by assumption) ?_
      rotate_left
      · (intro w hSw; (try dsimp only at hSw); go_simp; (try with_reducible rfl))
      try simp only [pe]
      refine tk 10 ⟨some 27, .load 3 (.tmp 26), 3, "law.go:285", #[⟨9, .data⟩], none⟩ (v := ?_) ?_ (by assumption) ?_
      rotate_left
      · (intro w hSw; (try dsimp only at hSw); go_simp; (try with_reducible rfl))
      try simp only [pe]
      refine tk 11 ⟨some 28, .binOp .and 3 (.tmp 27) (.const (.int .i64 15)) 3, 3, "law.go:285", #[⟨10, .data⟩], none⟩ (v := ?_) ?_ (by assumption) ?_
      rotate_left
      · (intro w hSw; (try dsimp only at hSw); go_simp; (try with_reducible rfl))
      try simp only [pe]
      refine tk 12 ⟨some 29, .build 29 #[(0, .tmp 23), (1, .tmp 25), (2, .tmp 28)], 29, "law.go:285", #[⟨6, .data⟩, ⟨8, .data⟩, ⟨11, .data⟩], none⟩ (v := ?_) ?_ (by assumption) ?_
      rotate_left
      · (intro w hSw; (try dsimp only at hSw); go_simp; (try with_reducible rfl))
      try simp only [pe]
      refine wpAnyH_ready (rs := [1, 14]) (by kernel_rfl) (by simp) ?_
      refine AllReadyH.cons (o := ⟨some 18, .call { callee := .value (.func 34), args := #[.tmp 17], argTypes := #[24] }, 36, "law.go:285", #[⟨0, .data⟩], none⟩) rfl (fun K hK => ?_) ?_
      · (go_simp; go_at_call 34; refine (HM.out _ (HB1.out.trans (HBc.out.mono HB1.out.size))).mono ?_; rintro e w2 ⟨D, da, rfl, hmd, hbx⟩; have HMD := Lib.hid hmd; clear hmd; replace HBc := Lib.hid (HBc.out.trans (hbx.mono HBc.out.size)); try replace HA6 := Lib.hid ((hbx.block _ (Array.getElem?_eq_some_iff.1 HA6.out).1).trans HA6.out); clear hbx; try go_wp2_with fail)
        refine hK.out _ _ ?_ (fun hHeld => ?_)
        · (try dsimp only); exact HTS.out _ HBc.out
        clear hK K
        try simp only [pe]
        refine wpAnyH_ready (rs := [13, 14]) (by kernel_rfl) (by simp) ?_
        refine AllReadyH.cons (o := ⟨some 30, .call { callee := .value (.func 13), args := #[.tmp 18, .tmp 29], argTypes := #[36, 29] }, 36, "law.go:285", #[⟨1, .data⟩, ⟨12, .data⟩, ⟨1, .chain⟩], none⟩) rfl (fun K hK => ?_) ?_
        · (go_simp; go_at_call 13; refine (HCH.out 12 _ D da _ (by decide) (by first | exact HMD.out | exact ⟨HMD.out.1, HMD.out.2.on ((Below.refl _ _).alloc (Nat.le_refl _) _)⟩)).mono ?_; rintro e w3 ⟨C, ca, rfl, hmc, hbx⟩; have HMC := Lib.hid hmc; clear hmc; replace HBc := Lib.hid (HBc.out.trans (hbx.mono HBc.out.size)); try replace HA6 := Lib.hid ((hbx.block _ (Array.getElem?_eq_some_iff.1 HA6.out).1).trans HA6.out); clear hbx; unfold cdval; try go_wp2_with fail)
          refine hK.out _ _ ?_ (fun hHeld => ?_)
          · (try dsimp only); exact HTS.out _ HBc.out
          clear hK K
          try simp only [pe]
          refine wpAnyH_ready (rs := [14]) (by kernel_rfl) (by simp) ?_
          refine AllReadyH.cons (o := ⟨some 6, .alloc 36, 0, "law.go:285", #[], none⟩) rfl (fun K hK => ?_) ?_
          · (go_simp; first | (have HMC0 := HMC; replace HMC := Lib.hid (And.intro HMC0.out.1 (HMC0.out.2.on ((Below.refl _ _).alloc (Nat.le_refl _) (.cells #[.int .i64 0, .int .i64 0, .int .i64 0, .int .i64 0, .int .i64 0, .slice none 0 0, .slice none 0 0, .slice none 0 0] 36)))); clear HMC0; have HLE6 := Lib.hid HBc.out.size; have HA6 := Lib.hid (heap_alloc_new w3 (.cells #[.int .i64 0, .int .i64 0, .int .i64 0, .int .i64 0, .int .i64 0, .slice none 0 0, .slice none 0 0, .slice none 0 0] 36)); replace HBc := Lib.hid (HBc.out.alloc HBc.out.size (.cells #[.int .i64 0, .int .i64 0, .int .i64 0, .int .i64 0, .int .i64 0, .slice none 0 0, .slice none 0 0, .slice none 0 0] 36))) | (have HMD0 := HMD; clear HMD0; have HLE6 := Lib.hid HBc.out.size; have HA6 := Lib.hid (heap_alloc_new w2 (.cells #[.int .i64 0, .int .i64 0, .int .i64 0, .int .i64 0, .int .i64 0, .slice none 0 0, .slice none 0 0, .slice none 0 0] 36)); replace HBc := Lib.hid (HBc.out.alloc HBc.out.size (.cells #[.int .i64 0, .int .i64 0, .int .i64 0, .int .i64 0, .int .i64 0, .slice none 0 0, .slice none 0 0, .slice none 0 0] 36))) | (have HLE6 := Lib.hid HBc.out.size; have HA6 := Lib.hid (heap_alloc_new w1.drew (.cells #[.int .i64 0, .int .i64 0, .int .i64 0, .int .i64 0, .int .i64 0, .slice none 0 0, .slice none 0 0, .slice none 0 0] 36)); replace HBc := Lib.hid (HBc.out.alloc HBc.out.size (.cells #[.int .i64 0, .int .i64 0, .int .i64 0, .int .i64 0, .int .i64 0, .slice none 0 0, .slice none 0 0, .slice none 0 0] 36))))
            refine hK.out _ _ ?_ (fun hHeld => ?_)
            · (try dsimp only); exact HTS.out _ HBc.out
            clear hK K
            try simp only [pe]
            refine wpAnyH_ready (rs := [15]) (by kernel_rfl) (by simp) ?_
            refine AllReadyH.cons (o := ⟨none, .store 36 (.tmp 6) (.tmp 30), 0, "law.go:285", #[⟨14, .data⟩, ⟨13, .data⟩, ⟨13, .chain⟩, ⟨0, .phase⟩, ⟨1, .phase⟩, ⟨2, .phase⟩, ⟨3, .phase⟩, ⟨4, .phase⟩, ⟨5, .phase⟩, ⟨6, .phase⟩, ⟨7, .phase⟩, ⟨8, .phase⟩, ⟨9, .phase⟩, ⟨10, .phase⟩, ⟨11, .phase⟩, ⟨12, .phase⟩, ⟨13, .phase⟩, ⟨14, .phase⟩], none⟩) rfl (fun K hK => ?_) ?_
            · (refine step_store_mid rfl 36 (.tmp 6) (.tmp 30) rfl _ 0 #[.int .i64 (C.n 0), .int .i64 (C.n 1), .int .i64 (C.n 2), .int .i64 (C.n 3), .int .i64 (C.n 4), .slice ca.a1 C.q.length ca.c1, .slice ca.a2 C.l.length ca.c2, .slice ca.a3 C.b.length ca.c3] (by kernel_rfl) (by kernel_rfl) (there8 HA6.out) (by kernel_rfl) (cd_one C ca) ?_)
              refine hK.out _ _ ?_ (fun hHeld => ?_)
              · exact HTS.out _ ((((((((HBc.out.setCell HLE6.out _).setCell HLE6.out _).setCell HLE6.out _).setCell HLE6.out _).setCell HLE6.out _).setCell HLE6.out _).setCell HLE6.out _).setCell HLE6.out _)
              clear hK K
              try simp only [pe]
              refine wpAnyH_done (by kernel_rfl) ?_ _
              go_wp2
              go_meet
              exact ⟨_, C, ca, _, rfl, rfl, Lib.hid (box8 (.int .i64 (C.n 0)) (.int .i64 (C.n 1)) (.int .i64 (C.n 2)) (.int .i64 (C.n 3)) (.int .i64 (C.n 4)) (.slice ca.a1 C.q.length ca.c1) (.slice ca.a2 C.l.length ca.c2) (.slice ca.a3 C.b.length ca.c3) HA6.out), Lib.hid ⟨HMC.out.1, HMC.out.2.k (k36_store HA6.out _ _ _ _ _ _ _ _)⟩, Lib.hid (HB1.out.trans (((((((((HBc.out.setCell HLE6.out _).setCell HLE6.out _).setCell HLE6.out _).setCell HLE6.out _).setCell HLE6.out _).setCell HLE6.out _).setCell HLE6.out _).setCell HLE6.out _).mono HB1.out.size))⟩
            exact AllReadyH.nil
          exact AllReadyH.nil
        refine AllReadyH.cons (o := ⟨some 6, .alloc 36, 0, "law.go:285", #[], none⟩) rfl (fun K hK => ?_) ?_
        · (go_simp; first | (have HMC0 := HMC; replace HMC := Lib.hid (And.intro HMC0.out.1 (HMC0.out.2.on ((Below.refl _ _).alloc (Nat.le_refl _) (.cells #[.int .i64 0, .int .i64 0, .int .i64 0, .int .i64 0, .int .i64 0, .slice none 0 0, .slice none 0 0, .slice none 0 0] 36)))); clear HMC0; have HLE6 := Lib.hid HBc.out.size; have HA6 := Lib.hid (heap_alloc_new w3 (.cells #[.int .i64 0, .int .i64 0, .int .i64 0, .int .i64 0, .int .i64 0, .slice none 0 0, .slice none 0 0, .slice none 0 0] 36)); replace HBc := Lib.hid (HBc.out.alloc HBc.out.size (.cells #[.int .i64 0, .int .i64 0, .int .i64 0, .int .i64 0, .int .i64 0, .slice none 0 0, .slice none 0 0, .slice none 0 0] 36))) | (have HMD0 := HMD; clear HMD0; have HLE6 := Lib.hid HBc.out.size; have HA6 := Lib.hid (heap_alloc_new w2 (.cells #[.int .i64 0, .int .i64 0, .int .i64 0, .int .i64 0, .int .i64 0, .slice none 0 0, .slice none 0 0, .slice none 0 0] 36)); replace HBc := Lib.hid (HBc.out.alloc HBc.out.size (.cells #[.int .i64 0, .int .i64 0, .int .i64 0, .int .i64 0, .int .i64 0, .slice none 0 0, .slice none 0 0, .slice none 0 0] 36))) | (have HLE6 := Lib.hid HBc.out.size; have HA6 := Lib.hid (heap_alloc_new w1.drew (.cells #[.int .i64 0, .int .i64 0, .int .i64 0, .int .i64 0, .int .i64 0, .slice none 0 0, .slice none 0 0, .slice none 0 0] 36)); replace HBc := Lib.hid (HBc.out.alloc HBc.out.size (.cells #[.int .i64 0, .int .i64 0, .int .i64 0, .int .i64 0, .int .i64 0, .slice none 0 0, .slice none 0 0, .slice none 0 0] 36))))
          refine hK.out _ _ ?_ (fun hHeld => ?_)
          · (try dsimp only); exact HTS.out _ HBc.out
          clear hK K
          try simp only [pe]
          refine wpAnyH_ready (rs := [13]) (by kernel_rfl) (by simp) ?_
          refine AllReadyH.cons (o := ⟨some 30, .call { callee := .value (.func 13), args := #[.tmp 18, .tmp 29], argTypes := #[36, 29] }, 36, "law.go:285", #[⟨1, .data⟩, ⟨12, .data⟩, ⟨1, .chain⟩], none⟩) rfl (fun K hK => ?_) ?_
          · (go_simp; go_at_call 13; refine (HCH.out 12 _ D da _ (by decide) (by first | exact HMD.out | exact ⟨HMD.out.1, HMD.out.2.on ((Below.refl _ _).alloc (Nat.le_refl _) _)⟩)).mono ?_; rintro e w3 ⟨C, ca, rfl, hmc, hbx⟩; have HMC := Lib.hid hmc; clear hmc; replace HBc := Lib.hid (HBc.out.trans (hbx.mono HBc.out.size)); try replace HA6 := Lib.hid ((hbx.block _ (Array.getElem?_eq_some_iff.1 HA6.out).1).trans HA6.out); clear hbx; unfold cdval; try go_wp2_with fail)
            refine hK.out _ _ ?_ (fun hHeld => ?_)
            · (try dsimp only); exact HTS.out _ HBc.out
            clear hK K
            try simp only [pe]
            refine wpAnyH_ready (rs := [15]) (by kernel_rfl) (by simp) ?_
            refine AllReadyH.cons (o := ⟨none, .store 36 (.tmp 6) (.tmp 30), 0, "law.go:285", #[⟨14, .data⟩, ⟨13, .data⟩, ⟨13, .chain⟩, ⟨0, .phase⟩, ⟨1, .phase⟩, ⟨2, .phase⟩, ⟨3, .phase⟩, ⟨4, .phase⟩, ⟨5, .phase⟩, ⟨6, .phase⟩, ⟨7, .phase⟩, ⟨8, .phase⟩, ⟨9, .phase⟩, ⟨10, .phase⟩, ⟨11, .phase⟩, ⟨12, .phase⟩, ⟨13, .phase⟩, ⟨14, .phase⟩], none⟩) rfl (fun K hK => ?_) ?_
            · (refine step_store_mid rfl 36 (.tmp 6) (.tmp 30) rfl _ 0 #[.int .i64 (C.n 0), .int .i64 (C.n 1), .int .i64 (C.n 2), .int .i64 (C.n 3), .int .i64 (C.n 4), .slice ca.a1 C.q.length ca.c1, .slice ca.a2 C.l.length ca.c2, .slice ca.a3 C.b.length ca.c3] (by kernel_rfl) (by kernel_rfl) (there8 HA6.out) (by kernel_rfl) (cd_one C ca) ?_)
              refine hK.out _ _ ?_ (fun hHeld => ?_)
              · exact HTS.out _ ((((((((HBc.out.setCell HLE6.out _).setCell HLE6.out _).setCell HLE6.out _).setCell HLE6.out _).setCell HLE6.out _).setCell HLE6.out _).setCell HLE6.out _).setCell HLE6.out _)
              clear hK K
              try simp only [pe]
              refine wpAnyH_done (by kernel_rfl) ?_ _
              go_wp2
              go_meet
              exact ⟨_, C, ca, _, rfl, rfl, Lib.hid (box8 (.int .i64 (C.n 0)) (.int .i64 (C.n 1)) (.int .i64 (C.n 2)) (.int .i64 (C.n 3)) (.int .i64 (C.n 4)) (.slice ca.a1 C.q.length ca.c1) (.slice ca.a2 C.l.length ca.c2) (.slice ca.a3 C.b.length ca.c3) HA6.out), Lib.hid ⟨HMC.out.1, HMC.out.2.k (k36_store HA6.out _ _ _ _ _ _ _ _)⟩, Lib.hid (HB1.out.trans (((((((((HBc.out.setCell HLE6.out _).setCell HLE6.out _).setCell HLE6.out _).setCell HLE6.out _).setCell HLE6.out _).setCell HLE6.out _).setCell HLE6.out _).setCell HLE6.out _).mono HB1.out.size))⟩
            exact AllReadyH.nil
          exact AllReadyH.nil
        exact AllReadyH.nil
      refine AllReadyH.cons (o := ⟨some 6, .alloc 36, 0, "law.go:285", #[], none⟩) rfl (fun K hK => ?_) ?_
      · (go_simp; first | (have HMC0 := HMC; replace HMC := Lib.hid (And.intro HMC0.out.1 (HMC0.out.2.on ((Below.refl _ _).alloc (Nat.le_refl _) (.cells #[.int .i64 0, .int .i64 0, .int .i64 0, .int .i64 0, .int .i64 0, .slice none 0 0, .slice none 0 0, .slice none 0 0] 36)))); clear HMC0; have HLE6 := Lib.hid HBc.out.size; have HA6 := Lib.hid (heap_alloc_new w3 (.cells #[.int .i64 0, .int .i64 0, .int .i64 0, .int .i64 0, .int .i64 0, .slice none 0 0, .slice none 0 0, .slice none 0 0] 36)); replace HBc := Lib.hid (HBc.out.alloc HBc.out.size (.cells #[.int .i64 0, .int .i64 0, .int .i64 0, .int .i64 0, .int .i64 0, .slice none 0 0, .slice none 0 0, .slice none 0 0] 36))) | (have HMD0 := HMD; clear HMD0; have HLE6 := Lib.hid HBc.out.size; have HA6 := Lib.hid (heap_alloc_new w2 (.cells #[.int .i64 0, .int .i64 0, .int .i64 0, .int .i64 0, .int .i64 0, .slice none 0 0, .slice none 0 0, .slice none 0 0] 36)); replace HBc := Lib.hid (HBc.out.alloc HBc.out.size (.cells #[.int .i64 0, .int .i64 0, .int .i64 0, .int .i64 0, .int .i64 0, .slice none 0 0, .slice none 0 0, .slice none 0 0] 36))) | (have HLE6 := Lib.hid HBc.out.size; have HA6 := Lib.hid (heap_alloc_new w1.drew (.cells #[.int .i64 0, .int .i64 0, .int .i64 0, .int .i64 0, .int .i64 0, .slice none 0 0, .slice none 0 0, .slice none 0 0] 36)); replace HBc := Lib.hid (HBc.out.alloc HBc.out.size (.cells #[.int .i64 0, .int .i64 0, .int .i64 0, .int .i64 0, .int .i64 0, .slice none 0 0, .slice none 0 0, .slice none 0 0] 36))))
        refine hK.out _ _ ?_ (fun hHeld => ?_)
        · (try dsimp only); exact HTS.out _ HBc.out
        clear hK K
        try simp only [pe]
        refine wpAnyH_ready (rs := [1]) (by kernel_rfl) (by simp) ?_
        refine AllReadyH.cons (o := ⟨some 18, .call { callee := .value (.func 34), args := #[.tmp 17], argTypes := #[24] }, 36, "law.go:285", #[⟨0, .data⟩], none⟩) rfl (fun K hK => ?_) ?_
        · (go_simp; go_at_call 34; refine (HM.out _ (HB1.out.trans (HBc.out.mono HB1.out.size))).mono ?_; rintro e w2 ⟨D, da, rfl, hmd, hbx⟩; have HMD := Lib.hid hmd; clear hmd; replace HBc := Lib.hid (HBc.out.trans (hbx.mono HBc.out.size)); try replace HA6 := Lib.hid ((hbx.block _ (Array.getElem?_eq_some_iff.1 HA6.out).1).trans HA6.out); clear hbx; try go_wp2_with fail)
          refine hK.out _ _ ?_ (fun hHeld => ?_)
          · (try dsimp only); exact HTS.out _ HBc.out
          clear hK K
          try simp only [pe]
          refine wpAnyH_ready (rs := [13]) (by kernel_rfl) (by simp) ?_
          refine AllReadyH.cons (o := ⟨some 30, .call { callee := .value (.func 13), args := #[.tmp 18, .tmp 29], argTypes := #[36, 29] }, 36, "law.go:285", #[⟨1, .data⟩, ⟨12, .data⟩, ⟨1, .chain⟩], none⟩) rfl (fun K hK => ?_) ?_
          · (go_simp; go_at_call 13; refine (HCH.out 12 _ D da _ (by decide) (by first | exact HMD.out | exact ⟨HMD.out.1, HMD.out.2.on ((Below.refl _ _).alloc (Nat.le_refl _) _)⟩)).mono ?_; rintro e w3 ⟨C, ca, rfl, hmc, hbx⟩; have HMC := Lib.hid hmc; clear hmc; replace HBc := Lib.hid (HBc.out.trans (hbx.mono HBc.out.size)); try replace HA6 := Lib.hid ((hbx.block _ (Array.getElem?_eq_some_iff.1 HA6.out).1).trans HA6.out); clear hbx; unfold cdval; try go_wp2_with fail)
            refine hK.out _ _ ?_ (fun hHeld => ?_)
            · (try dsimp only); exact HTS.out _ HBc.out
            clear hK K
            try simp only [pe]
            refine wpAnyH_ready (rs := [15]) (by kernel_rfl) (by simp) ?_
            refine AllReadyH.cons (o := ⟨none, .store 36 (.tmp 6) (.tmp 30), 0, "law.go:285", #[⟨14, .data⟩, ⟨13, .data⟩, ⟨13, .chain⟩, ⟨0, .phase⟩, ⟨1, .phase⟩, ⟨2, .phase⟩, ⟨3, .phase⟩, ⟨4, .phase⟩, ⟨5, .phase⟩, ⟨6, .phase⟩, ⟨7, .phase⟩, ⟨8, .phase⟩, ⟨9, .phase⟩, ⟨10, .phase⟩, ⟨11, .phase⟩, ⟨12, .phase⟩, ⟨13, .phase⟩, ⟨14, .phase⟩], none⟩) rfl (fun K hK => ?_) ?_
            · (refine step_store_mid rfl 36 (.tmp 6) (.tmp 30) rfl _ 0 #[.int .i64 (C.n 0), .int .i64 (C.n 1), .int .i64 (C.n 2), .int .i64 (C.n 3), .int .i64 (C.n 4), .slice ca.a1 C.q.length ca.c1, .slice ca.a2 C.l.length ca.c2, .slice ca.a3 C.b.length ca.c3] (by kernel_rfl) (by kernel_rfl) (there8 HA6.out) (by kernel_rfl) (cd_one C ca) ?_)
              refine hK.out _ _ ?_ (fun hHeld => ?_)
              · exact HTS.out _ ((((((((HBc.out.setCell HLE6.out _).setCell HLE6.out _).setCell HLE6.out _).setCell HLE6.out _).setCell HLE6.out _).setCell HLE6.out _).setCell HLE6.out _).setCell HLE6.out _)
              clear hK K
              try simp only [pe]
              refine wpAnyH_done (by kernel_rfl) ?_ _
              go_wp2
              go_meet
              exact ⟨_, C, ca, _, rfl, rfl, Lib.hid (box8 (.int .i64 (C.n 0)) (.int .i64 (C.n 1)) (.int .i64 (C.n 2)) (.int .i64 (C.n 3)) (.int .i64 (C.n 4)) (.slice ca.a1 C.q.length ca.c1) (.slice ca.a2 C.l.length ca.c2) (.slice ca.a3 C.b.length ca.c3) HA6.out), Lib.hid ⟨HMC.out.1, HMC.out.2.k (k36_store HA6.out _ _ _ _ _ _ _ _)⟩, Lib.hid (HB1.out.trans (((((((((HBc.out.setCell HLE6.out _).setCell HLE6.out _).setCell HLE6.out _).setCell HLE6.out _).setCell HLE6.out _).setCell HLE6.out _).setCell HLE6.out _).setCell HLE6.out _).mono HB1.out.size))⟩
            exact AllReadyH.nil
          exact AllReadyH.nil
        exact AllReadyH.nil
      exact AllReadyH.nil
    · refine wp_region_held_drew (S := (fun w' => w'.cell? ⟨w.heap.size, 0, none⟩ = some (.slice A nx cx) ∧ w'.cell? ⟨w.heap.size + 1, 0, none⟩ = some (.int .u8 pt) ∧ w'.cell? ⟨w.heap.size + 1, 1, none⟩ = some (.int .u8 a0) ∧ w'.cell? ⟨w.heap.size + 1, 2, none⟩ = some (.int .u8 a1) ∧ w'.cell? ⟨w.heap.size + 1, 3, none⟩ = some (.int .i64 y) ∧ w'.cell? ⟨w.heap.size + 1, 4, none⟩ = some (.string nm) ∧ w'.cell? ⟨w.heap.size + 1, 5, none⟩ = some (.int .i64 ok) ∧ w'.cell? ⟨w.heap.size + 1, 6, none⟩ = some (.int .i64 on) ∧ w'.cell? ⟨w.heap.size + 1, 7, none⟩ = some (.int .i32 ov))) (by kernel_rfl) ?_ (fun hHeld => ?_)
      · (try dsimp only); exact HTS.out _ HBc.out
      refine tk 0 ⟨some 17, .load 24 (.tmp 2), 24, "law.go:285", #[], none⟩ (v := ?_) ?_ (by assumption) ?_
      rotate_left
      · (intro w hSw; (try dsimp only at hSw); go_simp; (try with_reducible rfl))
      try simp only [pe]
      refine tk 2 ⟨some 19, .fieldAddr 29 (.tmp 3) 0, 0, "law.go:285", #[], none⟩ (v := ?_) ?_ (by assumption) ?_
      rotate_left
      · (intro w hSw; (try dsimp only at hSw); go_simp; (try with_reducible rfl))
      try simp only [pe]
      refine tk 3 ⟨some 20, .load 5 (.tmp 19), 5, "law.go:285", #[⟨2, .data⟩], none⟩ (v := ?_) ?_ (by assumption) ?_
      rotate_left
      · (intro w hSw; (try dsimp only at hSw); go_simp; (try with_reducible rfl))
      try simp only [pe]
      refine tk 4 ⟨some 21, .binOp .rem 5 (.tmp 20) (.const (.int .u8 2)) 5, 5, "law.go:285", #[⟨3, .data⟩], none⟩ (v := ?_) ?_ (by assumption) ?_
      rotate_left
      · (intro w hSw; (try dsimp only at hSw); go_simp; (try with_reducible rfl))
      try simp only [pe]
      refine tk 5 ⟨some 22, .binOp .mul 5 (.const (.int .u8 80)) (.tmp 21) 5, 5, "law.go:285", #[⟨4, .data⟩], none⟩ (v := ?_) ?_ (by assumption) ?_
      rotate_left
      · (intro w hSw; (try dsimp only at hSw); go_simp; (try with_reducible rfl))
      try simp only [pe]
      refine tk 6 ⟨some 23, .binOp .add 5 (.const (.int .u8 12)) (.tmp 22) 5, 5, "law.go:285", #[⟨5, .data⟩], none⟩ (v := ?_) ?_ (by assumption) ?_
      rotate_left
      · (intro w hSw; (try dsimp only at hSw); go_simp; (try with_reducible rfl))
      try simp only [pe]
      refine tk 7 ⟨some 24, .fieldAddr 29 (.tmp 3) 1, 0, "law.go:285", #[], none⟩ (v := ?_) ?_ (by assumption) ?_
      rotate_left
      · (intro w hSw; (try dsimp only at hSw); go_simp; (try with_reducible rfl))
      try simp only [pe]
      refine tk 8 ⟨some 25, .load 25 (.tmp 24), 25, "law.go:285", #[⟨7, .data⟩], none⟩ (v := ?_) ?_ (by assumption) ?_
      rotate_left
      · (intro w hSw; (try dsimp only at hSw); go_simp; (try with_reducible rfl))
      try simp only [pe]
      refine tk 9 ⟨some 26, .fieldAddr 29 (.tmp 3) 2, 0, "law.go:285", #[], none⟩ (v := ?_) ?_ (by assumption) ?_
      rotate_left
      · (intro w hSw; (try dsimp only at hSw); go_simp; (try with_reducible rfl))
      try simp only [pe]
      refine tk 10 ⟨some 27, .load 3 (.tmp 26), 3, "law.go:285", #[⟨9, .data⟩], none⟩ (v := ?_) ?_ (by assumption) ?_
      rotate_left
      · (intro w hSw; (try dsimp only at hSw); go_simp; (try with_reducible rfl))
      try simp only [pe]
      refine tk 11 ⟨some 28, .binOp .and 3 (.tmp 27) (.const (.int .i64 15)) 3, 3, "law.go:285", #[⟨10, .data⟩], none⟩ (v := ?_) ?_ (by assumption) ?_
      rotate_left
      · (intro w hSw; (try dsimp only at hSw); go_simp; (try with_reducible rfl))
      try simp only [pe]
      refine tk 12 ⟨some 29, .build 29 #[(0, .tmp 23), (1, .tmp 25), (2, .tmp 28)], 29, "law.go:285", #[⟨6, .data⟩, ⟨8, .data⟩, ⟨11, .data⟩], none⟩ (v := ?_) ?_ (by assumption) ?_
      rotate_left
      · (intro w hSw; (try dsimp only at hSw); go_simp; (try with_reducible rfl))
      try simp only [pe]
      refine wpAnyH_ready (rs := [1, 14]) (by kernel_rfl) (by simp) ?_
      refine AllReadyH.cons (o := ⟨some 18, .call { callee := .value (.func 34), args := #[.tmp 17], argTypes := #[24] }, 36, "law.go:285", #[⟨0, .data⟩], none⟩) rfl (fun K hK => ?_) ?_
      · (go_simp; go_at_call 34; refine (HM.out _ (HB1.out.trans (HBc.out.mono HB1.out.size))).mono ?_; rintro e w2 ⟨D, da, rfl, hmd, hbx⟩; have HMD := Lib.hid hmd; clear hmd; replace HBc := Lib.hid (HBc.out.trans (hbx.mono HBc.out.size)); try replace HA6 := Lib.hid ((hbx.block _ (Array.getElem?_eq_some_iff.1 HA6.out).1).trans HA6.out); clear hbx; try go_wp2_with fail)
        refine hK.out _ _ ?_ (fun hHeld => ?_)
        · (try dsimp only); exact HTS.out _ HBc.out
        clear hK K
        try simp only [pe]
        refine wpAnyH_ready (rs := [13, 14]) (by kernel_rfl) (by simp) ?_
        refine AllReadyH.cons (o := ⟨some 30, .call { callee := .value (.func 13), args := #[.tmp 18, .tmp 29], argTypes := #[36, 29] }, 36, "law.go:285", #[⟨1, .data⟩, ⟨12, .data⟩, ⟨1, .chain⟩], none⟩) rfl (fun K hK => ?_) ?_
        · (go_simp; go_at_call 13; refine (HCH.out 92 _ D da _ (by decide) (by first | exact HMD.out | exact ⟨HMD.out.1, HMD.out.2.on ((Below.refl _ _).alloc (Nat.le_refl _) _)⟩)).mono ?_; rintro e w3 ⟨C, ca, rfl, hmc, hbx⟩; have HMC := Lib.hid hmc; clear hmc; replace HBc := Lib.hid (HBc.out.trans (hbx.mono HBc.out.size)); try replace HA6 := Lib.hid ((hbx.block _ (Array.getElem?_eq_some_iff.1 HA6.out).1).trans HA6.out); clear hbx; unfold cdval; try go_wp2_with fail)
          refine hK.out _ _ ?_ (fun hHeld => ?_)
          · (try dsimp only); exact HTS.out _ HBc.out
          clear hK K
          try simp only [pe]
          refine wpAnyH_ready (rs := [14]) (by kernel_rfl) (by simp) ?_
          refine AllReadyH.cons (o := ⟨some 6, .alloc 36, 0, "law.go:285", #[], none⟩) rfl (fun K hK => ?_) ?_
          · (go_simp; first | (have HMC0 := HMC; replace HMC := Lib.hid (And.intro HMC0.out.1 (HMC0.out.2.on ((Below.refl _ _).alloc (Nat.le_refl _) (.cells #[.int .i64 0, .int .i64 0, .int .i64 0, .int .i64 0, .int .i64 0, .slice none 0 0, .slice none 0 0, .slice none 0 0] 36)))); clear HMC0; have HLE6 := Lib.hid HBc.out.size; have HA6 := Lib.hid (heap_alloc_new w3 (.cells #[.int .i64 0, .int .i64 0, .int .i64 0, .int .i64 0, .int .i64 0, .slice none 0 0, .slice none 0 0, .slice none 0 0] 36)); replace HBc := Lib.hid (HBc.out.alloc HBc.out.size (.cells #[.int .i64 0, .int .i64 0, .int .i64 0, .int .i64 0, .int .i64 0, .slice none 0 0, .slice none 0 0, .slice none 0 0] 36))) | (have HMD0 := HMD; clear HMD0; have HLE6 := Lib.hid HBc.out.size; have HA6 := Lib.hid (heap_alloc_new w2 (.cells #[.int .i64 0, .int .i64 0, .int .i64 0, .int .i64 0, .int .i64 0, .slice none 0 0, .slice none 0 0, .slice none 0 0] 36)); replace HBc := Lib.hid (HBc.out.alloc HBc.out.size (.cells #[.int .i64 0, .int .i64 0, .int .i64 0, .int .i64 0, .int .i64 0, .slice none 0 0, .slice none 0 0, .slice none 0 0] 36))) | (have HLE6 := Lib.hid HBc.out.size; have HA6 := Lib.hid (heap_alloc_new w1.drew (.cells #[.int .i64 0, .int .i64 0, .int .i64 0, .int .i64 0, .int .i64 0, .slice none 0 0, .slice none 0 0, .slice none 0 0] 36)); replace HBc := Lib.hid (HBc.out.alloc HBc.out.size (.cells #[.int .i64 0, .int .i64 0, .int .i64 0, .int .i64 0, .int .i64 0, .slice none 0 0, .slice none 0 0, .slice none 0 0] 36))))
            refine hK.out _ _ ?_ (fun hHeld => ?_)
            · (try dsimp only); exact HTS.out _ HBc.out
            clear hK K
            try simp only [pe]
            refine wpAnyH_ready (rs := [15]) (by kernel_rfl) (by simp) ?_
            refine AllReadyH.cons (o := ⟨none, .store 36 (.tmp 6) (.tmp 30), 0, "law.go:285", #[⟨14, .data⟩, ⟨13, .data⟩, ⟨13, .chain⟩, ⟨0, .phase⟩, ⟨1, .phase⟩, ⟨2, .phase⟩, ⟨3, .phase⟩, ⟨4, .phase⟩, ⟨5, .phase⟩, ⟨6, .phase⟩, ⟨7, .phase⟩, ⟨8, .phase⟩, ⟨9, .phase⟩, ⟨10, .phase⟩, ⟨11, .phase⟩, ⟨12, .phase⟩, ⟨13, .phase⟩, ⟨14, .phase⟩], none⟩) rfl (fun K hK => ?_) ?_
            · (refine step_store_mid rfl 36 (.tmp 6) (.tmp 30) rfl _ 0 #[.int .i64 (C.n 0), .int .i64 (C.n 1), .int .i64 (C.n 2), .int .i64 (C.n 3), .int .i64 (C.n 4), .slice ca.a1 C.q.length ca.c1, .slice ca.a2 C.l.length ca.c2, .slice ca.a3 C.b.length ca.c3] (by kernel_rfl) (by kernel_rfl) (there8 HA6.out) (by kernel_rfl) (cd_one C ca) ?_)
              refine hK.out _ _ ?_ (fun hHeld => ?_)
              · exact HTS.out _ ((((((((HBc.out.setCell HLE6.out _).setCell HLE6.out _).setCell HLE6.out _).setCell HLE6.out _).setCell HLE6.out _).setCell HLE6.out _).setCell HLE6.out _).setCell HLE6.out _)
              clear hK K
              try simp only [pe]
              refine wpAnyH_done (by kernel_rfl) ?_ _
              go_wp2
              go_meet
              exact ⟨_, C, ca, _, rfl, rfl, Lib.hid (box8 (.int .i64 (C.n 0)) (.int .i64 (C.n 1)) (.int .i64 (C.n 2)) (.int .i64 (C.n 3)) (.int .i64 (C.n 4)) (.slice ca.a1 C.q.length ca.c1) (.slice ca.a2 C.l.length ca.c2) (.slice ca.a3 C.b.length ca.c3) HA6.out), Lib.hid ⟨HMC.out.1, HMC.out.2.k (k36_store HA6.out _ _ _ _ _ _ _ _)⟩, Lib.hid (HB1.out.trans (((((((((HBc.out.setCell HLE6.out _).setCell HLE6.out _).setCell HLE6.out _).setCell HLE6.out _).setCell HLE6.out _).setCell HLE6.out _).setCell HLE6.out _).setCell HLE6.out _).mono HB1.out.size))⟩
            exact AllReadyH.nil
          exact AllReadyH.nil
        refine AllReadyH.cons (o := ⟨some 6, .alloc 36, 0, "law.go:285", #[], none⟩) rfl (fun K hK => ?_) ?_
        · (go_simp; first | (have HMC0 := HMC; replace HMC := Lib.hid (And.intro HMC0.out.1 (HMC0.out.2.on ((Below.refl _ _).alloc (Nat.le_refl _) (.cells #[.int .i64 0, .int .i64 0, .int .i64 0, .int .i64 0, .int .i64 0, .slice none 0 0, .slice none 0 0, .slice none 0 0] 36)))); clear HMC0; have HLE6 := Lib.hid HBc.out.size; have HA6 := Lib.hid (heap_alloc_new w3 (.cells #[.int .i64 0, .int .i64 0, .int .i64 0, .int .i64 0, .int .i64 0, .slice none 0 0, .slice none 0 0, .slice none 0 0] 36)); replace HBc := Lib.hid (HBc.out.alloc HBc.out.size (.cells #[.int .i64 0, .int .i64 0, .int .i64 0, .int .i64 0, .int .i64 0, .slice none 0 0, .slice none 0 0, .slice none 0 0] 36))) | (have HMD0 := HMD; clear HMD0; have HLE6 := Lib.hid HBc.out.size; have HA6 := Lib.hid (heap_alloc_new w2 (.cells #[.int .i64 0, .int .i64 0, .int .i64 0, .int .i64 0, .int .i64 0, .slice none 0 0, .slice none 0 0, .slice none 0 0] 36)); replace HBc := Lib.hid (HBc.out.alloc HBc.out.size (.cells #[.int .i64 0, .int .i64 0, .int .i64 0, .int .i64 0, .int .i64 0, .slice none 0 0, .slice none 0 0, .slice none 0 0] 36))) | (have HLE6 := Lib.hid HBc.out.size; have HA6 := Lib.hid (heap_alloc_new w1.drew (.cells #[.int .i64 0, .int .i64 0, .int .i64 0, .int .i64 0, .int .i64 0, .slice none 0 0, .slice none 0 0, .slice none 0 0] 36)); replace HBc := Lib.hid (HBc.out.alloc HBc.out.size (.cells #[.int .i64 0, .int .i64 0, .int .i64 0, .int .i64 0, .int .i64 0, .slice none 0 0, .slice none 0 0, .slice none 0 0] 36))))
          refine hK.out _ _ ?_ (fun hHeld => ?_)
          · (try dsimp only); exact HTS.out _ HBc.out
          clear hK K
          try simp only [pe]
          refine wpAnyH_ready (rs := [13]) (by kernel_rfl) (by simp) ?_
          refine AllReadyH.cons (o := ⟨some 30, .call { callee := .value (.func 13), args := #[.tmp 18, .tmp 29], argTypes := #[36, 29] }, 36, "law.go:285", #[⟨1, .data⟩, ⟨12, .data⟩, ⟨1, .chain⟩], none⟩) rfl (fun K hK => ?_) ?_
          · (go_simp; go_at_call 13; refine (HCH.out 92 _ D da _ (by decide) (by first | exact HMD.out | exact ⟨HMD.out.1, HMD.out.2.on ((Below.refl _ _).alloc (Nat.le_refl _) _)⟩)).mono ?_; rintro e w3 ⟨C, ca, rfl, hmc, hbx⟩; have HMC := Lib.hid hmc; clear hmc; replace HBc := Lib.hid (HBc.out.trans (hbx.mono HBc.out.size)); try replace HA6 := Lib.hid ((hbx.block _ (Array.getElem?_eq_some_iff.1 HA6.out).1).trans HA6.out); clear hbx; unfold cdval; try go_wp2_with fail)
            refine hK.out _ _ ?_ (fun hHeld => ?_)
            · (try dsimp only); exact HTS.out _ HBc.out
            clear hK K
            try simp only [pe]
            refine wpAnyH_ready (rs := [15]) (by kernel_rfl) (by simp) ?_
            refine AllReadyH.cons (o := ⟨none, .store 36 (.tmp 6) (.tmp 30), 0, "law.go:285", #[⟨14, .data⟩, ⟨13, .data⟩, ⟨13, .chain⟩, ⟨0, .phase⟩, ⟨1, .phase⟩, ⟨2, .phase⟩, ⟨3, .phase⟩, ⟨4, .phase⟩, ⟨5, .phase⟩, ⟨6, .phase⟩, ⟨7, .phase⟩, ⟨8, .phase⟩, ⟨9, .phase⟩, ⟨10, .phase⟩, ⟨11, .phase⟩, ⟨12, .phase⟩, ⟨13, .phase⟩, ⟨14, .phase⟩], none⟩) rfl (fun K hK => ?_) ?_
            · (refine step_store_mid rfl 36 (.tmp 6) (.tmp 30) rfl _ 0 #[.int .i64 (C.n 0), .int .i64 (C.n 1), .int .i64 (C.n 2), .int .i64 (C.n 3), .int .i64 (C.n 4), .slice ca.a1 C.q.length ca.c1, .slice ca.a2 C.l.length ca.c2, .slice ca.a3 C.b.length ca.c3] (by kernel_rfl) (by kernel_rfl) (there8 HA6.out) (by kernel_rfl) (cd_one C ca) ?_)
              refine hK.out _ _ ?_ (fun hHeld => ?_)
              · exact HTS.out _ ((((((((HBc.out.setCell HLE6.out _).setCell HLE6.out _).setCell HLE6.out _).setCell HLE6.out _).setCell HLE6.out _).setCell HLE6.out _).setCell HLE6.out _).setCell HLE6.out _)
              clear hK K
              try simp only [pe]
              refine wpAnyH_done (by kernel_rfl) ?_ _
              go_wp2
              go_meet
              exact ⟨_, C, ca, _, rfl, rfl, Lib.hid (box8 (.int .i64 (C.n 0)) (.int .i64 (C.n 1)) (.int .i64 (C.n 2)) (.int .i64 (C.n 3)) (.int .i64 (C.n 4)) (.slice ca.a1 C.q.length ca.c1) (.slice ca.a2 C.l.length ca.c2) (.slice ca.a3 C.b.length ca.c3) HA6.out), Lib.hid ⟨HMC.out.1, HMC.out.2.k (k36_store HA6.out _ _ _ _ _ _ _ _)⟩, Lib.hid (HB1.out.trans (((((((((HBc.out.setCell HLE6.out _).setCell HLE6.out _).setCell HLE6.out _).setCell HLE6.out _).setCell HLE6.out _).setCell HLE6.out _).setCell HLE6.out _).setCell HLE6.out _).mono HB1.out.size))⟩
            exact AllReadyH.nil
          exact AllReadyH.nil
        exact AllReadyH.nil
      refine AllReadyH.cons (o := ⟨some 6, .alloc 36, 0, "law.go:285", #[], none⟩) rfl (fun K hK => ?_) ?_
      · (go_simp; first | (have HMC0 := HMC; replace HMC := Lib.hid (And.intro HMC0.out.1 (HMC0.out.2.on ((Below.refl _ _).alloc (Nat.le_refl _) (.cells #[.int .i64 0, .int .i64 0, .int .i64 0, .int .i64 0, .int .i64 0, .slice none 0 0, .slice none 0 0, .slice none 0 0] 36)))); clear HMC0; have HLE6 := Lib.hid HBc.out.size; have HA6 := Lib.hid (heap_alloc_new w3 (.cells #[.int .i64 0, .int .i64 0, .int .i64 0, .int .i64 0, .int .i64 0, .slice none 0 0, .slice none 0 0, .slice none 0 0] 36)); replace HBc := Lib.hid (HBc.out.alloc HBc.out.size (.cells #[.int .i64 0, .int .i64 0, .int .i64 0, .int .i64 0, .int .i64 0, .slice none 0 0, .slice none 0 0, .slice none 0 0] 36))) | (have HMD0 := HMD; clear HMD0; have HLE6 := Lib.hid HBc.out.size; have HA6 := Lib.hid (heap_alloc_new w2 (.cells #[.int .i64 0, .int .i64 0, .int .i64 0, .int .i64 0, .int .i64 0, .slice none 0 0, .slice none 0 0, .slice none 0 0] 36)); replace HBc := Lib.hid (HBc.out.alloc HBc.out.size (.cells #[.int .i64 0, .int .i64 0, .int .i64 0, .int .i64 0, .int .i64 0, .slice none 0 0, .slice none 0 0, .slice none 0 0] 36))) | (have HLE6 := Lib.hid HBc.out.size; have HA6 := Lib.hid (heap_alloc_new w1.drew (.cells #[.int .i64 0, .int .i64 0, .int .i64 0, .int .i64 0, .int .i64 0, .slice none 0 0, .slice none 0 0, .slice none 0 0] 36)); replace HBc := Lib.hid (HBc.out.alloc HBc.out.size (.cells #[.int .i64 0, .int .i64 0, .int .i64 0, .int .i64 0, .int .i64 0, .slice none 0 0, .slice none 0 0, .slice none 0 0] 36))))
        refine hK.out _ _ ?_ (fun hHeld => ?_)
        · (try dsimp only); exact HTS.out _ HBc.out
        clear hK K
        try simp only [pe]
        refine wpAnyH_ready (rs := [1]) (by kernel_rfl) (by simp) ?_
        refine AllReadyH.cons (o := ⟨some 18, .call { callee := .value (.func 34), args := #[.tmp 17], argTypes := #[24] }, 36, "law.go:285", #[⟨0, .data⟩], none⟩) rfl (fun K hK => ?_) ?_
        · (go_simp; go_at_call 34; refine (HM.out _ (HB1.out.trans (HBc.out.mono HB1.out.size))).mono ?_; rintro e w2 ⟨D, da, rfl, hmd, hbx⟩; have HMD := Lib.hid hmd; clear hmd; replace HBc := Lib.hid (HBc.out.trans (hbx.mono HBc.out.size)); try replace HA6 := Lib.hid ((hbx.block _ (Array.getElem?_eq_some_iff.1 HA6.out).1).trans HA6.out); clear hbx; try go_wp2_with fail)
          refine hK.out _ _ ?_ (fun hHeld => ?_)
          · (try dsimp only); exact HTS.out _ HBc.out
          clear hK K
          try simp only [pe]
          refine wpAnyH_ready (rs := [13]) (by kernel_rfl) (by simp) ?_
          refine AllReadyH.cons (o := ⟨some 30, .call { callee := .value (.func 13), args := #[.tmp 18, .tmp 29], argTypes := #[36, 29] }, 36, "law.go:285", #[⟨1, .data⟩, ⟨12, .data⟩, ⟨1, .chain⟩], none⟩) rfl (fun K hK => ?_) ?_
          · (go_simp; go_at_call 13; refine (HCH.out 92 _ D da _ (by decide) (by first | exact HMD.out | exact ⟨HMD.out.1, HMD.out.2.on ((Below.refl _ _).alloc (Nat.le_refl _) _)⟩)).mono ?_; rintro e w3 ⟨C, ca, rfl, hmc, hbx⟩; have HMC := Lib.hid hmc; clear hmc; replace HBc := Lib.hid (HBc.out.trans (hbx.mono HBc.out.size)); try replace HA6 := Lib.hid ((hbx.block _ (Array.getElem?_eq_some_iff.1 HA6.out).1).trans HA6.out); clear hbx; unfold cdval; try go_wp2_with fail)
            refine hK.out _ _ ?_ (fun hHeld => ?_)
            · (try dsimp only); exact HTS.out _ HBc.out
            clear hK K
            try simp only [pe]
            refine wpAnyH_ready (rs := [15]) (by kernel_rfl) (by simp) ?_
            refine AllReadyH.cons (o := ⟨none, .store 36 (.tmp 6) (.tmp 30), 0, "law.go:285", #[⟨14, .data⟩, ⟨13, .data⟩, ⟨13, .chain⟩, ⟨0, .phase⟩, ⟨1, .phase⟩, ⟨2, .phase⟩, ⟨3, .phase⟩, ⟨4, .phase⟩, ⟨5, .phase⟩, ⟨6, .phase⟩, ⟨7, .phase⟩, ⟨8, .phase⟩, ⟨9, .phase⟩, ⟨10, .phase⟩, ⟨11, .phase⟩, ⟨12, .phase⟩, ⟨13, .phase⟩, ⟨14, .phase⟩], none⟩) rfl (fun K hK => ?_) ?_
            · (refine step_store_mid rfl 36 (.tmp 6) (.tmp 30) rfl _ 0 #[.int .i64 (C.n 0), .int .i64 (C.n 1), .int .i64 (C.n 2), .int .i64 (C.n 3), .int .i64 (C.n 4), .slice ca.a1 C.q.length ca.c1, .slice ca.a2 C.l.length ca.c2, .slice ca.a3 C.b.length ca.c3] (by kernel_rfl) (by kernel_rfl) (there8 HA6.out) (by kernel_rfl) (cd_one C ca) ?_)
              refine hK.out _ _ ?_ (fun hHeld => ?_)
              · exact HTS.out _ ((((((((HBc.out.setCell HLE6.out _).setCell HLE6.out _).setCell HLE6.out _).setCell HLE6.out _).setCell HLE6.out _).setCell HLE6.out _).setCell HLE6.out _).setCell HLE6.out _)
              clear hK K
              try simp only [pe]
              refine wpAnyH_done (by kernel_rfl) ?_ _
              go_wp2
              go_meet
              exact ⟨_, C, ca, _, rfl, rfl, Lib.hid (box8 (.int .i64 (C.n 0)) (.int .i64 (C.n 1)) (.int .i64 (C.n 2)) (.int .i64 (C.n 3)) (.int .i64 (C.n 4)) (.slice ca.a1 C.q.length ca.c1) (.slice ca.a2 C.l.length ca.c2) (.slice ca.a3 C.b.length ca.c3) HA6.out), Lib.hid ⟨HMC.out.1, HMC.out.2.k (k36_store HA6.out _ _ _ _ _ _ _ _)⟩, Lib.hid (HB1.out.trans (((((((((HBc.out.setCell HLE6.out _).setCell HLE6.out _).setCell HLE6.out _).setCell HLE6.out _).setCell HLE6.out _).setCell HLE6.out _).setCell HLE6.out _).setCell HLE6.out _).mono HB1.out.size))⟩
            exact AllReadyH.nil
          exact AllReadyH.nil
        exact AllReadyH.nil
      exact AllReadyH.nil
  case rest =>
    obtain ⟨b6, C, ca, W4, rfl, rfl, H6, HMC, HB4⟩ := hcut
    have hF := HMC.out.1
    obtain ⟨nb, hnb⟩ : ∃ n, C.b.length = n := ⟨_, rfl⟩
    have hb18 := hF.nb
    rw [hnb] at hb18 H6
    have HNB := Lib.hid hnb
    have HF := Lib.hid hF
    obtain ⟨hnb1, hnb18⟩ := hb18
    have HCK := Lib.hid (show ∀ V, Below W4.heap.size W4 V → Calls Tryz.prog 14 #[.agg #[.int .i64 (C.n 0), .int .i64 (C.n 1), .int .i64 (C.n 2), .int .i64 (C.n 3), .int .i64 (C.n 4), .slice ca.a1 C.q.length ca.c1, .slice ca.a2 C.l.length ca.c2, .slice ca.a3 nb ca.c3]] V fun e w' => e = .returned (.int .i64 (chkC C)) ∧ Below V.heap.size V w' from fun V hV => by
      have H := Check_rc C ca V (HMC.out.2.on hV).mem hF.fits
      unfold cdval at H
      rw [hnb] at H
      exact H)
    have HRC := Lib.hid (show ∀ V, Below W4.heap.size W4 V → Calls Tryz.prog 19 #[.agg #[.int .i64 (C.n 0), .int .i64 (C.n 1), .int .i64 (C.n 2), .int .i64 (C.n 3), .int .i64 (C.n 4), .slice ca.a1 C.q.length ca.c1, .slice ca.a2 C.l.length ca.c2, .slice ca.a3 nb ca.c3]] V fun e w' => e = .returned (.slice (some ⟨V.heap.size + 1, 0, none⟩) nb nb) ∧ w'.rowIs (V.heap.size + 1) 4 nb (fun j => .bool (reachC C j)) ∧ Below V.heap.size V w' from fun V hV => by
      have H := Reach_c C ca V (HMC.out.2.on hV).mem hF.fits
      unfold cdval at H
      rw [hnb] at H
      exact H)
    have HALL := Lib.hid (show ∀ V, Below W4.heap.size W4 V → V.cell? ⟨b6, 0, none⟩ = some (.int .i64 (C.n 0)) ∧ V.cell? ⟨b6, 1, none⟩ = some (.int .i64 (C.n 1)) ∧ V.cell? ⟨b6, 2, none⟩ = some (.int .i64 (C.n 2)) ∧ V.cell? ⟨b6, 3, none⟩ = some (.int .i64 (C.n 3)) ∧ V.cell? ⟨b6, 4, none⟩ = some (.int .i64 (C.n 4)) ∧ V.cell? ⟨b6, 5, none⟩ = some (.slice ca.a1 C.q.length ca.c1) ∧ V.cell? ⟨b6, 6, none⟩ = some (.slice ca.a2 C.l.length ca.c2) ∧ V.cell? ⟨b6, 7, none⟩ = some (.slice ca.a3 nb ca.c3) from fun V hV => by
      have q := (hV.block _ (Array.getElem?_eq_some_iff.1 H6.out).1).trans H6.out
      exact ⟨cell_blk q (i := 0) rfl, cell_blk q (i := 1) rfl, cell_blk q (i := 2) rfl, cell_blk q (i := 3) rfl, cell_blk q (i := 4) rfl, cell_blk q (i := 5) rfl, cell_blk q (i := 6) rfl, cell_blk q (i := 7) rfl⟩)
    have HBc := Lib.hid (Below.refl W4.heap.size W4)
    obtain ⟨p0, p1, p2, p3, p4, p5, p6, p7⟩ := HALL.out _ HBc.out
    clear hnb hF
    by_cases hz : chkC C = 0
    rotate_left
    · obtain ⟨z, hzz⟩ : ∃ z, chkC C = z := ⟨_, rfl⟩
      rw [hzz] at hz HCK
      have hz2 : (z != 0) = true := by simpa using hz
      clear hz hzz
      go_wp2_with (first
        | (go_at_call 14; (with_reducible refine (HCK.out _ HBc.out).mono ?_); rintro e x1 ⟨rfl, hbx⟩; replace HBc := Lib.hid (HBc.out.trans (hbx.mono HBc.out.size)); clear hbx))
      go_ret
      exact ⟨rfl, HB4.out.trans (HBc.out.mono HB4.out.size)⟩
    · have HT := Lib.hid (show ∀ j, j < nb → ∀ x, x ∈ succL (C.te j) → 0 ≤ x ∧ x < nb from fun j hj x hx => by
        have := HF.out.ok hz j (by rw [HNB.out]; exact hj) x hx
        rw [HNB.out] at this
        exact this)
      rw [hz] at HCK
      clear hz
      have HSP := Lib.hid (reachV_spec (n := nb) (T := C.te) (by omega) HT.out)
      have HRE := Lib.hid (show reachC C = reachV nb C.te from by unfold reachC; rw [HNB.out])
      rw [HRE.out] at HRC
      have hmk := fun W => run_make_row' (P := Tryz.prog) 57 3 (.int .i64 0) 8 Tryz.underlying57 infoInt3 rfl .i64 .i64 nb (by omega) (by omega) W
      have hi0 : (0 : Int) < (nb : Int) := by omega
      go_upto_region 10 with (first
        | (go_at_call 14; (with_reducible refine (HCK.out _ HBc.out).mono ?_); rintro e x1 ⟨rfl, hbx⟩; replace HBc := Lib.hid (HBc.out.trans (hbx.mono HBc.out.size)); obtain ⟨q0, q1, q2, q3, q4, q5, q6, q7⟩ := HALL.out _ HBc.out; clear hbx)
        | (go_at_call 19; (with_reducible refine (HRC.out _ HBc.out).mono ?_); rintro e x2 ⟨rfl, hrow, hbx⟩; have HL := Lib.hid hrow; have l0 := hrow.cell (i := 0) (by omega); rw [HSP.out.1] at l0; replace HBc := Lib.hid (HBc.out.trans (hbx.mono HBc.out.size)); obtain ⟨r0, r1, r2, r3, r4, r5, r6, r7⟩ := HALL.out _ HBc.out; clear hbx hrow))
      go_upto_region 12 with (fail)
      have HS0 := Lib.hid (show StI nb C.te 1 0 (fun _ => 0) from StI.first nb C.te)
      have HK0 := Lib.hid (show RcK W4 (x1.heap.size + 1) x2.heap.size nb (reachV nb C.te) (fun _ => 0) (x2.alloc (.cells (madeCells #[.int .i64 0] nb) 3)) from
        ⟨HBc.out.alloc HBc.out.size _, HL.out.of_block (Below.heap_alloc _ _ _ HL.out.lt), World.rowIs_made x2 (.int .i64 0) nb 3, Nat.ne_of_lt HL.out.lt, HBc.out.size⟩)
      obtain ⟨bl, hbl⟩ : ∃ bl, x1.heap.size + 1 = bl := ⟨_, rfl⟩
      obtain ⟨bs, hbs⟩ : ∃ bs, x2.heap.size = bs := ⟨_, rfl⟩
      rw [hbl, hbs] at HK0
      rw [hbl, hbs]
      clear hbl hbs l0 HL hmk
      generalize (x2.alloc (.cells (madeCells #[.int .i64 0] nb) 3)) = W5 at *
      go_loopw [9] (fun v wr => ∃ (m : Nat) (s : Nat → Nat), 1 ≤ m ∧ m ≤ nb + 1 ∧ v = .int .i64 m ∧ Hid (StI nb C.te m 0 s) ∧ Hid (RcK W4 bl bs nb (reachV nb C.te) s wr)) (fun v _ => nb + 1 - (intOf v).toNat)
      case atStart => exact ⟨1, fun _ => 0, Nat.le_refl _, by omega, rfl, HS0, HK0⟩
      case round =>
        obtain ⟨m, s, hm1, hmn, rfl, HS, HK⟩ := hrel
        obtain ⟨a0, a1, a2, a3, a4, a5, a6, a7⟩ := HALL.out _ HK.out.below
        by_cases hlm : m ≤ nb
        · have hmi : (m : Int) ≤ (nb : Int) := by omega
          go_upto_region 15 with (fail)
          obtain ⟨wo, rfl⟩ : ∃ wo : World, wo = wr := ⟨_, rfl⟩
          clear a0 a1 a2 a3 a4 a5 a6 a7
          go_loopw [10] (fun v wz => ∃ (b : Nat) (s : Nat → Nat), b ≤ nb ∧ v = .int .i64 b ∧ Hid (StI nb C.te m b s) ∧ Hid (RcK W4 bl bs nb (reachV nb C.te) s wz)) (fun v _ => nb - (intOf v).toNat)
          case atStart => exact ⟨0, s, Nat.zero_le _, rfl, HS, HK⟩
          case round =>
            clear HS HK
            obtain ⟨b, s, hb, rfl, HS, HK⟩ := hrel
            obtain ⟨a0, a1, a2, a3, a4, a5, a6, a7⟩ := HALL.out _ HK.out.below
            by_cases hlb : b < nb
            · have hbi : (b : Int) < (nb : Int) := by omega
              have hs := HK.out.st.cell (i := b) hlb
              obtain ⟨sk, hsk⟩ : ∃ sk, (decide (b ≠ 0 ∧ s b = 0) || decide (s b = m)) = sk := ⟨_, rfl⟩
              have HSK := Lib.hid hsk
              obtain ⟨x, hx⟩ : ∃ x, s b = x := ⟨_, rfl⟩
              have HX := Lib.hid hx
              rw [hx] at hs
              clear hsk hx
              go_upto_region 17 with (fail)
              go_cut [83] from 60 to 149 (fun v wx => v = .bool sk ∧ wr = wx)
              case first =>
                by_cases hb0 : b = 0
                · subst hb0
                  have h0 : x = 0 := by rw [← HX.out]; exact HS.out.zero
                  subst h0
                  have hm0 : ((0 : Int) == (m : Int)) = false := by simp; omega
                  have HG := Lib.hid (show false = sk from by
                    rw [← HSK.out, HX.out]
                    have : ¬ (0 : Nat) = m := by omega
                    simp [this])
                  go_wp2
                  go_meet
                  exact ⟨by rw [← HG.out], rfl⟩
                · have hbz : ((b : Int) == 0) = false := by simp; omega
                  have hbz2 : ((b : Int) != 0) = true := by simp; omega
                  by_cases h0 : x = 0
                  · subst h0
                    have HG := Lib.hid (show true = sk from by rw [← HSK.out, HX.out]; simp [hb0])
                    go_wp2
                    go_meet
                    exact ⟨by rw [← HG.out], rfl⟩
                  · have hxz : ((x : Int) == 0) = false := by simp; omega
                    by_cases hxm : x = m
                    · subst hxm
                      have HG := Lib.hid (show true = sk from by rw [← HSK.out, HX.out]; simp)
                      go_wp2
                      go_meet
                      exact ⟨by rw [← HG.out], rfl⟩
                    · have hxm' : ((x : Int) == (m : Int)) = false := by simp; omega
                      have HG := Lib.hid (show false = sk from by rw [← HSK.out, HX.out]; simp [h0, hxm])
                      go_wp2
                      go_meet
                      exact ⟨by rw [← HG.out], rfl⟩
              case rest =>
                obtain ⟨rfl, rfl⟩ := hcut
                cases sk with
                | true =>
                  have HN := Lib.hid (HS.out.skip (by
                    have h := HSK.out
                    simp only [Bool.or_eq_true, decide_eq_true_eq] at h
                    exact h) hm1)
                  go_wp2
                  go_roundw
                  case rel => exact ⟨b + 1, s, by omega, by go_num, HN, HK⟩
                  case measure => simp [intOf]; omega
                | false =>
                  have hw : Within nb C.te (m - 1) b := by
                    have h := HSK.out
                    simp only [Bool.or_eq_false_iff, decide_eq_false_iff_not] at h
                    exact HS.out.go (by
                      by_cases h1 : b = 0
                      · exact .inl h1
                      · exact .inr (fun h2 => h.1 ⟨h1, h2⟩)) h.2
                  have HW := Lib.hid hw
                  have HRB := Lib.hid (within_reach (by omega) HT.out _ _ hw)
                  obtain ⟨t, ht⟩ : ∃ t, C.te b = t := ⟨_, rfl⟩
                  obtain ⟨b3, off3, hA3, hb3, hcells⟩ := (HMC.out.2.on HK.out.below).mem.blocks (by rw [HNB.out]; omega)
                  obtain ⟨_, o1, o2, o3, o4, o5, o6, o7, o8, o9, o10, o11, o12, o13⟩ := hcells b (by rw [HNB.out]; exact hlb)
                  rw [ht] at o1 o2 o3 o4 o5 o6 o7 o8 o9 o10 o11 o12 o13
                  rw [hA3] at a7
                  have HA3 := Lib.hid hA3
                  obtain ⟨M, hM⟩ : ∃ M, succL t = M := ⟨_, rfl⟩
                  have HSU := Lib.hid (show ∀ V : World, Calls Tryz.prog 22 #[.agg #[.int .i64 t.kind, .int .i64 t.sub, .int .i64 t.d.k, .int .i64 t.d.n, .int .i32 t.d.v, .int .i64 t.a.k, .int .i64 t.a.n, .int .i32 t.a.v, .int .i64 t.b.k, .int .i64 t.b.n, .int .i32 t.b.v, .int .i64 t.t0, .int .i64 t.t1]] V fun e w' => e = .returned (.slice (some ⟨V.heap.size, 11, none⟩) M.length 2) ∧ (∀ j, j < M.length → w'.cell? ⟨V.heap.size, 11 + j, none⟩ = some (.int .i64 (M.getD j 0))) ∧ V.heap.size < w'.heap.size ∧ Below V.heap.size V w' from fun V => by
                    have H := Succ_any t V
                    rw [hM] at H
                    exact H)
                  have hM2 : M.length ≤ 2 := by have := succL_len t; rw [hM] at this; exact this
                  have HTM := Lib.hid (show ∀ x, x ∈ M → 0 ≤ x ∧ x < nb from fun x hx => HT.out b hlb x (by rw [ht, hM]; exact hx))
                  have HED := Lib.hid (show ∀ x : Nat, (Edge nb C.te b x ↔ (x : Int) ∈ M ∧ x < nb) from fun x => by
                    unfold Edge
                    rw [ht, hM]
                    exact ⟨fun h => ⟨h.2.2, h.2.1⟩, fun h => ⟨hlb, h.2, h.1⟩⟩)
                  clear hw hA3 hcells hb3 ht hM hs
                  go_upto_region 20 with (first
                    | (go_at_call 22; (with_reducible refine (HSU.out _).mono ?_); rintro e x3 ⟨rfl, hcl, hlt, hbx⟩; have HK3 := Lib.hid (HK.out.on hbx); have HCL := Lib.hid hcl; have HLT := Lib.hid hlt; clear hcl hlt hbx))
                  have HBT := Lib.hid (show wr.heap.size ≠ bs from Nat.ne_of_gt HK.out.st.lt)
                  obtain ⟨bt, hbt⟩ : ∃ bt, wr.heap.size = bt := ⟨_, rfl⟩
                  rw [hbt] at HCL HLT HBT
                  rw [hbt]
                  clear hbt o1 o2 o3 o4 o5 o6 o7 o8 o9 o10 o11 o12 o13 a0 a1 a2 a3 a4 a5 a6 a7
                  obtain ⟨wq, rfl⟩ : ∃ wq : World, wq = wr := ⟨_, rfl⟩
                  go_loopw [12] (fun v wz => ∃ (i : Nat) (s' : Nat → Nat), i ≤ M.length ∧ v = .int .i64 i ∧ Hid (StI nb C.te m b s') ∧ Hid (∀ j, j < i → M.getD j 0 = 0 ∨ s' (M.getD j 0).toNat ≠ 0) ∧ Hid (RcK W4 bl bs nb (reachV nb C.te) s' wz) ∧ Hid (∀ j, j < M.length → wz.cell? ⟨bt, 11 + j, none⟩ = some (.int .i64 (M.getD j 0)))) (fun v _ => M.length - (intOf v).toNat)
                  case atStart => exact ⟨0, s, Nat.zero_le _, rfl, HS, Lib.hid (fun j hj => absurd hj (by omega)), HK3, HCL⟩
                  case round =>
                    clear HS HK3 HCL
                    obtain ⟨i, s', hi, rfl, HS, HDN, HK3, HCL⟩ := hrel
                    by_cases hli : i < M.length
                    · have hii : (i : Int) < (M.length : Int) := by omega
                      obtain ⟨d0, d1, d2, d3, d4, d5, d6, d7⟩ := HALL.out _ HK3.out.below
                      rw [HA3.out] at d7
                      have hxm : M.getD i 0 ∈ M := by
                        rw [List.getD_eq_getElem?_getD, List.getElem?_eq_getElem hli]
                        exact List.getElem_mem hli
                      obtain ⟨hx0, hx1⟩ := HTM.out _ hxm
                      obtain ⟨xn, hxn⟩ : ∃ xn : Nat, M.getD i 0 = (xn : Int) := ⟨(M.getD i 0).toNat, by omega⟩
                      rw [hxn] at hxm hx0 hx1
                      have hxl : xn < nb := by omega
                      have HEX := Lib.hid ((HED.out xn).2 ⟨hxm, hxl⟩)
                      have hrx := HSP.out.2.1 b xn HRB.out HEX.out
                      have hcl := HCL.out i hli
                      rw [hxn] at hcl
                      have hlb2 := HK3.out.l.cell (i := b) hlb
                      have hlx := HK3.out.l.cell (i := xn) hxl
                      rw [HRB.out] at hlb2
                      rw [hrx] at hlx
                      have hsx := HK3.out.st.cell (i := xn) hxl
                      have HXN := Lib.hid hxn
                      have hbtl : bt < wr.heap.size := World.block_lt_of_cell? wr ⟨bt, 11 + i, none⟩ hcl
                      have HTS := Lib.hid (show ∀ V, Below wr.heap.size wr V → (fun w' => w'.cell? ⟨bt, 11 + i, none⟩ = some (.int .i64 (xn : Nat)) ∧ w'.cell? ⟨b6, 7, none⟩ = some (.slice (some ⟨b3, off3, none⟩) nb ca.c3) ∧ w'.cell? ⟨bl, b, none⟩ = some (.bool true) ∧ w'.cell? ⟨bl, xn, none⟩ = some (.bool true)) V from fun V hV => ⟨(hV.cell (p := ⟨bt, 11 + i, none⟩) hbtl).trans hcl, by
                        have h := (HALL.out _ (HK3.out.on hV).below).2.2.2.2.2.2.2
                        rw [HA3.out] at h
                        exact h, (hV.cell (p := ⟨bl, b, none⟩) HK3.out.l.lt).trans hlb2, (hV.cell (p := ⟨bl, xn, none⟩) HK3.out.l.lt).trans hlx⟩)
                      have HBx := Lib.hid (show Below wr.heap.size wr wr.drew from below_drewS (Below.refl _ wr))
                      have hx00 : ¬ (xn : Int) < 0 := by omega
                      have hx01 : decide ((xn : Int) < 0) = false := decide_eq_false hx00
                      have hxni : (xn : Int) < (nb : Int) := by omega
                      have hx02 : ¬ (nb : Int) ≤ (xn : Int) := by omega
                      have hx03 : decide ((nb : Int) ≤ (xn : Int)) = false := decide_eq_false hx02
                      have hx04 : decide (nb ≤ xn) = false := decide_eq_false (by omega)
                      have hbi2 : (b : Int) < (nb : Int) := by omega
                      clear hxm hx0 hx1 hrx hcl hlb2 hlx hxn hbtl d0 d1 d2 d3 d4 d5 d6 d7 hsx
                      go_upto_region 22 with (fail)
                      refine wp_region_held_drew (S := (fun w' => w'.cell? ⟨bt, 11 + i, none⟩ = some (.int .i64 (xn : Nat)) ∧ w'.cell? ⟨b6, 7, none⟩ = some (.slice (some ⟨b3, off3, none⟩) nb ca.c3) ∧ w'.cell? ⟨bl, b, none⟩ = some (.bool true) ∧ w'.cell? ⟨bl, xn, none⟩ = some (.bool true))) (by kernel_rfl) ?_ (fun hHeld => ?_)
                      · (try dsimp only); exact HTS.out _ HBx.out
                      refine tk 0 ⟨some 97, .move (.tmp 11), 57, "law.go:301", #[], none⟩ (v := ?_) ?_ (by assumption) ?_
                      rotate_left
                      · (intro w hSw; (try dsimp only at hSw); go_simp; (try with_reducible rfl))
                      try simp only [pe]
                      refine tk 1 ⟨some 98, .move (.tmp 12), 3, "law.go:301", #[], none⟩ (v := ?_) ?_ (by assumption) ?_
                      rotate_left
                      · (intro w hSw; (try dsimp only at hSw); go_simp; (try with_reducible rfl))
                      try simp only [pe]
                      refine tk 2 ⟨some 99, .indexAddr 57 (.tmp 97) (.tmp 98), 0, "law.go:301", #[⟨0, .data⟩, ⟨1, .data⟩], none⟩ (v := ?_) ?_ (by assumption) ?_
                      rotate_left
                      · (intro w hSw; (try dsimp only at hSw); go_simp; (try with_reducible rfl))
                      try simp only [pe]
                      refine tk 3 ⟨some 100, .load 3 (.tmp 99), 3, "law.go:301", #[⟨2, .data⟩], none⟩ (v := ?_) ?_ (by assumption) ?_
                      rotate_left
                      · (intro w hSw; (try dsimp only at hSw); go_simp; (try with_reducible rfl))
                      try simp only [pe]
                      refine tk 4 ⟨some 101, .binOp .lss 3 (.tmp 100) (.const (.int .i64 0)) 3, 4, "law.go:301", #[⟨3, .data⟩], none⟩ (v := ?_) ?_ (by assumption) ?_
                      rotate_left
                      · (intro w hSw; (try dsimp only at hSw); go_simp; (try with_reducible rfl))
                      try simp only [pe]
                      refine tk 5 ⟨some 102, .move (.tmp 101), 4, "law.go:301", #[⟨4, .data⟩], none⟩ (v := ?_) ?_ (by assumption) ?_
                      rotate_left
                      · (intro w hSw; (try dsimp only at hSw); go_simp; (try with_reducible rfl))
                      try simp only [pe]
                      refine tk 6 ⟨some 103, .move (.tmp 11), 57, "law.go:301", #[⟨5, .guard⟩], some (5, false)⟩ (v := ?_) ?_ (by assumption) ?_
                      rotate_left
                      · (intro w hSw; (try dsimp only at hSw); go_simp; (try with_reducible rfl))
                      try simp only [pe]
                      refine tk 7 ⟨some 104, .move (.tmp 12), 3, "law.go:301", #[⟨5, .guard⟩], some (5, false)⟩ (v := ?_) ?_ (by assumption) ?_
                      rotate_left
                      · (intro w hSw; (try dsimp only at hSw); go_simp; (try with_reducible rfl))
                      try simp only [pe]
                      refine tk 8 ⟨some 105, .indexAddr 57 (.tmp 103) (.tmp 104), 0, "law.go:301", #[⟨6, .data⟩, ⟨7, .data⟩, ⟨5, .guard⟩], some (5, false)⟩ (v := ?_) ?_ (by assumption) ?_
                      rotate_left
                      · (intro w hSw; (try dsimp only at hSw); go_simp; (try with_reducible rfl))
                      try simp only [pe]
                      refine tk 9 ⟨some 106, .load 3 (.tmp 105), 3, "law.go:301", #[⟨8, .data⟩, ⟨5, .guard⟩], some (5, false)⟩ (v := ?_) ?_ (by assumption) ?_
                      rotate_left
                      · (intro w hSw; (try dsimp only at hSw); go_simp; (try with_reducible rfl))
                      try simp only [pe]
                      refine tk 10 ⟨some 107, .fieldAddr 36 (.tmp 6) 7, 0, "law.go:301", #[⟨5, .guard⟩], some (5, false)⟩ (v := ?_) ?_ (by assumption) ?_
                      rotate_left
                      · (intro w hSw; (try dsimp only at hSw); go_simp; (try with_reducible rfl))
                      try simp only [pe]
                      refine tk 11 ⟨some 108, .load 34 (.tmp 107), 34, "law.go:301", #[⟨10, .data⟩, ⟨5, .guard⟩], some (5, false)⟩ (v := ?_) ?_ (by assumption) ?_
                      rotate_left
                      · (intro w hSw; (try dsimp only at hSw); go_simp; (try with_reducible rfl))
                      try simp only [pe]
                      refine tk 12 ⟨some 109, .call { callee := Callee.builtin Builtin.len, args := #[.tmp 108], argTypes := #[34] }, 3, "law.go:301", #[⟨11, .data⟩, ⟨5, .guard⟩], some (5, false)⟩ (v := ?_) ?_ (by assumption) ?_
                      rotate_left
                      · (intro w hSw; (try dsimp only at hSw); go_simp; (try with_reducible rfl))
                      try simp only [pe]
                      refine tk 13 ⟨some 110, .binOp .geq 3 (.tmp 106) (.tmp 109) 3, 4, "law.go:301", #[⟨9, .data⟩, ⟨12, .data⟩, ⟨5, .guard⟩], some (5, false)⟩ (v := ?_) ?_ (by assumption) ?_
                      rotate_left
                      · (intro w hSw; (try dsimp only at hSw); go_simp; (try with_reducible rfl))
                      try simp only [pe]
                      refine tk 14 ⟨some 111, .pick (.tmp 102) (.const (Value.bool true)) (.tmp 110), 4, "law.go:301", #[⟨5, .data⟩, ⟨13, .data⟩], none⟩ (v := ?_) ?_ (by assumption) ?_
                      rotate_left
                      · (intro w hSw; (try dsimp only at hSw); go_simp; (try with_reducible rfl))
                      try simp only [pe]
                      refine tk 15 ⟨some 112, .move (.tmp 111), 4, "law.go:301", #[⟨14, .data⟩, ⟨5, .chain⟩], none⟩ (v := ?_) ?_ (by assumption) ?_
                      rotate_left
                      · (intro w hSw; (try dsimp only at hSw); go_simp; (try with_reducible rfl))
                      try simp only [pe]
                      refine tk 16 ⟨some 113, .move (.tmp 7), 48, "law.go:301", #[⟨15, .guard⟩], some (15, false)⟩ (v := ?_) ?_ (by assumption) ?_
                      rotate_left
                      · (intro w hSw; (try dsimp only at hSw); go_simp; (try with_reducible rfl))
                      try simp only [pe]
                      refine tk 17 ⟨some 114, .move (.tmp 10), 3, "law.go:301", #[⟨15, .guard⟩], some (15, false)⟩ (v := ?_) ?_ (by assumption) ?_
                      rotate_left
                      · (intro w hSw; (try dsimp only at hSw); go_simp; (try with_reducible rfl))
                      try simp only [pe]
                      refine tk 18 ⟨some 115, .indexAddr 48 (.tmp 113) (.tmp 114), 0, "law.go:301", #[⟨16, .data⟩, ⟨17, .data⟩, ⟨15, .guard⟩], some (15, false)⟩ (v := ?_) ?_ (by assumption) ?_
                      rotate_left
                      · (intro w hSw; (try dsimp only at hSw); go_simp; (try with_reducible rfl))
                      try simp only [pe]
                      refine tk 19 ⟨some 116, .load 4 (.tmp 115), 4, "law.go:301", #[⟨18, .data⟩, ⟨15, .guard⟩], some (15, false)⟩ (v := ?_) ?_ (by assumption) ?_
                      rotate_left
                      · (intro w hSw; (try dsimp only at hSw); go_simp; (try with_reducible rfl))
                      try simp only [pe]
                      refine tk 20 ⟨some 117, .move (.tmp 116), 4, "law.go:301", #[⟨19, .data⟩, ⟨15, .chain⟩, ⟨15, .guard⟩], some (15, false)⟩ (v := ?_) ?_ (by assumption) ?_
                      rotate_left
                      · (intro w hSw; (try dsimp only at hSw); go_simp; (try with_reducible rfl))
                      try simp only [pe]
                      refine tk 21 ⟨some 118, .move (.tmp 7), 48, "law.go:301", #[⟨20, .guard⟩], some (20, true)⟩ (v := ?_) ?_ (by assumption) ?_
                      rotate_left
                      · (intro w hSw; (try dsimp only at hSw); go_simp; (try with_reducible rfl))
                      try simp only [pe]
                      refine tk 22 ⟨some 119, .move (.tmp 11), 57, "law.go:301", #[⟨20, .guard⟩], some (20, true)⟩ (v := ?_) ?_ (by assumption) ?_
                      rotate_left
                      · (intro w hSw; (try dsimp only at hSw); go_simp; (try with_reducible rfl))
                      try simp only [pe]
                      refine tk 23 ⟨some 120, .move (.tmp 12), 3, "law.go:301", #[⟨20, .guard⟩], some (20, true)⟩ (v := ?_) ?_ (by assumption) ?_
                      rotate_left
                      · (intro w hSw; (try dsimp only at hSw); go_simp; (try with_reducible rfl))
                      try simp only [pe]
                      refine tk 24 ⟨some 121, .indexAddr 57 (.tmp 119) (.tmp 120), 0, "law.go:301", #[⟨22, .data⟩, ⟨23, .data⟩, ⟨20, .guard⟩], some (20, true)⟩ (v := ?_) ?_ (by assumption) ?_
                      rotate_left
                      · (intro w hSw; (try dsimp only at hSw); go_simp; (try with_reducible rfl))
                      try simp only [pe]
                      refine tk 25 ⟨some 122, .load 3 (.tmp 121), 3, "law.go:301", #[⟨24, .data⟩, ⟨20, .guard⟩], some (20, true)⟩ (v := ?_) ?_ (by assumption) ?_
                      rotate_left
                      · (intro w hSw; (try dsimp only at hSw); go_simp; (try with_reducible rfl))
                      try simp only [pe]
                      refine tk 26 ⟨some 123, .indexAddr 48 (.tmp 118) (.tmp 122), 0, "law.go:301", #[⟨21, .data⟩, ⟨25, .data⟩, ⟨20, .guard⟩], some (20, true)⟩ (v := ?_) ?_ (by assumption) ?_
                      rotate_left
                      · (intro w hSw; (try dsimp only at hSw); go_simp; (try with_reducible rfl))
                      try simp only [pe]
                      refine tk 27 ⟨some 124, .load 4 (.tmp 123), 4, "law.go:301", #[⟨26, .data⟩, ⟨20, .guard⟩], some (20, true)⟩ (v := ?_) ?_ (by assumption) ?_
                      rotate_left
                      · (intro w hSw; (try dsimp only at hSw); go_simp; (try with_reducible rfl))
                      try simp only [pe]
                      refine tk 28 ⟨some 125, .unOp .not 4 (.tmp 124), 4, "law.go:301", #[⟨27, .data⟩, ⟨20, .guard⟩], some (20, true)⟩ (v := ?_) ?_ (by assumption) ?_
                      rotate_left
                      · (intro w hSw; (try dsimp only at hSw); go_simp; (try with_reducible rfl))
                      try simp only [pe]
                      refine tk 29 ⟨some 126, .pick (.tmp 117) (.tmp 125) (.const (Value.bool false)), 4, "law.go:301", #[⟨20, .data⟩, ⟨28, .data⟩, ⟨15, .guard⟩], some (15, false)⟩ (v := ?_) ?_ (by assumption) ?_
                      rotate_left
                      · (intro w hSw; (try dsimp only at hSw); go_simp; (try with_reducible rfl))
                      try simp only [pe]
                      refine tk 30 ⟨some 127, .pick (.tmp 112) (.const (Value.bool true)) (.tmp 126), 4, "law.go:301", #[⟨15, .data⟩, ⟨29, .data⟩], none⟩ (v := ?_) ?_ (by assumption) ?_
                      rotate_left
                      · (intro w hSw; (try dsimp only at hSw); go_simp; (try with_reducible rfl))
                      try simp only [pe]
                      refine wpAnyH_done (by kernel_rfl) ?_ _
                      have HK4 := Lib.hid (HK3.out.on HBx.out)
                      have HCL4 := Lib.hid (show ∀ j, j < M.length → wr.drew.cell? ⟨bt, 11 + j, none⟩ = some (.int .i64 (M.getD j 0)) from HCL.out)
                      have hcl := HCL4.out i hli
                      rw [HXN.out] at hcl
                      have hsx := HK4.out.st.cell (i := xn) hxl
                      have hfz := HK4.out.st.frozen (i := xn)
                      clear HK3 HCL HTS HBx hHeld
                      generalize wr.drew = W7 at *
                      by_cases h0 : xn = 0
                      · subst h0
                        have HDN2 := Lib.hid (show ∀ j, j < i + 1 → M.getD j 0 = 0 ∨ s' (M.getD j 0).toNat ≠ 0 from one_more HDN.out (.inl (by rw [HXN.out]; rfl)))
                        clear hfz
                        go_wp2
                        go_roundw
                        case rel => exact ⟨i + 1, s', by omega, by go_num, HS, HDN2, HK4, HCL4⟩
                        case measure => simp [intOf]; omega
                      · have hx1 : ((xn : Int) == 0) = false := by simp; omega
                        have hx2 : ((xn : Int) != 0) = true := by simp; omega
                        by_cases hs0 : s' xn = 0
                        · have HSS := Lib.hid (HS.out.set hm1 HW.out HEX.out h0 hs0)
                          have HKS := Lib.hid (HK4.out.set xn m)
                          rw [hs0] at hsx
                          have HDN2 := Lib.hid (show ∀ j, j < i + 1 → M.getD j 0 = 0 ∨ setS s' xn m (M.getD j 0).toNat ≠ 0 from one_more (fun j hj => by
                            rcases HDN.out j hj with h | h
                            · exact .inl h
                            · right
                              unfold setS
                              split
                              · omega
                              · exact h) (.inr (by
                            rw [HXN.out, Int.toNat_natCast]
                            unfold setS
                            rw [if_pos rfl]
                            omega)))
                          have HCL5 := Lib.hid (show ∀ j, j < M.length → (W7.setCell ⟨bs, xn, none⟩ (.int .i64 (m : Nat))).cell? ⟨bt, 11 + j, none⟩ = some (.int .i64 (M.getD j 0)) from fun j hj => (World.cell?_setCell_other _ _ _ _ (fun e => HBT.out (congrArg Addr.block e).symm)).trans (HCL4.out j hj))
                          clear hs0 h0
                          go_wp2
                          go_roundw
                          case rel => exact ⟨i + 1, setS s' xn m, by omega, by go_num, HSS, HDN2, HKS, HCL5⟩
                          case measure => simp [intOf]; omega
                        · have HDN2 := Lib.hid (show ∀ j, j < i + 1 → M.getD j 0 = 0 ∨ s' (M.getD j 0).toNat ≠ 0 from one_more HDN.out (.inr (by rw [HXN.out, Int.toNat_natCast]; exact hs0)))
                          obtain ⟨sx, hsx'⟩ : ∃ sx, s' xn = sx := ⟨_, rfl⟩
                          rw [hsx'] at hsx hs0
                          have hs1 : ((sx : Int) == 0) = false := by simp; omega
                          clear hs0 hsx' h0 hfz
                          go_wp2
                          go_roundw
                          case rel => exact ⟨i + 1, s', by omega, by go_num, HS, HDN2, HK4, HCL4⟩
                          case measure => simp [intOf]; omega
                    · obtain rfl : i = M.length := by omega
                      have hii : ¬ (M.length : Int) < (M.length : Int) := by omega
                      have HN := Lib.hid (HS.out.over (fun x he => by
                        obtain ⟨h1, h2⟩ := (HED.out x).1 he
                        obtain ⟨j, hj, e⟩ := List.mem_iff_getElem.1 h1
                        have h3 := HDN.out j hj
                        have h4 : M.getD j 0 = (x : Int) := by
                          rw [List.getD_eq_getElem?_getD, List.getElem?_eq_getElem hj]
                          exact e
                        rw [h4, Int.toNat_natCast] at h3
                        rcases h3 with h3 | h3
                        · left
                          omega
                        · exact .inr h3))
                      go_wp2
                      go_roundw
                      case rel => exact ⟨b + 1, s', by omega, by go_num, HN, HK3⟩
                      case measure => simp [intOf]; omega
            · obtain rfl : b = nb := by omega
              have hbi : ¬ (b : Int) < (b : Int) := by omega
              have HN := Lib.hid (HS.out.next hm1)
              go_wp2
              go_roundw
              case rel => exact ⟨m + 1, s, by omega, by omega, by go_num, HN, HK⟩
              case measure => simp [intOf]; omega
        · obtain rfl : m = nb + 1 := by omega
          have hmi : ¬ ((nb + 1 : Nat) : Int) ≤ (nb : Int) := by omega
          have HLA := Lib.hid (fun b (hb : 1 ≤ b) => StI.last (by omega) HT.out HS.out (b := b) hb)
          go_upto_region 27 with (fail)
          go_loopw [13] (fun v wz => ∃ b : Nat, 1 ≤ b ∧ b ≤ nb ∧ v = .int .i64 b ∧ Hid (RcK W4 bl bs nb (reachV nb C.te) s wz)) (fun v _ => nb - (intOf v).toNat)
          case atStart => exact ⟨1, Nat.le_refl _, hnb1, rfl, HK⟩
          case round =>
            clear HK
            obtain ⟨b, hb1, hb, rfl, HK⟩ := hrel
            obtain ⟨b0, b1, b2, b3, b4, b5, b6, b7⟩ := HALL.out _ HK.out.below
            by_cases hlb : b < nb
            · have hbi : (b : Int) < (nb : Int) := by omega
              have hl := HK.out.l.cell (i := b) hlb
              have hs := HK.out.st.cell (i := b) hlb
              have HBx := Lib.hid (show Below wr.heap.size wr wr.drew from below_drewS (Below.refl _ wr))
              have hla := HLA.out b hb1
              by_cases hz : s b = 0
              · have hr : reachV nb C.te b = false := by
                  rw [Bool.eq_false_iff]
                  intro h
                  exact hla.1 h hz
                rw [hr] at hl
                rw [hz] at hs
                have HTS := Lib.hid (show ∀ V, Below wr.heap.size wr V → (fun w' => w'.cell? ⟨bl, b, none⟩ = some (.bool false) ∧ w'.cell? ⟨bs, b, none⟩ = some (.int .i64 (0 : Nat))) V from fun V hV => ⟨(hV.cell (p := ⟨bl, b, none⟩) HK.out.l.lt).trans hl, (hV.cell (p := ⟨bs, b, none⟩) HK.out.st.lt).trans hs⟩)
                clear hl hs hla hz hr
                go_upto_region 29 with (fail)
                refine wp_region_held_drew (S := (fun w' => w'.cell? ⟨bl, b, none⟩ = some (.bool false) ∧ w'.cell? ⟨bs, b, none⟩ = some (.int .i64 (0 : Nat)))) (by kernel_rfl) ?_ (fun hHeld => ?_)
                · (try dsimp only); exact HTS.out _ HBx.out
                refine tk 0 ⟨some 157, .move (.tmp 7), 48, "law.go:311", #[], none⟩ (v := ?_) ?_ (by assumption) ?_
                rotate_left
                · (intro w hSw; (try dsimp only at hSw); go_simp; (try with_reducible rfl))
                try simp only [pe]
                refine tk 1 ⟨some 158, .move (.tmp 13), 3, "law.go:311", #[], none⟩ (v := ?_) ?_ (by assumption) ?_
                rotate_left
                · (intro w hSw; (try dsimp only at hSw); go_simp; (try with_reducible rfl))
                try simp only [pe]
                refine tk 2 ⟨some 159, .indexAddr 48 (.tmp 157) (.tmp 158), 0, "law.go:311", #[⟨0, .data⟩, ⟨1, .data⟩], none⟩ (v := ?_) ?_ (by assumption) ?_
                rotate_left
                · (intro w hSw; (try dsimp only at hSw); go_simp; (try with_reducible rfl))
                try simp only [pe]
                refine tk 3 ⟨some 160, .load 4 (.tmp 159), 4, "law.go:311", #[⟨2, .data⟩], none⟩ (v := ?_) ?_ (by assumption) ?_
                rotate_left
                · (intro w hSw; (try dsimp only at hSw); go_simp; (try with_reducible rfl))
                try simp only [pe]
                refine tk 4 ⟨some 161, .move (.tmp 8), 57, "law.go:311", #[], none⟩ (v := ?_) ?_ (by assumption) ?_
                rotate_left
                · (intro w hSw; (try dsimp only at hSw); go_simp; (try with_reducible rfl))
                try simp only [pe]
                refine tk 5 ⟨some 162, .move (.tmp 13), 3, "law.go:311", #[], none⟩ (v := ?_) ?_ (by assumption) ?_
                rotate_left
                · (intro w hSw; (try dsimp only at hSw); go_simp; (try with_reducible rfl))
                try simp only [pe]
                refine tk 6 ⟨some 163, .indexAddr 57 (.tmp 161) (.tmp 162), 0, "law.go:311", #[⟨4, .data⟩, ⟨5, .data⟩], none⟩ (v := ?_) ?_ (by assumption) ?_
                rotate_left
                · (intro w hSw; (try dsimp only at hSw); go_simp; (try with_reducible rfl))
                try simp only [pe]
                refine tk 7 ⟨some 164, .load 3 (.tmp 163), 3, "law.go:311", #[⟨6, .data⟩], none⟩ (v := ?_) ?_ (by assumption) ?_
                rotate_left
                · (intro w hSw; (try dsimp only at hSw); go_simp; (try with_reducible rfl))
                try simp only [pe]
                refine tk 8 ⟨some 165, .binOp .gtr 3 (.tmp 164) (.const (.int .i64 0)) 3, 4, "law.go:311", #[⟨7, .data⟩], none⟩ (v := ?_) ?_ (by assumption) ?_
                rotate_left
                · (intro w hSw; (try dsimp only at hSw); go_simp; (try with_reducible rfl))
                try simp only [pe]
                refine tk 9 ⟨some 166, .binOp .neq 4 (.tmp 160) (.tmp 165) 4, 4, "law.go:311", #[⟨3, .data⟩, ⟨8, .data⟩], none⟩ (v := ?_) ?_ (by assumption) ?_
                rotate_left
                · (intro w hSw; (try dsimp only at hSw); go_simp; (try with_reducible rfl))
                try simp only [pe]
                refine wpAnyH_done (by kernel_rfl) ?_ _
                go_wp2
                go_roundw
                case rel => exact ⟨b + 1, by omega, by omega, by go_num, Lib.hid (HK.out.on HBx.out)⟩
                case measure => simp [intOf]; omega
              · have hr : reachV nb C.te b = true := hla.2 hz
                rw [hr] at hl
                have hz1 : 0 < s b := by omega
                obtain ⟨x, hx⟩ : ∃ x, s b = x := ⟨_, rfl⟩
                rw [hx] at hs hz1
                have hzi : (0 : Int) < (x : Int) := by omega
                have hzd : decide ((0 : Int) < (x : Int)) = true := decide_eq_true hzi
                have HTS := Lib.hid (show ∀ V, Below wr.heap.size wr V → (fun w' => w'.cell? ⟨bl, b, none⟩ = some (.bool true) ∧ w'.cell? ⟨bs, b, none⟩ = some (.int .i64 (x : Nat))) V from fun V hV => ⟨(hV.cell (p := ⟨bl, b, none⟩) HK.out.l.lt).trans hl, (hV.cell (p := ⟨bs, b, none⟩) HK.out.st.lt).trans hs⟩)
                clear hl hs hla hz hr hx
                go_upto_region 29 with (fail)
                refine wp_region_held_drew (S := (fun w' => w'.cell? ⟨bl, b, none⟩ = some (.bool true) ∧ w'.cell? ⟨bs, b, none⟩ = some (.int .i64 (x : Nat)))) (by kernel_rfl) ?_ (fun hHeld => ?_)
                · (try dsimp only); exact HTS.out _ HBx.out
                refine tk 0 ⟨some 157, .move (.tmp 7), 48, "law.go:311", #[], none⟩ (v := ?_) ?_ (by assumption) ?_
                rotate_left
                · (intro w hSw; (try dsimp only at hSw); go_simp; (try with_reducible rfl))
                try simp only [pe]
                refine tk 1 ⟨some 158, .move (.tmp 13), 3, "law.go:311", #[], none⟩ (v := ?_) ?_ (by assumption) ?_
                rotate_left
                · (intro w hSw; (try dsimp only at hSw); go_simp; (try with_reducible rfl))
                try simp only [pe]
                refine tk 2 ⟨some 159, .indexAddr 48 (.tmp 157) (.tmp 158), 0, "law.go:311", #[⟨0, .data⟩, ⟨1, .data⟩], none⟩ (v := ?_) ?_ (by assumption) ?_
                rotate_left
                · (intro w hSw; (try dsimp only at hSw); go_simp; (try with_reducible rfl))
                try simp only [pe]
                refine tk 3 ⟨some 160, .load 4 (.tmp 159), 4, "law.go:311", #[⟨2, .data⟩], none⟩ (v := ?_) ?_ (by assumption) ?_
                rotate_left
                · (intro w hSw; (try dsimp only at hSw); go_simp; (try with_reducible rfl))
                try simp only [pe]
                refine tk 4 ⟨some 161, .move (.tmp 8), 57, "law.go:311", #[], none⟩ (v := ?_) ?_ (by assumption) ?_
                rotate_left
                · (intro w hSw; (try dsimp only at hSw); go_simp; (try with_reducible rfl))
                try simp only [pe]
                refine tk 5 ⟨some 162, .move (.tmp 13), 3, "law.go:311", #[], none⟩ (v := ?_) ?_ (by assumption) ?_
                rotate_left
                · (intro w hSw; (try dsimp only at hSw); go_simp; (try with_reducible rfl))
                try simp only [pe]
                refine tk 6 ⟨some 163, .indexAddr 57 (.tmp 161) (.tmp 162), 0, "law.go:311", #[⟨4, .data⟩, ⟨5, .data⟩], none⟩ (v := ?_) ?_ (by assumption) ?_
                rotate_left
                · (intro w hSw; (try dsimp only at hSw); go_simp; (try with_reducible rfl))
                try simp only [pe]
                refine tk 7 ⟨some 164, .load 3 (.tmp 163), 3, "law.go:311", #[⟨6, .data⟩], none⟩ (v := ?_) ?_ (by assumption) ?_
                rotate_left
                · (intro w hSw; (try dsimp only at hSw); go_simp; (try with_reducible rfl))
                try simp only [pe]
                refine tk 8 ⟨some 165, .binOp .gtr 3 (.tmp 164) (.const (.int .i64 0)) 3, 4, "law.go:311", #[⟨7, .data⟩], none⟩ (v := ?_) ?_ (by assumption) ?_
                rotate_left
                · (intro w hSw; (try dsimp only at hSw); go_simp; (try with_reducible rfl))
                try simp only [pe]
                refine tk 9 ⟨some 166, .binOp .neq 4 (.tmp 160) (.tmp 165) 4, 4, "law.go:311", #[⟨3, .data⟩, ⟨8, .data⟩], none⟩ (v := ?_) ?_ (by assumption) ?_
                rotate_left
                · (intro w hSw; (try dsimp only at hSw); go_simp; (try with_reducible rfl))
                try simp only [pe]
                refine wpAnyH_done (by kernel_rfl) ?_ _
                go_wp2
                go_roundw
                case rel => exact ⟨b + 1, by omega, by omega, by go_num, Lib.hid (HK.out.on HBx.out)⟩
                case measure => simp [intOf]; omega
            · obtain rfl : b = nb := by omega
              have hbi : ¬ (b : Int) < (b : Int) := by omega
              go_wp2
              go_ret
              exact ⟨rfl, HB4.out.trans (HK.out.below.mono HB4.out.size)⟩
end Go.Proofs.YtkncilgmlkeifaaGreatDoor
/-
  CodeReaches: the changed code: where its ends lead when it is valid.
-/
set_option linter.unusedVariables false
set_option linter.unusedSimpArgs false
namespace Go.Proofs.YtkncilgmlkeifaaGreatDoor
open Go.ChangeShapes Go.WideShapes Go.ChangeAt Go.RowKit Go.Shelf

theorem chk_targets {C : CdV} (h : chkC C = 0) : ∀ j, j < C.b.length → ∀ x, x ∈ succL (C.te j) → 0 ≤ x ∧ x < C.b.length := by
  intro j hj x hx
  unfold chkC checkE at h
  split at h
  · split at h
    · rename_i _ hf
      unfold formB at hf
      simp only [Bool.and_eq_true] at hf
      have hb := hf.2.2.2.2
      rw [List.all_eq_true] at hb
      have hj2 := hb j (by simpa using hj)
      unfold blockB at hj2
      simp only [Bool.and_eq_true] at hj2
      have he := hj2.2
      unfold endB at he
      simp only [Bool.and_eq_true] at he
      have hh := he.2
      unfold hasV at hh
      simp only [Bool.and_eq_true] at hh
      have ht := hh.2.2.2
      rw [List.all_eq_true] at ht
      unfold succL at hx
      have hx2 : x ∈ [(C.te j).t0, (C.te j).t1].take (endF (C.te j).kind).targets.toNat := compact_mem hx
      rcases endF_tgs (C.te j).kind with e | e | e
      · rw [e] at hx2
        simp at hx2
      · rw [e] at hx2 ht
        have h0 : wthB (C.te j).t0 0 ((C.b.length : Int) - 1) = true := ht 0 (by simp)
        simp at hx2
        subst hx2
        unfold wthB at h0
        simp only [Bool.and_eq_true, decide_eq_true_eq] at h0
        omega
      · rw [e] at hx2 ht
        have h0 : wthB (C.te j).t0 0 ((C.b.length : Int) - 1) = true := ht 0 (by decide)
        have h1 : wthB (C.te j).t1 0 ((C.b.length : Int) - 1) = true := ht 1 (by decide)
        unfold wthB at h0 h1
        simp only [Bool.and_eq_true, decide_eq_true_eq] at h0 h1
        have hx3 : x = (C.te j).t0 ∨ x = (C.te j).t1 := by simpa using hx2
        rcases hx3 with rfl | rfl <;> omega
    · omega
  · omega
theorem rcf_ch {D : CdV} (h : MdOk D) (b : Nat) (pt y : Int) : RcF (chC D b pt y) := by
  have hl : (chC D b pt y).b.length = D.b.length := List.length_set
  have hf := h.fits
  exact ⟨⟨hf.1, hf.2.1, by rw [hl]; exact hf.2.2⟩, by rw [hl]; exact h.b18, fun hz => chk_targets hz⟩
theorem reaches_any (A : Option Addr) (nx cx : Nat) (f : Nat → Int) (pt a0 a1 y ok on ov : Int) (nm : ByteArray) (w : World) (hpt : 0 ≤ pt ∧ pt ≤ 255) (h0 : 0 ≤ a0 ∧ a0 ≤ 255) (h1 : 0 ≤ a1 ∧ a1 ≤ 255) (hE : EnvP w) (hB : RBy w A nx f) (hn : nx ≤ 9223372036854775807) :
    Calls Tryz.prog 6 #[.agg #[.slice A nx cx], .agg #[.int .u8 pt, .int .u8 a0, .int .u8 a1, .int .i64 y, .string nm, .int .i64 ok, .int .i64 on, .int .i32 ov]] w fun e w' => e = .returned (.bool true) ∧ Below w.heap.size w w' :=
  reaches_of A nx cx pt a0 a1 y ok on ov nm w hpt hE (fun W hW => made_any A nx cx f W (hB.on hW) hn) (fun pn yy D a V hp hD => by
    refine (changed_any D a V pn a0 a1 yy 0 0 0 ⟨#[]⟩ hD.2.mem hD.1.fits (by rw [hD.1.q]; exact arM_names) (fun e he => by have := (hD.1.bs e he).len; omega) (by have := hD.1.b18; omega) (by rw [hD.1.q]; decide) h0 h1 hp).mono ?_
    rintro e w' ⟨a', he, hk, hb⟩
    exact ⟨_, a', he, ⟨rcf_ch hD.1 _ _ _, hk⟩, hb⟩)
end Go.Proofs.YtkncilgmlkeifaaGreatDoor
