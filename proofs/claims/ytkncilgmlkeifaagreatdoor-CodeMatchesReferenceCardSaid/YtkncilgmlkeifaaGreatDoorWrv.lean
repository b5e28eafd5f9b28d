import Derived.Test.YtkncilgmlkeifaaGreatDoorWrt
import Derived.Test.YtkncilgmlkeifaaGreatDoorWru
import Derived.Test.YtkncilgmlkeifaaGreatDoorRrv
/-
  The reference's Reach: its contract.
-/
set_option linter.unusedVariables false
set_option linter.unusedSimpArgs false
namespace Go.Proofs.YtkncilgmlkeifaaGreatDoor
open Go.ChangeShapes Go.WideShapes Go.ChangeAt Go.RowKit Go.Shelf
structure RhK (c : CdV) (a : CdA) (w : World) (R : Nat -> Bool) (W : World) : Prop where
 one : OneK w 36 (cdK c a) W
 row : W.rowIs (w.heap.size + 1) 4 c.b.length (fun j => .bool (R j))
section
variable {c : CdV} {a : CdA} {w W W' : World} {R : Nat -> Bool}
theorem RhK.size (h : RhK c a w R W) : w.heap.size + 2 <= W.heap.size := by
 have := h.row.lt
 omega
theorem RhK.step (h : RhK c a w R W) (hb : Below W.heap.size W W') : RhK c a w R W' := ⟨h.one.step hb, h.row.of_block (hb.block _ h.row.lt)⟩
theorem RhK.set (h : RhK c a w R W) (x : Nat) : RhK c a w (setR R x) (W.setCell ⟨w.heap.size + 1, x, none⟩ (.bool true)) :=
 ⟨h.one.set (Nat.le_refl _) _, (h.row.set x (.bool true)).congr (fun j hj => by unfold setR; split <;> simp_all)⟩
end
theorem mark_take {l : List Int} {R : Nat -> Bool} {i : Nat} (h : i < l.length) : markR R (l.take (i + 1)) = setR (markR R (l.take i)) (l.getD i 0).toNat := by
 unfold markR
 rw [List.take_succ_eq_append_getElem h, List.foldl_append, List.getD_eq_getElem?_getD, List.getElem?_eq_getElem h]
 rfl
theorem mark_up {l : List Int} {R : Nat -> Bool} {x : Nat} (h : R x = true) : markR R l x = true := (mark_true l R x).2 (.inl h)
set_option maxRecDepth 100000 in
set_option maxHeartbeats 8000000 in
theorem Reach_r (c : CdV) (a : CdA) (w : World) (h : CdM c a w) (hf : c.Fits) (h0 : 0 < c.b.length) (hs : ∀ j, j < c.b.length -> succR (c.te j) = succL (c.te j)) (ht : ∀ j, j < c.b.length -> ∀ x, x ∈ succL (c.te j) -> 0 <= x /\ x < c.b.length) :
 Calls Tryz.prog 20 #[cdval c a] w fun e w' => e = .returned (.slice (some ⟨w.heap.size + 1, 0, none⟩) c.b.length c.b.length) /\ w'.rowIs (w.heap.size + 1) 4 c.b.length (fun j => .bool (reachC c j)) /\ Below w.heap.size w w' := by
 have hfb := hf.2.2
 have hmk := fun W => run_make_row' (P := Tryz.prog) 48 4 (.bool false) 1 Tryz.underlying48 infoB rfl .i64 .i64 c.b.length (by omega) (by omega) W
 have HM := lh (fun (W : World) (hW : OneK w 36 (cdK c a) W) => h.on hW.below)
 have H1 := lh (show RhK c a w (fun _ => false) ((w.alloc (.cells (cdK c a) 36)).alloc (.cells (madeCells #[.bool false] c.b.length) 4)) from
  ⟨OneK.start.step ((Below.refl _ _).alloc (Nat.le_refl _) _), by
   have := World.rowIs_made (w.alloc (.cells (cdK c a) 36)) (.bool false) c.b.length 4
   rwa [World.size_alloc] at this⟩)
 have HS := lh hs
 have HT := lh ht
 have HR := lh (show ∀ x, roundsR c.b.length c.te c.b.length x = reachC c x from fun x => reach_ref ht h0 x)
 have hc0 := H1.out.row.cell h0
 have hz0 := H1.out.row.frozen 0
 have h00 : (0 : Int) < (c.b.length : Int) := by omega
 have H2 := lh (show RhK c a w (roundsR c.b.length c.te 0) _ from H1.out.set 0)
 clear h hs ht
 unfold cdK at hc0 hz0
 have e2 := H2
 unfold cdK at e2
 unfold cdval
 go_enter Tryz.func20, Tryz.ntmps20
 go_wp2
 go_loopg [4] c.b.length (fun g z4 wx => ∃ k : Nat, z4 = .int .i64 k /\ k + g = c.b.length /\ Hid (RhK c a w (roundsR c.b.length c.te k) wx))
 case atStart => exact ⟨0, rfl, by omega, lh (by have := e2.out; rwa [World.setCell_alloc_at _ _ _ _ _ (by simp)] at this)⟩
 case round =>
  clear hc0 hz0 hmk e2 H2 H1
  obtain ⟨k, rfl, hkg, HK⟩ := hrel
  have kc := HK.out.one.ck
  unfold cdK at kc
  cases gk with
  | zero =>
   obtain rfl : k = c.b.length := by omega
   have hk0 : ¬ ((c.b.length : Int) < (c.b.length : Int)) := by omega
   go_wp2
   go_ret
   exact ⟨rfl, HK.out.row.congr (fun j hj => by rw [HR.out]), HK.out.one.below⟩
  | succ g =>
   have hk2 : (k : Int) < (c.b.length : Int) := by omega
   obtain ⟨wo, rfl⟩ : ∃ wo : World, wo = wr := ⟨_, rfl⟩
   go_wp2
   clear kc
   go_loopg [5] c.b.length (fun g2 z5 wx => ∃ b : Nat, z5 = .int .i64 b /\ b + g2 = c.b.length /\ Hid (RhK c a w (passR c.te (roundsR c.b.length c.te k) b) wx))
   case atStart => exact ⟨0, rfl, by omega, HK⟩
   case round =>
    clear HK
    obtain ⟨b, rfl, hbg, HK⟩ := hrel
    have kc := HK.out.one.ck
    unfold cdK at kc
    cases gk with
    | zero =>
     obtain rfl : b = c.b.length := by omega
     have hb0 : ¬ ((c.b.length : Int) < (c.b.length : Int)) := by omega
     go_wp2
     go_roundg g
     case measure => omega
     case rel => exact ⟨k + 1, by go_num, by omega, HK⟩
    | succ g2 =>
     have hb1 : b < c.b.length := by omega
     have hb2 : (b : Int) < (c.b.length : Int) := by omega
     have hb3 : 0 <= (b : Int) := by omega
     obtain ⟨b1, o1, ea, hbl, hc1⟩ := (HM.out _ HK.out.one).blocks (by omega)
     obtain ⟨m0, m1, m2, m3, m4, m5, m6, m7, m8, m9, m10, m11, m12, m13⟩ := hc1 b hb1
     rw [ea] at kc
     clear hc1 ea
     obtain ⟨R, hR⟩ : ∃ R, passR c.te (roundsR c.b.length c.te k) b = R := ⟨_, rfl⟩
     have HPN := lh (show passR c.te (roundsR c.b.length c.te k) (b + 1) = if R b = true then markR R (succL (c.te b)) else R from by show stepR _ _ _ = _; rw [hR]; rfl)
     rw [hR] at HK
     clear hR
     have HU := lh (fun W => Succ_r (c.te b) W)
     rw [HS.out b hb1] at HU
     have HTB := lh (HT.out b hb1)
     obtain ⟨l, hl⟩ : ∃ l, succL (c.te b) = l := ⟨_, rfl⟩
     have hl2 : l.length <= 2 := by rw [<- hl]; exact succL_len _
     rw [hl] at HU HTB HPN
     simp only [TermV.val] at HU
     clear hl
     obtain ⟨wp, rfl⟩ : ∃ wp : World, wp = wr := ⟨_, rfl⟩
     go_wp2_with (first | (go_at_call 23; (with_reducible refine (HU.out _).mono ?_); rintro e w1 ⟨rfl, hc, hlt, hbw⟩; have HC := lh hc; have HLT := lh hlt; have HK1 := lh (HK.out.step hbw); clear hc hlt hbw))
     clear kc m0 m1 m2 m3 m4 m5 m6 m7 m8 m9 m10 m11 m12 m13
     have hgl : w.heap.size + 2 <= wp.heap.size := HK.out.size
     cases hRb : R b
     . have HPF : Hid (passR c.te (roundsR c.b.length c.te k) (b + 1) = R) := lh (by rw [HPN.out, hRb]; rfl)
       have hcb := HK1.out.row.cell hb1
       rw [hRb] at hcb
       go_loopg [7] 0 (fun g3 z7 wx => z7 = .int .i64 0 /\ w1 = wx)
       case atStart => exact ⟨rfl, rfl⟩
       case round =>
        obtain ⟨rfl, rfl⟩ := hrel
        by_cases hl0 : l.length = 0
        . have hl1 : ¬ ((0 : Int) < (l.length : Int)) := by omega
          go_wp2
          go_roundg g2
          case measure => omega
          case rel => exact ⟨b + 1, by go_num, by omega, lh (by rw [HPF.out]; exact HK1.out)⟩
        . have hl1 : (0 : Int) < (l.length : Int) := by omega
          go_wp2
          go_roundg g2
          case measure => omega
          case rel => exact ⟨b + 1, by go_num, by omega, lh (by rw [HPF.out]; exact HK1.out)⟩
     . have HPT : Hid (passR c.te (roundsR c.b.length c.te k) (b + 1) = markR R l) := lh (by rw [HPN.out, hRb]; rfl)
       go_loopg [7] l.length (fun g3 z7 wx => ∃ i : Nat, z7 = .int .i64 i /\ i + g3 = l.length /\ Hid (RhK c a w (markR R (l.take i)) wx) /\ Hid (∀ j, j < l.length -> wx.cell? ⟨wp.heap.size + 1, j, none⟩ = some (.int .i64 (l.getD j 0))))
       case atStart => exact ⟨0, rfl, by omega, HK1, HC⟩
       case round =>
        obtain ⟨i, rfl, hig, HKi, HCi⟩ := hrel
        have hcb := HKi.out.row.cell hb1
        rw [mark_up hRb] at hcb
        cases gk with
        | zero =>
         obtain rfl : i = l.length := by omega
         have hi0 : ¬ ((l.length : Int) < (l.length : Int)) := by omega
         go_wp2
         go_roundg g2
         case measure => omega
         case rel => exact ⟨b + 1, by go_num, by omega, lh (by rw [HPT.out]; have := HKi.out; rwa [List.take_length] at this)⟩
        | succ g3 =>
         have hi1 : i < l.length := by omega
         have hi2 : (i : Int) < (l.length : Int) := by omega
         have hi3 : 0 <= (i : Int) := by omega
         have mi := HCi.out i hi1
         obtain ⟨xi, hxi⟩ : ∃ xi, l.getD i 0 = xi := ⟨_, rfl⟩
         have hxm : xi ∈ l := by
          rw [<- hxi, List.getD_eq_getElem?_getD, List.getElem?_eq_getElem hi1]
          exact List.getElem_mem _
         obtain ⟨x0, x1⟩ := HTB.out xi hxm
         obtain ⟨x, rfl⟩ : ∃ x : Nat, xi = x := ⟨xi.toNat, by omega⟩
         have HMT := lh (mark_take (R := R) hi1)
         rw [hxi, Int.toNat_natCast] at HMT
         rw [hxi] at mi
         have hxn : x < c.b.length := by omega
         have hcx := HKi.out.row.cell hxn
         have hfx := HKi.out.row.frozen x
         clear hxi hxm
         go_wp2
         go_roundg g3
         case measure => omega
         case rel => exact ⟨i + 1, by go_num, by omega, lh (by rw [HMT.out]; exact HKi.out.set x), lh (fun j hj => (World.cell?_setCell_other _ _ _ _ (fun e => by have := congrArg Addr.block e; simp at this; omega)).trans (HCi.out j hj))⟩
end Go.Proofs.YtkncilgmlkeifaaGreatDoor
