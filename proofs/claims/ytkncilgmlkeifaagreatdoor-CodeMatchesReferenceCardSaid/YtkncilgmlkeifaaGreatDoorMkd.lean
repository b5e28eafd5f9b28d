/-
  The reference: Made.
-/
import Derived.Test.YtkncilgmlkeifaaGreatDoorTkp
import Derived.Test.YtkncilgmlkeifaaGreatDoorMkm
import Derived.Test.YtkncilgmlkeifaaGreatDoorPar
import Derived.BigQuiet
import Derived.Deep.RegionHeld3
import Derived.Deep.CutBlock
set_option linter.unusedVariables false
set_option linter.unusedSimpArgs false
namespace Go.Proofs.YtkncilgmlkeifaaGreatDoor
open Go.ChangeShapes Go.WideShapes Go.ChangeAt Go.RowKit Go.Shelf
def Bx5 (b : Nat) (W : World) : Prop := W.heap[b]? = some (.cells #[(4:Int), (1:Int), (2:Int), (8:Int), (6:Int)] 3 (0, 0))
def q5 (x : Int) : Int := ([4, 1, 2, 8, 6] : List Int).getD x.toNat 0
theorem Bx5.on {b : Nat} {W W' : World} (h : Bx5 b W) (k : KM W W') : Bx5 b W' := (k.1 b _ 3 _ h (by decide)).trans h
theorem Bx5.cell {b : Nat} {W : World} (h : Bx5 b W) {x : Int} (hx : 0 <= x /\ x < 5) : W.cell? ⟨b, x.toNat, none⟩ = some (.int .i64 (q5 x)) := by
 have : x = 0 \/ x = 1 \/ x = 2 \/ x = 3 \/ x = 4 := by omega
 rcases this with rfl | rfl | rfl | rfl | rfl
 . exact cell_blk h (i := 0) rfl
 . exact cell_blk h (i := 1) rfl
 . exact cell_blk h (i := 2) rfl
 . exact cell_blk h (i := 3) rfl
 . exact cell_blk h (i := 4) rfl
theorem Bx5.new (W : World) : Bx5 W.heap.size (W.alloc (.cells #[(4:Int), (1:Int), (2:Int), (8:Int), (6:Int)] 3)) := heap_alloc_new _ _
def Gq (g : Int) : Prop := g = 4 \/ g = 1 \/ g = 2 \/ g = 8 \/ g = 6
theorem q5_ok {x : Int} (hx : 0 <= x /\ x < 5) : Gq (q5 x) := by
 have : x = 0 \/ x = 1 \/ x = 2 \/ x = 3 \/ x = 4 := by omega
 unfold Gq
 rcases this with rfl | rfl | rfl | rfl | rfl <;> decide
theorem gs_ok {g s : Int} (hg : Gq g) (hs : s = 1 \/ s = 2 \/ s = 4) (hm : g % s = 0) : sizB g s 0 0 0 = true /\ (1 <= g /\ g <= 8) /\ (1 <= s /\ s <= 8) := by
 unfold Gq at hg
 rcases hg with rfl | rfl | rfl | rfl | rfl <;> rcases hs with rfl | rfl | rfl <;> first | (exact ⟨by decide +kernel, by decide, by decide⟩) | (exact absurd hm (by decide))
theorem RBy.on {w w' : World} {A : Option Addr} {n : Nat} {f : Nat -> Int} (h : RBy w A n f) (hb : Below w.heap.size w w') : RBy w' A n f := by
 intro hn
 obtain ⟨b, off, e, hl, hc⟩ := h hn
 exact ⟨b, off, e, Nat.lt_of_lt_of_le hl hb.size, fun j hj => ⟨(World.cell?_of_block (hb.block b hl)).trans (hc j hj).1, (hc j hj).2⟩⟩
theorem MT.cellsA {rb n0 K : Nat} {L : Value × Value} {nm : Nat -> Int} {qs : List ArV} {ls : List LoV} {init : List BlV} {last : Option BlV} {w0 W : World} (h : MT rb n0 L K nm qs ls init last w0 W) :
 (∃ u, W.cell? ⟨rb, 2, none⟩ = some u) /\ (∃ u, W.cell? ⟨rb, 3, none⟩ = some u) /\ (∃ u, W.cell? ⟨rb, 4, none⟩ = some u) /\ (∃ u, W.cell? ⟨rb, 5, none⟩ = some u) /\ (∃ u, W.cell? ⟨rb, 6, none⟩ = some u) /\ (∃ u, W.cell? ⟨rb, 7, none⟩ = some u) /\ (∃ u, W.cell? ⟨rb, 8, none⟩ = some u) /\ (∃ u, W.cell? ⟨rb, 9, none⟩ = some u) /\ ∀ o, W.frozen? ⟨rb, o, none⟩ = false := by
 obtain ⟨n1, g, I, La, h1, _⟩ := h
 exact ⟨⟨_, h1.row.cell (by decide)⟩, ⟨_, h1.row.cell (by decide)⟩, ⟨_, h1.row.cell (by decide)⟩, ⟨_, h1.row.cell (by decide)⟩, ⟨_, h1.row.cell (by decide)⟩, ⟨_, h1.row.cell (by decide)⟩, ⟨_, h1.row.cell (by decide)⟩, ⟨_, h1.row.cell (by decide)⟩, fun o => h1.row.frozen o⟩
def MdS (rb n0 : Nat) (L : Value) (K : Nat) (w0 W0 W : World) : Prop := ∃ (g : Int) (aS cS : Nat), Gq g /\ MT rb n0 (L, .slice (some ⟨aS, 0, none⟩) 5 cS) K (nmM g 1 6) arM [] [] none w0 W /\ KM W0 W
theorem MdS.of {rb n0 K : Nat} {L : Value × Value} {num : Nat -> Int} {w0 W0 W' W : World} {g : Int} {aS cS : Nat} (h : MT rb n0 L K num [] [] [] none w0 W) (ha : W'.ownsRow n0 91 4 (.slice (some ⟨aS, 0, none⟩) 5 cS) 5 (flatA arM)) (hb : Below W'.heap.size W' W) (hg : Gq g) (k : KM W0 W) :
 MdS rb n0 L.1 K w0 W0 ((((((((W.setCell ⟨rb, 2, none⟩ (.int .i64 g)).setCell ⟨rb, 3, none⟩ (.int .i64 1)).setCell ⟨rb, 4, none⟩ (.int .i64 6)).setCell ⟨rb, 5, none⟩ (.int .i64 0)).setCell ⟨rb, 6, none⟩ (.int .i64 3)).setCell ⟨rb, 7, none⟩ (.slice (some ⟨aS, 0, none⟩) 5 cS)).setCell ⟨rb, 8, none⟩ (.slice none 0 0)).setCell ⟨rb, 9, none⟩ (.slice none 0 0)) := by
 have hh := h.begin (row_kept ha (below_kept (S := fun _ => True) hb) trivial) g 1 6
 exact ⟨g, aS, cS, hg, hh.1, k.trans hh.2⟩
theorem SA.below {rb n0 K : Nat} {L : Value × Value} {gr sb : Int} {q n M m : Nat} {w0 W0 W : World} (h : SA rb n0 L K gr sb q n M m w0 W0 W) : Below w0.heap.size w0 W := by
 obtain ⟨ls, init, is, t, h1, h2, h3, h4, h5, h6, h7, h8⟩ := h
 obtain ⟨n1, g, I, La, _, _, _, _, _, _, h, _⟩ := h3
 exact h
def EndP (rb : Nat) (w1 W2 W : World) : Prop := (∃ (d : CdV) (a : CdA), MdOk d /\ CdK d a W /\ (∀ j, j < 5 -> W.cell? ⟨rb, 2 + j, none⟩ = some (.int .i64 (d.n j))) /\ W.cell? ⟨rb, 7, none⟩ = some (.slice a.a1 d.q.length a.c1) /\ W.cell? ⟨rb, 8, none⟩ = some (.slice a.a2 d.l.length a.c2) /\ W.cell? ⟨rb, 9, none⟩ = some (.slice a.a3 d.b.length a.c3) /\ KM W2 W) /\ Below w1.heap.size w1 W
theorem EndP.mk {rb : Nat} {w1 W2 W : World} (h : ∃ (d : CdV) (a : CdA), MdOk d /\ CdK d a W /\ (∀ j, j < 5 -> W.cell? ⟨rb, 2 + j, none⟩ = some (.int .i64 (d.n j))) /\ W.cell? ⟨rb, 7, none⟩ = some (.slice a.a1 d.q.length a.c1) /\ W.cell? ⟨rb, 8, none⟩ = some (.slice a.a2 d.l.length a.c2) /\ W.cell? ⟨rb, 9, none⟩ = some (.slice a.a3 d.b.length a.c3) /\ KM W2 W) (hb : Below w1.heap.size w1 W) : EndP rb w1 W2 W := ⟨h, hb⟩
theorem EndP.drew {rb : Nat} {w1 W2 W : World} (h : EndP rb w1 W2 W) : EndP rb w1 W2 W.drew := by
 obtain ⟨⟨d, a, m1, m2, m3, m4, m5, m6, m7⟩, hb⟩ := h
 exact ⟨⟨d, a, m1, m2.on (below_drewN (Below.refl _ _) 1), m3, m4, m5, m6, m7.trans (KM.dr _)⟩, below_drewN hb 1⟩
theorem res_cells {W : World} {b : Nat} {c0 c1 c2 c3 c4 c5 c6 c7 : Value} (hb : W.heap[b]? = some (.cells #[c0, c1, c2, c3, c4, c5, c6, c7] 36 (0, 0))) (v0 v1 v2 v3 v4 v5 v6 v7 : Value) :
 ((((((((W.setCell ⟨b, 0, none⟩ v0).setCell ⟨b, 1, none⟩ v1).setCell ⟨b, 2, none⟩ v2).setCell ⟨b, 3, none⟩ v3).setCell ⟨b, 4, none⟩ v4).setCell ⟨b, 5, none⟩ v5).setCell ⟨b, 6, none⟩ v6).setCell ⟨b, 7, none⟩ v7).heap[b]? = some (.cells #[v0, v1, v2, v3, v4, v5, v6, v7] 36 (0, 0)) := by
 have k0 : (W.setCell ⟨b, 0, none⟩ v0).heap[b]? = some (.cells #[v0, c1, c2, c3, c4, c5, c6, c7] 36 (0, 0)) := heap_setCell_same _ b 0 _ 36 v0 hb
 have k1 : ((W.setCell ⟨b, 0, none⟩ v0).setCell ⟨b, 1, none⟩ v1).heap[b]? = some (.cells #[v0, v1, c2, c3, c4, c5, c6, c7] 36 (0, 0)) := heap_setCell_same _ b 1 _ 36 v1 k0
 have k2 : (((W.setCell ⟨b, 0, none⟩ v0).setCell ⟨b, 1, none⟩ v1).setCell ⟨b, 2, none⟩ v2).heap[b]? = some (.cells #[v0, v1, v2, c3, c4, c5, c6, c7] 36 (0, 0)) := heap_setCell_same _ b 2 _ 36 v2 k1
 have k3 : ((((W.setCell ⟨b, 0, none⟩ v0).setCell ⟨b, 1, none⟩ v1).setCell ⟨b, 2, none⟩ v2).setCell ⟨b, 3, none⟩ v3).heap[b]? = some (.cells #[v0, v1, v2, v3, c4, c5, c6, c7] 36 (0, 0)) := heap_setCell_same _ b 3 _ 36 v3 k2
 have k4 : (((((W.setCell ⟨b, 0, none⟩ v0).setCell ⟨b, 1, none⟩ v1).setCell ⟨b, 2, none⟩ v2).setCell ⟨b, 3, none⟩ v3).setCell ⟨b, 4, none⟩ v4).heap[b]? = some (.cells #[v0, v1, v2, v3, v4, c5, c6, c7] 36 (0, 0)) := heap_setCell_same _ b 4 _ 36 v4 k3
 have k5 : ((((((W.setCell ⟨b, 0, none⟩ v0).setCell ⟨b, 1, none⟩ v1).setCell ⟨b, 2, none⟩ v2).setCell ⟨b, 3, none⟩ v3).setCell ⟨b, 4, none⟩ v4).setCell ⟨b, 5, none⟩ v5).heap[b]? = some (.cells #[v0, v1, v2, v3, v4, v5, c6, c7] 36 (0, 0)) := heap_setCell_same _ b 5 _ 36 v5 k4
 have k6 : (((((((W.setCell ⟨b, 0, none⟩ v0).setCell ⟨b, 1, none⟩ v1).setCell ⟨b, 2, none⟩ v2).setCell ⟨b, 3, none⟩ v3).setCell ⟨b, 4, none⟩ v4).setCell ⟨b, 5, none⟩ v5).setCell ⟨b, 6, none⟩ v6).heap[b]? = some (.cells #[v0, v1, v2, v3, v4, v5, v6, c7] 36 (0, 0)) := heap_setCell_same _ b 6 _ 36 v6 k5
 have k7 : ((((((((W.setCell ⟨b, 0, none⟩ v0).setCell ⟨b, 1, none⟩ v1).setCell ⟨b, 2, none⟩ v2).setCell ⟨b, 3, none⟩ v3).setCell ⟨b, 4, none⟩ v4).setCell ⟨b, 5, none⟩ v5).setCell ⟨b, 6, none⟩ v6).setCell ⟨b, 7, none⟩ v7).heap[b]? = some (.cells #[v0, v1, v2, v3, v4, v5, v6, v7] 36 (0, 0)) := heap_setCell_same _ b 7 _ 36 v7 k6
 exact k7
theorem res_store {w W : World} {b : Nat} {d : CdV} {a : CdA} {C : Array Value} (hk : CdK d a W) (hb : W.heap[b]? = some (.cells C 36 (0, 0))) (h0 : w.heap.size <= b) (hw : Below w.heap.size w W) (v0 v1 v2 v3 v4 v5 v6 v7 : Value) :
 CdK d a ((((((((W.setCell ⟨b, 0, none⟩ v0).setCell ⟨b, 1, none⟩ v1).setCell ⟨b, 2, none⟩ v2).setCell ⟨b, 3, none⟩ v3).setCell ⟨b, 4, none⟩ v4).setCell ⟨b, 5, none⟩ v5).setCell ⟨b, 6, none⟩ v6).setCell ⟨b, 7, none⟩ v7) /\
 Below w.heap.size w ((((((((W.setCell ⟨b, 0, none⟩ v0).setCell ⟨b, 1, none⟩ v1).setCell ⟨b, 2, none⟩ v2).setCell ⟨b, 3, none⟩ v3).setCell ⟨b, 4, none⟩ v4).setCell ⟨b, 5, none⟩ v5).setCell ⟨b, 6, none⟩ v6).setCell ⟨b, 7, none⟩ v7) :=
 ⟨hk.k (k36_store hb v0 v1 v2 v3 v4 v5 v6 v7), (((((((hw.setCell h0 _).setCell h0 _).setCell h0 _).setCell h0 _).setCell h0 _).setCell h0 _).setCell h0 _).setCell h0 _⟩
section
variable (A : Option Addr) (n c : Nat) (f : Nat -> Int)
set_option maxRecDepth 100000 in
set_option maxHeartbeats 16000000 in
theorem made_any (w : World) (hB : RBy w A n f) (hn : n <= 9223372036854775807) :
 Calls Tryz.prog 34 #[.agg #[.slice A n c]] w fun e w' => ∃ (d : CdV) (a : CdA), e = .returned (.agg #[(d.n 0), (d.n 1), (d.n 2), (d.n 3), (d.n 4), .slice a.a1 d.q.length a.c1, .slice a.a2 d.l.length a.c2, .slice a.a3 d.b.length a.c3]) /\ (MdOk d /\ CdK d a w') /\ Below w.heap.size w w' := by
 have hb1 : Below w.heap.size w ((w.alloc (.cells #[.slice A n c] 24)).alloc (.cells #[(0:Int), (0:Int), (0:Int), (0:Int), (0:Int), .slice none 0 0, .slice none 0 0, .slice none 0 0] 36)) := (bo _).alloc (by simp) _
 have hres : ((w.alloc (.cells #[.slice A n c] 24)).alloc (.cells #[(0:Int), (0:Int), (0:Int), (0:Int), (0:Int), .slice none 0 0, .slice none 0 0, .slice none 0 0] 36)).heap[w.heap.size + 1]? = some (.cells #[(0:Int), (0:Int), (0:Int), (0:Int), (0:Int), .slice none 0 0, .slice none 0 0, .slice none 0 0] 36 (0, 0)) := by
  have := heap_alloc_new (w.alloc (.cells #[.slice A n c] 24)) (.cells #[(0:Int), (0:Int), (0:Int), (0:Int), (0:Int), .slice none 0 0, .slice none 0 0, .slice none 0 0] 36)
  rw [World.size_alloc] at this
  exact this
 have HBB := lh (hB.on hb1)
 have HMI := lh (MT.init (.slice A n c) (Below.refl ((w.alloc (.cells #[.slice A n c] 24)).alloc (.cells #[(0:Int), (0:Int), (0:Int), (0:Int), (0:Int), .slice none 0 0, .slice none 0 0, .slice none 0 0] 36)).heap.size ((w.alloc (.cells #[.slice A n c] 24)).alloc (.cells #[(0:Int), (0:Int), (0:Int), (0:Int), (0:Int), .slice none 0 0, .slice none 0 0, .slice none 0 0] 36))))
 have HB1 := lh hb1
 have HRS := lh hres
 clear hb1 hres hB
 go_enter Tryz.func34, Tryz.ntmps34
 go_upto_region 2 with (fail)
 have hs : w.heap.size + 1 + 1 = ((w.alloc (.cells #[.slice A n c] 24)).alloc (.cells #[(0:Int), (0:Int), (0:Int), (0:Int), (0:Int), .slice none 0 0, .slice none 0 0, .slice none 0 0] 36)).heap.size := by simp
 rw [hs]
 have HSZ := lh hs
 clear hs
 generalize ((w.alloc (.cells #[.slice A n c] 24)).alloc (.cells #[(0:Int), (0:Int), (0:Int), (0:Int), (0:Int), .slice none 0 0, .slice none 0 0, .slice none 0 0] 36)) = w1 at *
 have H0 := HMI
 have HK0 := lh (KM.of ((Below.refl w1.heap.size w1).alloc (Nat.le_refl _) (.cells #[.slice A n c, (0:Int), (0:Int), (0:Int), (0:Int), (0:Int), (0:Int), .slice none 0 0, .slice none 0 0, .slice none 0 0] 126)))
 clear HMI
 generalize hW2 : w1.alloc (.cells #[.slice A n c, (0:Int), (0:Int), (0:Int), (0:Int), (0:Int), (0:Int), .slice none 0 0, .slice none 0 0, .slice none 0 0] 126) = W2 at *
 clear hW2
 have HN5 := lh (show ∀ V, MT w1.heap.size w1.heap.size (.slice A n c, .slice none 0 0) 0 (fun _ => 0) [] [] [] none w1 V -> Calls Tryz.prog 65 #[.pointer (some ⟨w1.heap.size, 0, none⟩)] V fun e w' => ∃ u, e = .returned u /\ ((∃ x : Int, u = .int .i64 x /\ 0 <= x /\ x <= 255) /\ MT w1.heap.size w1.heap.size (.slice A n c, .slice none 0 0) (0 + 1) (fun _ => 0) [] [] [] none w1 w' /\ KM V w') from fun V h => (next_any w1.heap.size w1.heap.size 0 (fun _ => 0) [] [] [] none w1 V A n c f (.slice none 0 0) h hn (by decide) HBB.out).mono fun e w' ⟨⟨x, hx, x0, x1⟩, h1, k1⟩ => ⟨_, hx, ⟨x, rfl, x0, x1⟩, h1, k1⟩)
 have HA5 := lh (show ∀ V, MT w1.heap.size w1.heap.size (.slice A n c, .slice none 0 0) (0 + 1) (fun _ => 0) [] [] [] none w1 V -> Calls Tryz.prog 66 #[] V fun e w' => ∃ u, e = .returned u /\ (∃ B, u = .slice (some ⟨B, 0, none⟩) 5 5 /\ w'.ownsRow w1.heap.size 91 4 (.slice (some ⟨B, 0, none⟩) 5 5) 5 (flatA arM) /\ MT w1.heap.size w1.heap.size (.slice A n c, .slice none 0 0) (0 + 1) (fun _ => 0) [] [] [] none w1 w' /\ KM V w') from fun V h => (arrays_any V).mono fun e w' ⟨he, ha, hb⟩ => ⟨_, he, _, rfl, ha.mono h.n0le, h.on hb, KM.of hb⟩)
 go_cut [] (fun wx => Hid (MdS w1.heap.size w1.heap.size (.slice A n c) 1 w1 W2 wx))
 case first =>
  refine wp_region_held_drew (S := (fun _ => True)) (by kernel_rfl) ?_ (fun hHeld => ?_)
  . (try dsimp only); (first | done | trivial)
  refine tk 0 ?_
  refine tk 2 ?_
  refine wpAnyH_ready (rs := [1, 3]) (by kernel_rfl) (by simp) ?_
  refine ax (fun K hK => ?_) ?_
  . go_simp
    refine hK.out _ _ ?_ (fun hHeld => ?_)
    . (try dsimp only); (first | done | trivial)
    clear hK K
    try simp only [pe]
    refine am 3 (fun K hK => ?_) ?_
    . (refine step_call rfl 65 _ _ (by rfl) (enters_of Tryz.func65 (by kernel_rfl) rfl) [.pointer (some ⟨w1.heap.size, 0, none⟩)] (by rfl) _ (HN5.out _ ((H0.out.alloc (.cells #[(4:Int), (1:Int), (2:Int), (8:Int), (6:Int)] 3)).drew)) ?_; rintro u W4 ⟨⟨s, rfl, s0, s1⟩, h4, k4⟩; obtain ⟨d, hs9⟩ : ∃ d : Int, s % 5 = d := ⟨_, rfl⟩; have hs6 : 0 <= d /\ d < 5 := (by omega); have hs7 := hs6.1; have hs8 := hs6.2; have hs10 : Int.tmod s 5 = d := ((Int.tmod_eq_emod_of_nonneg s0).trans hs9); have HK4 := lh (((KM.of (Below.refl _ W2)).al (.cells #[(4:Int), (1:Int), (2:Int), (8:Int), (6:Int)] 3)).trans ((KM.dr _).trans k4)); have hs4 := (Bx5.new W2).on ((KM.dr _).trans k4); have cs4 := hs4.cell hs6; have HS4 := lh hs4; clear hs4; have H4 := lh h4; have HS6 := lh hs6; clear h4 k4 hs6)
      refine hK.out _ _ ?_ (fun hHeld => ?_)
      . (try dsimp only); (first | done | trivial)
      clear hK K
      try simp only [pe]
      refine tk 4 ?_
      refine tk 5 ?_
      refine wpAnyH_ready (rs := [6, 7]) (by kernel_rfl) (by simp) ?_
      refine ax (fun K hK => ?_) ?_
      . go_simp
        refine hK.out _ _ ?_ (fun hHeld => ?_)
        . (try dsimp only); (first | done | trivial)
        clear hK K
        try simp only [pe]
        refine am 7 (fun K hK => ?_) ?_
        . (refine step_call rfl 66 _ _ (by rfl) (enters_of Tryz.func66 (by kernel_rfl) rfl) [] (by rfl) _ (HA5.out _ (H4.out)) ?_; rintro u W5 ⟨B, rfl, ha5, h5, k5⟩; have hs5 := HS4.out.on k5; have cs5 := hs5.cell HS6.out; clear hs5; have HK5 := lh (HK4.out.trans k5); have HE := lh (MdS.of h5 ha5 (Below.refl _ _) (q5_ok HS6.out) HK5.out); obtain ⟨⟨_, f2⟩, ⟨_, f3⟩, ⟨_, f4⟩, ⟨_, f5⟩, ⟨_, f6⟩, ⟨_, f7⟩, ⟨_, f8⟩, ⟨_, f9⟩, ff⟩ := h5.cellsA; clear ha5 h5 k5)
          refine hK.out _ _ ?_ (fun hHeld => ?_)
          . (try dsimp only); (first | done | trivial)
          clear hK K
          try simp only [pe]
          refine tk 8 ?_
          refine tk 9 ?_
          refine tk 10 ?_
          refine am 11 (fun K hK => ?_) ?_
          . go_simp
            refine hK.out _ _ ?_ (fun hHeld => ?_)
            . (try dsimp only); (first | done | trivial)
            clear hK K
            try simp only [pe]
            refine wpAnyH_done (by kernel_rfl) ?_ _
            go_wp2
            go_meet
            exact HE
          exact AllReadyH.nil
        exact AllReadyH.nil
      refine ax (fun K hK => ?_) ?_
      . (refine step_call rfl 66 _ _ (by rfl) (enters_of Tryz.func66 (by kernel_rfl) rfl) [] (by rfl) _ (HA5.out _ (H4.out)) ?_; rintro u W5 ⟨B, rfl, ha5, h5, k5⟩; have hs5 := HS4.out.on k5; have cs5 := hs5.cell HS6.out; clear hs5; have HK5 := lh (HK4.out.trans k5); have HE := lh (MdS.of h5 ha5 (Below.refl _ _) (q5_ok HS6.out) HK5.out); obtain ⟨⟨_, f2⟩, ⟨_, f3⟩, ⟨_, f4⟩, ⟨_, f5⟩, ⟨_, f6⟩, ⟨_, f7⟩, ⟨_, f8⟩, ⟨_, f9⟩, ff⟩ := h5.cellsA; clear ha5 h5 k5)
        refine hK.out _ _ ?_ (fun hHeld => ?_)
        . (try dsimp only); (first | done | trivial)
        clear hK K
        try simp only [pe]
        refine am 6 (fun K hK => ?_) ?_
        . go_simp
          refine hK.out _ _ ?_ (fun hHeld => ?_)
          . (try dsimp only); (first | done | trivial)
          clear hK K
          try simp only [pe]
          refine tk 8 ?_
          refine tk 9 ?_
          refine tk 10 ?_
          refine am 11 (fun K hK => ?_) ?_
          . go_simp
            refine hK.out _ _ ?_ (fun hHeld => ?_)
            . (try dsimp only); (first | done | trivial)
            clear hK K
            try simp only [pe]
            refine wpAnyH_done (by kernel_rfl) ?_ _
            go_wp2
            go_meet
            exact HE
          exact AllReadyH.nil
        exact AllReadyH.nil
      exact AllReadyH.nil
    exact AllReadyH.nil
  refine ax (fun K hK => ?_) ?_
  . (refine step_call rfl 65 _ _ (by rfl) (enters_of Tryz.func65 (by kernel_rfl) rfl) [.pointer (some ⟨w1.heap.size, 0, none⟩)] (by rfl) _ (HN5.out _ (H0.out.drew)) ?_; rintro u W4 ⟨⟨s, rfl, s0, s1⟩, h4, k4⟩; obtain ⟨d, hs9⟩ : ∃ d : Int, s % 5 = d := ⟨_, rfl⟩; have hs6 : 0 <= d /\ d < 5 := (by omega); have hs7 := hs6.1; have hs8 := hs6.2; have hs10 : Int.tmod s 5 = d := ((Int.tmod_eq_emod_of_nonneg s0).trans hs9); have HK4 := lh ((KM.dr W2).trans k4); have ca4 := (Bx5.new W4).cell hs6; have H4 := lh h4; have HS6 := lh hs6; clear h4 k4 hs6)
    refine hK.out _ _ ?_ (fun hHeld => ?_)
    . (try dsimp only); (first | done | trivial)
    clear hK K
    try simp only [pe]
    refine tk 4 ?_
    refine wpAnyH_ready (rs := [1, 7]) (by kernel_rfl) (by simp) ?_
    refine ax (fun K hK => ?_) ?_
    . go_simp
      refine hK.out _ _ ?_ (fun hHeld => ?_)
      . (try dsimp only); (first | done | trivial)
      clear hK K
      try simp only [pe]
      refine tk 5 ?_
      refine wpAnyH_ready (rs := [6, 7]) (by kernel_rfl) (by simp) ?_
      refine ax (fun K hK => ?_) ?_
      . go_simp
        refine hK.out _ _ ?_ (fun hHeld => ?_)
        . (try dsimp only); (first | done | trivial)
        clear hK K
        try simp only [pe]
        refine am 7 (fun K hK => ?_) ?_
        . (refine step_call rfl 66 _ _ (by rfl) (enters_of Tryz.func66 (by kernel_rfl) rfl) [] (by rfl) _ (HA5.out _ ((H4.out.alloc (.cells #[(4:Int), (1:Int), (2:Int), (8:Int), (6:Int)] 3)))) ?_; rintro u W5 ⟨B, rfl, ha5, h5, k5⟩; have hs5 := (Bx5.new W4).on k5; have cs5 := hs5.cell HS6.out; clear hs5; have HK5 := lh ((HK4.out.al (.cells #[(4:Int), (1:Int), (2:Int), (8:Int), (6:Int)] 3)).trans k5); have HE := lh (MdS.of h5 ha5 (Below.refl _ _) (q5_ok HS6.out) HK5.out); obtain ⟨⟨_, f2⟩, ⟨_, f3⟩, ⟨_, f4⟩, ⟨_, f5⟩, ⟨_, f6⟩, ⟨_, f7⟩, ⟨_, f8⟩, ⟨_, f9⟩, ff⟩ := h5.cellsA; clear ha5 h5 k5)
          refine hK.out _ _ ?_ (fun hHeld => ?_)
          . (try dsimp only); (first | done | trivial)
          clear hK K
          try simp only [pe]
          refine tk 8 ?_
          refine tk 9 ?_
          refine tk 10 ?_
          refine am 11 (fun K hK => ?_) ?_
          . go_simp
            refine hK.out _ _ ?_ (fun hHeld => ?_)
            . (try dsimp only); (first | done | trivial)
            clear hK K
            try simp only [pe]
            refine wpAnyH_done (by kernel_rfl) ?_ _
            go_wp2
            go_meet
            exact HE
          exact AllReadyH.nil
        exact AllReadyH.nil
      refine ax (fun K hK => ?_) ?_
      . (refine step_call rfl 66 _ _ (by rfl) (enters_of Tryz.func66 (by kernel_rfl) rfl) [] (by rfl) _ (HA5.out _ ((H4.out.alloc (.cells #[(4:Int), (1:Int), (2:Int), (8:Int), (6:Int)] 3)))) ?_; rintro u W5 ⟨B, rfl, ha5, h5, k5⟩; have hs5 := (Bx5.new W4).on k5; have cs5 := hs5.cell HS6.out; clear hs5; have HK5 := lh ((HK4.out.al (.cells #[(4:Int), (1:Int), (2:Int), (8:Int), (6:Int)] 3)).trans k5); have HE := lh (MdS.of h5 ha5 (Below.refl _ _) (q5_ok HS6.out) HK5.out); obtain ⟨⟨_, f2⟩, ⟨_, f3⟩, ⟨_, f4⟩, ⟨_, f5⟩, ⟨_, f6⟩, ⟨_, f7⟩, ⟨_, f8⟩, ⟨_, f9⟩, ff⟩ := h5.cellsA; clear ha5 h5 k5)
        refine hK.out _ _ ?_ (fun hHeld => ?_)
        . (try dsimp only); (first | done | trivial)
        clear hK K
        try simp only [pe]
        refine am 6 (fun K hK => ?_) ?_
        . go_simp
          refine hK.out _ _ ?_ (fun hHeld => ?_)
          . (try dsimp only); (first | done | trivial)
          clear hK K
          try simp only [pe]
          refine tk 8 ?_
          refine tk 9 ?_
          refine tk 10 ?_
          refine am 11 (fun K hK => ?_) ?_
          . go_simp
            refine hK.out _ _ ?_ (fun hHeld => ?_)
            . (try dsimp only); (first | done | trivial)
            clear hK K
            try simp only [pe]
            refine wpAnyH_done (by kernel_rfl) ?_ _
            go_wp2
            go_meet
            exact HE
          exact AllReadyH.nil
        exact AllReadyH.nil
      exact AllReadyH.nil
    refine ax (fun K hK => ?_) ?_
    . (refine step_call rfl 66 _ _ (by rfl) (enters_of Tryz.func66 (by kernel_rfl) rfl) [] (by rfl) _ (HA5.out _ (H4.out)) ?_; rintro u W5 ⟨B, rfl, ha5, h5, k5⟩; have ca5 := (Bx5.new W5).cell HS6.out; have HK5 := lh (HK4.out.trans k5); have h6 := h5.alloc (.cells #[(4:Int), (1:Int), (2:Int), (8:Int), (6:Int)] 3); have HE := lh (MdS.of h6 ha5 (bo _) (q5_ok HS6.out) (HK5.out.al _)); obtain ⟨⟨_, f2⟩, ⟨_, f3⟩, ⟨_, f4⟩, ⟨_, f5⟩, ⟨_, f6⟩, ⟨_, f7⟩, ⟨_, f8⟩, ⟨_, f9⟩, ff⟩ := h6.cellsA; clear h6; clear ha5 h5 k5)
      refine hK.out _ _ ?_ (fun hHeld => ?_)
      . (try dsimp only); (first | done | trivial)
      clear hK K
      try simp only [pe]
      refine am 1 (fun K hK => ?_) ?_
      . go_simp
        refine hK.out _ _ ?_ (fun hHeld => ?_)
        . (try dsimp only); (first | done | trivial)
        clear hK K
        try simp only [pe]
        refine tk 5 ?_
        refine am 6 (fun K hK => ?_) ?_
        . go_simp
          refine hK.out _ _ ?_ (fun hHeld => ?_)
          . (try dsimp only); (first | done | trivial)
          clear hK K
          try simp only [pe]
          refine tk 8 ?_
          refine tk 9 ?_
          refine tk 10 ?_
          refine am 11 (fun K hK => ?_) ?_
          . go_simp
            refine hK.out _ _ ?_ (fun hHeld => ?_)
            . (try dsimp only); (first | done | trivial)
            clear hK K
            try simp only [pe]
            refine wpAnyH_done (by kernel_rfl) ?_ _
            go_wp2
            go_meet
            exact HE
          exact AllReadyH.nil
        exact AllReadyH.nil
      exact AllReadyH.nil
    exact AllReadyH.nil
  exact AllReadyH.nil
 case rest =>
 have HM1 := hcut
 clear hcut HN5 HA5 H0
 obtain ⟨g, aS, cS, hg, hm, hk⟩ := HM1.out
 have HG := lh hg
 have H1 := lh hm
 have HK1 := lh hk
 have hg8 : 1 <= g /\ g <= 8 := by unfold Gq at hg; omega
 obtain ⟨hg1, hg2⟩ := hg8
 have HNM := lh (fun K W h (hk : K <= 1000000) => next_any w1.heap.size w1.heap.size K (nmM g 1 6) arM [] [] none w1 W A n c f (.slice (some ⟨aS, 0, none⟩) 5 cS) h hn hk HBB.out)
 clear hg hm hk HM1
 go_upto_block 0 with (first | (go_at_call 65; (with_reducible refine (HNM.out _ _ H1.out (by decide)).mono ?_); rintro e W6 ⟨⟨y, rfl, y0, y1⟩, h6, k6⟩; have H6 := lh h6; have HK6 := lh (HK1.out.trans k6); clear h6 k6))
 obtain ⟨z, hz⟩ : ∃ z : Nat, y % 3 = (z : Int) := ⟨(y % 3).toNat, by omega⟩
 have hz2 : z <= 2 := by omega
 rw [hz]
 clear hz y0 y1 H1 HK1
 go_cut [] (fun wx => Hid (∃ s : Int, (s = 1 \/ s = 2 \/ s = 4) /\ g % s = 0 /\ MT w1.heap.size w1.heap.size (.slice A n c, .slice (some ⟨aS, 0, none⟩) 5 cS) 2 (nmM g s 6) arM [] [] none w1 wx /\ KM W2 wx))
 case first =>
  go_wp2_with fail
  go_loopg [4] z (fun gk v wx => v = .int .i64 (gk : Int) /\ gk <= z /\ Hid (∃ s : Int, (s = 1 \/ s = 2 \/ s = 4) /\ (gk = 2 -> s = 1) /\ (gk = 1 -> s = 1 \/ s = 2) /\ g % s = 0 /\ MT w1.heap.size w1.heap.size (.slice A n c, .slice (some ⟨aS, 0, none⟩) 5 cS) 2 (nmM g s 6) arM [] [] none w1 wx /\ KM W2 wx))
  case atStart => exact ⟨rfl, Nat.le_refl _, lh ⟨1, .inl rfl, fun _ => rfl, fun _ => .inl rfl, Int.emod_one g, H6.out, HK6.out⟩⟩
  case round =>
   obtain ⟨rfl, hgz, HS⟩ := hrel
   obtain ⟨s, hs, hs2, hs1, hgs, hm, hk⟩ := HS.out
   have HM7 := lh hm
   have HK7 := lh hk
   have c2 : wr.cell? ⟨w1.heap.size, 2, none⟩ = some (.int .i64 g) := hm.num 0 (by decide)
   have c3 : wr.cell? ⟨w1.heap.size, 3, none⟩ = some (.int .i64 s) := hm.num 1 (by decide)
   clear hm hk HS
   cases gk with
   | zero =>
    have HX := lh (And.intro hs hgs)
    clear hs hs2 hs1 hgs
    go_wp2
    go_quiet (fail)
    go_wp2
    go_meet
    exact lh ⟨s, HX.out.1, HX.out.2, HM7.out.drewN _, HK7.out.drewN _⟩
   | succ gh =>
    have hpos : (0 : Int) < (gh : Int) + 1 := by omega
    have hs3 : s = 1 \/ s = 2 := by
     have : gh + 1 = 1 \/ gh + 1 = 2 := by omega
     rcases this with h | h
     . exact hs1 h
     . exact .inl (hs2 h)
    have hsg : s = 2 -> gh = 0 := fun h => by
     have : gh + 1 = 1 \/ gh + 1 = 2 := by omega
     rcases this with h' | h'
     . omega
     . have := hs2 h'
       omega
    rw [show ((gh + 1 : Nat) : Int) = (gh : Int) + 1 from rfl]
    have f3 := HM7.out.frozen 3
    have HX := lh (And.intro hs (And.intro hgs hsg))
    obtain ⟨mm, hmm⟩ : ∃ mm, g % (2 * s) = mm := ⟨_, rfl⟩
    have HMM := lh hmm
    have htm : Int.tmod g (2 * s) = mm := (Int.tmod_eq_emod_of_nonneg (by omega)).trans hmm
    have hw2 : IntKind.i64.wrap (2 * s) = 2 * s := IntWalk.i64_in _ (by omega)
    have hz0 : ¬ (2 * s = 0) := by omega
    have hz1 : ((2 * s) == 0) = false := by simpa using hz0
    have hs01 : 1 <= s := by omega
    have hs02 : s <= 2 := by omega
    have HGH := lh (show gh <= 1 /\ gh <= z by omega)
    have HS02 := lh (show s = 1 \/ s = 2 from hs3)
    clear hs hs2 hs1 hgs hsg hs3 hmm
    cases hqq : (mm == 0) with
    | false =>
     go_wp2
     go_quiet (fail)
     go_wp2
     go_meet
     exact lh ⟨s, HX.out.1, HX.out.2.1, HM7.out.drewN _, HK7.out.drewN _⟩
    | true =>
     have hm0 : mm = 0 := by simpa using hqq
     have HM0 := lh hm0
     clear hm0
     go_wp2
     go_quiet (fail)
     go_wp2
     go_roundg gh
     case measure => omega
     case rel =>
      have hh := fun k => (HM7.out.drewN k).setS (2 * s)
      refine ⟨by go_num, HGH.out.2, lh ⟨2 * s, ?_, ?_, ?_, ?_, (hh _).1, (HK7.out.drewN _).trans (hh _).2⟩⟩
      . rcases HS02.out with h | h
        . rw [h]
          exact .inr (.inl rfl)
        . rw [h]
          exact .inr (.inr rfl)
      . intro h
        have := HGH.out.1
        omega
      . intro h
        rcases HS02.out with h' | h'
        . rw [h']
          exact .inr rfl
        . have := HX.out.2.2 h'
          omega
      . rw [HMM.out, HM0.out]
 case rest =>
 obtain ⟨s, hs, hgs, hm, hk⟩ := hcut.out
 have HSB := lh (gs_ok HG.out hs hgs)
 have H2 := lh (show SB w1.heap.size w1.heap.size (.slice A n c, .slice (some ⟨aS, 0, none⟩) 5 cS) 2 g s 0 0 1 w1 W2 wc from ⟨[], [], none, rfl, rfl, hm, hk, fun l hl => (by cases hl), fun e he => (by cases he)⟩)
 have HNB := lh (fun K q nb M W (hk : K <= 1000000) h => nextB w1.heap.size w1.heap.size K g s q nb M w1 W2 W A n c f aS cS h hn hk HBB.out)
 have HNA := lh (fun K q nb M m W (hk : K <= 1000000) h => nextA w1.heap.size w1.heap.size K g s q nb M m w1 W2 W A n c f aS cS h hn hk HBB.out)
 have HNC := lh (fun K q nb M m W (hk : K <= 1000000) h => nextC w1.heap.size w1.heap.size K g s q nb M m w1 W2 W A n c f aS cS h hn hk HBB.out)
 have HRG := lh (fun K q nb M m W (hk : K <= 1000000) h => regA w1.heap.size w1.heap.size K g s q nb M m w1 W2 W A n c f aS cS h hn hk HBB.out)
 have HVL := lh (fun K q nb M m W (hk : K <= 1000000) h => valA w1.heap.size w1.heap.size K g s q nb M m w1 W2 W A n c f aS cS h hn hk HBB.out)
 have HBK := lh (fun K q nb M W (hb : nb <= 100000) h => block_s w1.heap.size w1.heap.size K g s q nb M w1 W2 W (.slice A n c, .slice (some ⟨aS, 0, none⟩) 5 cS) h hb)
 have HIN := lh (fun K q nb M m W (hk : K + 50 <= 1000000) (hb : nb <= 100000) (hm : m <= 100) h => insts_s w1.heap.size w1.heap.size K g s q nb M m w1 W2 W A n c f aS cS h hn hk HBB.out hb hm)
 have HRE := lh (fun K q nb W (k : Nat) (hk : k <= 2) (hK : K + 400 <= 1000000) (hb : nb <= 1000) (hq : q <= 10) h => region_s w1.heap.size w1.heap.size K g s q nb w1 W2 W A n c f aS cS k hk h hn hK HBB.out hb hq)
 have HLO := lh (fun K q N M m W (hm : m <= 8) (hM : M <= N + 4) (hK : K + 100 <= 1000000) (hb : N <= 1000) (hq : q <= 10) h => loop_s w1.heap.size w1.heap.size K g s q N M m w1 W2 W A n c f aS cS h hm hM hn hK HBB.out hb hq)
 clear hcut hs hgs hm hk HNM H6 HK6 hz2 hg1 hg2
 go_upto_block 2 with (first | (go_at_call 65; (with_reducible refine (HNB.out _ _ _ _ _ (by decide) H2.out).mono ?_); rintro e W7 ⟨⟨y, rfl, y0, y1⟩, h7⟩; have H7 := lh h7; clear h7))
 obtain ⟨z, hz⟩ : ∃ z : Nat, y % 3 = (z : Int) := ⟨(y % 3).toNat, by omega⟩
 have hz2 : z <= 2 := by omega
 rw [hz]
 clear hz y0 y1 H2
 go_wp2_with fail
 go_loopg [5] z (fun gk v wx => v = .int .i64 (gk : Int) /\ gk <= z /\ Hid (∃ q nb : Nat, q + gk <= z /\ nb + 6 * gk <= 6 * z /\ SB w1.heap.size w1.heap.size (.slice A n c, .slice (some ⟨aS, 0, none⟩) 5 cS) (3 + 1000 * (z - gk)) g s q nb (nb + 1) w1 W2 wx))
 case atStart => exact ⟨rfl, Nat.le_refl _, lh ⟨0, 0, by omega, by omega, H7.out.le (by omega) (Nat.le_refl _)⟩⟩
 case round =>
  obtain ⟨rfl, hgz, HS⟩ := hrel
  obtain ⟨q, nb, hq, hnb, hsb⟩ := HS.out
  have H8 := lh hsb
  clear hsb HS H7
  cases gk with
  | zero =>
   go_upto_if 127 with (first
    | (go_at_call 65; (with_reducible refine (HNB.out _ _ _ _ _ (by omega) H8.out).mono ?_); rintro e W9 ⟨⟨x, rfl, x0, x1⟩, h9⟩; have H9 := lh h9; obtain ⟨k, hkx⟩ : ∃ k : Nat, x % 3 = (k : Int) := ⟨(x % 3).toNat, by omega⟩; have hk2 : k <= 2 := (by omega); clear h9)
    | (go_at_call 67; (with_reducible refine (HRE.out _ _ _ _ k hk2 (by omega) (by omega) (by omega) H9.out).mono ?_); rintro e W10 ⟨⟨v, rfl⟩, h10⟩; have H10 := lh h10; clear h10)
    | (go_at_call 65; (with_reducible refine (HNA.out _ _ _ _ _ _ (by omega) H10.out).mono ?_); rintro e W11 ⟨⟨y, rfl, y0, y1⟩, h11, q11⟩; have H11 := lh h11; clear h11 q11))
   clear hkx x0 x1 H8 H9 H10
   obtain ⟨qq, hqq⟩ : ∃ qq, (y % 3 == 0) = qq := ⟨_, rfl⟩
   rw [hqq]
   clear hqq y0 y1
   go_cut [] (fun wx => Hid (∃ q' n' : Nat, q' <= 3 /\ n' + 1 <= 18 /\ SA w1.heap.size w1.heap.size (.slice A n c, .slice (some ⟨aS, 0, none⟩) 5 cS) 100000 g s q' (n' + 1) (n' + 1) 8 w1 W2 wx))
   case first =>
    cases qq with
    | false =>
     go_wp2
     go_meet
     exact lh ⟨q, nb + k, by omega, by omega, H11.out.le (by omega) (Nat.le_refl _) (Nat.le_refl _)⟩
    | true =>
     go_wp2_with (first
      | (go_at_call 68; (with_reducible refine (HLO.out _ _ _ _ _ _ (by decide) (by omega) (by omega) (by omega) (by omega) H11.out).mono ?_); rintro e W12 ⟨⟨v, rfl⟩, h12⟩; have H12 := lh h12; clear h12)
      | (go_at_call 69; (with_reducible refine (HBK.out _ _ _ _ _ (by omega) H12.out).mono ?_); rintro e W13 ⟨⟨v, rfl⟩, h13⟩; have H13 := lh h13; clear h13)
      | (go_at_call 72; (with_reducible refine (HIN.out _ _ _ _ _ _ (by omega) (by omega) (by decide) H13.out).mono ?_); rintro e W14 ⟨⟨v, rfl⟩, h14⟩; have H14 := lh h14; clear h14))
     go_meet
     exact lh ⟨q + 1, nb + k + 3, by omega, by omega, H14.out.le (by omega) (Nat.le_refl _) (Nat.le_refl _)⟩
   case rest =>
   obtain ⟨q', n', hq3, hn18, hsa⟩ := hcut.out
   have H14 := lh hsa
   clear hcut hsa H11 hq hnb hk2
   obtain ⟨g14, p14, c914, cf14⟩ := H14.out.c9
   obtain ⟨⟨_, k1⟩, ⟨_, k2⟩, ⟨_, k3⟩, ⟨_, k4⟩, ⟨_, k5⟩, ⟨_, k6⟩, ⟨_, k7⟩, ⟨_, k8⟩, ⟨_, k9⟩, ⟨_, k10⟩, ⟨_, k11⟩, ⟨_, k12⟩, ⟨_, k13⟩⟩ := H14.out.ends c914
   have hnn : (n' : Int) < (n' : Int) + 1 := by omega
   have hwn : IntKind.i64.wrap (n' : Int) = (n' : Int) := IntWalk.i64_in _ (by omega)
   have hwm : IntKind.i64.wrap ((n' : Int) + 1 - 1) = (n' : Int) := by rw [show (n' : Int) + 1 - 1 = (n' : Int) from by omega]; exact hwn
   have hc := H14.out.exit (t' := ⟨5, 0, ⟨0, 0, 0⟩, ⟨0, 0, 0⟩, ⟨0, 0, 0⟩, 0, 0⟩) (by decide) c914 tok_exit HSB.out.1 HSB.out.2.1 HSB.out.2.2 hq3 hn18
   have hbw := (H14.out.close (t' := ⟨5, 0, ⟨0, 0, 0⟩, ⟨0, 0, 0⟩, ⟨0, 0, 0⟩, 0, 0⟩) (by decide) c914 tok_exit).1.below
   rw [Nat.add_sub_cancel] at hc hbw
   have hc := EndP.mk hc hbw
   unfold putE at hc
   simp only at hc
   have HC := lh hc
   clear hc hbw
   go_upto_region 23 with (fail)
   go_cut [] (fun wx => Hid (EndP w1.heap.size w1 W2 wx))
   case first =>
    go_region
    all_goals
     go_wp2
     go_meet
     exact lh HC.out.drew
   case rest =>
   obtain ⟨⟨d, a, hmd, hck, hnum, c7, c8, c9, hkm⟩, hbw⟩ := hcut.out
   have hrs := ((HK0.out.trans hkm).1 _ _ 36 _ HRS.out (by decide)).trans HRS.out
   have c2 : wc.cell? ⟨w1.heap.size, 2, none⟩ = some (.int .i64 (d.n 0)) := hnum 0 (by decide)
   have c3 : wc.cell? ⟨w1.heap.size, 3, none⟩ = some (.int .i64 (d.n 1)) := hnum 1 (by decide)
   have c4 : wc.cell? ⟨w1.heap.size, 4, none⟩ = some (.int .i64 (d.n 2)) := hnum 2 (by decide)
   have c5 : wc.cell? ⟨w1.heap.size, 5, none⟩ = some (.int .i64 (d.n 3)) := hnum 3 (by decide)
   have c6 : wc.cell? ⟨w1.heap.size, 6, none⟩ = some (.int .i64 (d.n 4)) := hnum 4 (by decide)
   have r0 := cell_blk hrs (i := 0) rfl
   have r1 := cell_blk hrs (i := 1) rfl
   have r2 := cell_blk hrs (i := 2) rfl
   have r3 := cell_blk hrs (i := 3) rfl
   have r4 := cell_blk hrs (i := 4) rfl
   have r5 := cell_blk hrs (i := 5) rfl
   have r6 := cell_blk hrs (i := 6) rfl
   have r7 := cell_blk hrs (i := 7) rfl
   have rf := fun o => frozen_of_row _ _ o _ _ hrs
   have HFN := lh (show ∀ v0 v1 v2 v3 v4 v5 v6 v7 : Value, _ from fun v0 v1 v2 v3 v4 v5 v6 v7 => res_store hck hrs (Nat.le_succ w.heap.size) (HB1.out.trans (hbw.mono HB1.out.size)) v0 v1 v2 v3 v4 v5 v6 v7)
   have HST := lh (res_cells hrs (.int .i64 (d.n 0)) (.int .i64 (d.n 1)) (.int .i64 (d.n 2)) (.int .i64 (d.n 3)) (.int .i64 (d.n 4)) (.slice a.a1 d.q.length a.c1) (.slice a.a2 d.l.length a.c2) (.slice a.a3 d.b.length a.c3))
   have HMD := lh hmd
   clear hmd hck hnum hkm hrs hbw hcut
   go_wp2
   have s0 := cell_blk HST.out (i := 0) rfl
   have s1 := cell_blk HST.out (i := 1) rfl
   have s2 := cell_blk HST.out (i := 2) rfl
   have s3 := cell_blk HST.out (i := 3) rfl
   have s4 := cell_blk HST.out (i := 4) rfl
   have s5 := cell_blk HST.out (i := 5) rfl
   have s6 := cell_blk HST.out (i := 6) rfl
   have s7 := cell_blk HST.out (i := 7) rfl
   refine bodyPost_ret (v := .agg #[(d.n 0), (d.n 1), (d.n 2), (d.n 3), (d.n 4), .slice a.a1 d.q.length a.c1, .slice a.a2 d.l.length a.c2, .slice a.a3 d.b.length a.c3]) (by simp [results, Tryz.results34, go_sem, s0, s1, s2, s3, s4, s5, s6, s7]) rfl ?_
   exact ⟨d, a, rfl, ⟨HMD.out, (HFN.out _ _ _ _ _ _ _ _).1⟩, (HFN.out _ _ _ _ _ _ _ _).2⟩
  | succ gh =>
   rw [show ((gh + 1 : Nat) : Int) = (gh : Int) + 1 from rfl]
   have hpos : (0 : Int) < (gh : Int) + 1 := by omega
   go_upto_if 69 with (first
    | (go_at_call 65; (with_reducible refine (HNB.out _ _ _ _ _ (by omega) H8.out).mono ?_); rintro e W9 ⟨⟨x, rfl, x0, x1⟩, h9⟩; have H9 := lh h9; obtain ⟨k, hkx⟩ : ∃ k : Nat, x % 3 = (k : Int) := ⟨(x % 3).toNat, by omega⟩; have hk2 : k <= 2 := (by omega); clear h9)
    | (go_at_call 67; (with_reducible refine (HRE.out _ _ _ _ k hk2 (by omega) (by omega) (by omega) H9.out).mono ?_); rintro e W10 ⟨⟨v, rfl⟩, h10⟩; have H10 := lh h10; clear h10)
    | (go_at_call 65; (with_reducible refine (HNA.out _ _ _ _ _ _ (by omega) H10.out).mono ?_); rintro e W11 ⟨⟨y, rfl, y0, y1⟩, h11, q11⟩; have H11 := lh h11; clear h11 q11))
   clear hkx x0 x1 H8 H9 H10
   obtain ⟨qq, hqq⟩ : ∃ qq, (y % 3 == 0) = qq := ⟨_, rfl⟩
   rw [hqq]
   clear hqq y0 y1
   go_cut [] from 57 to 118 (fun wx => Hid (∃ q' n' : Nat, q' + gh <= z /\ n' + 1 + 6 * gh <= 6 * z /\ SA w1.heap.size w1.heap.size (.slice A n c, .slice (some ⟨aS, 0, none⟩) 5 cS) (3 + 1000 * (z - (gh + 1)) + 400) g s q' (n' + 1) (n' + 1) 8 w1 W2 wx))
   case first =>
    cases qq with
    | false =>
     go_wp2
     go_meet
     exact lh ⟨q, nb + k, by omega, by omega, H11.out.le (by omega) (Nat.le_refl _) (Nat.le_refl _)⟩
    | true =>
     go_wp2_with (first
      | (go_at_call 68; (with_reducible refine (HLO.out _ _ _ _ _ _ (by decide) (by omega) (by omega) (by omega) (by omega) H11.out).mono ?_); rintro e W12 ⟨⟨v, rfl⟩, h12⟩; have H12 := lh h12; clear h12)
      | (go_at_call 69; (with_reducible refine (HBK.out _ _ _ _ _ (by omega) H12.out).mono ?_); rintro e W13 ⟨⟨v, rfl⟩, h13⟩; have H13 := lh h13; clear h13))
     go_meet
     exact lh ⟨q + 1, nb + k + 3, by omega, by omega, H13.out.le (by omega) (Nat.le_refl _) (by decide)⟩
   case rest =>
   obtain ⟨q', n', hq', hn', hsa⟩ := hcut.out
   clear hcut H11 hq hnb hk2
   have H14 := lh (hsa.le (Nat.le_refl _) (by omega : n' + 1 <= n' + 2) (Nat.le_refl _))
   clear hsa
   obtain ⟨g14, p14, c914, cf14⟩ := H14.out.c9
   obtain ⟨⟨_, k1⟩, ⟨_, k2⟩, ⟨_, k3⟩, ⟨_, k4⟩, ⟨_, k5⟩, ⟨_, k6⟩, ⟨_, k7⟩, ⟨_, k8⟩, ⟨_, k9⟩, ⟨_, k10⟩, ⟨_, k11⟩, ⟨_, k12⟩, ⟨_, k13⟩⟩ := H14.out.ends c914
   have hnn : (n' : Int) < (n' : Int) + 1 := by omega
   have hn20 : n' <= 20 := by omega
   have hc := H14.out.closeC (t' := ⟨3, 0, ⟨0, 0, 0⟩, ⟨0, 0, 0⟩, ⟨0, 0, 0⟩, (n' : Int) + 1, 0⟩) c914 (tok_barrier (by omega) (by omega))
   unfold putE at hc
   simp only at hc
   have HC := lh hc
   clear hc
   go_upto_region 15 with (fail)
   go_cut [] from 57 to 118 (fun wx => Hid (SC w1.heap.size w1.heap.size (.slice A n c, .slice (some ⟨aS, 0, none⟩) 5 cS) (3 + 1000 * (z - (gh + 1)) + 400) g s q' (n' + 1) (n' + 2) 8 w1 W2 wx))
   case first =>
    go_wp2
    go_meet
    exact HC
   case rest =>
   have H15 := lh hcut.out
   clear hcut HC H14 c914 cf14 k1 k2 k3 k4 k5 k6 k7 k8 k9 k10 k11 k12 k13
   go_upto_if 96 with (first | (go_at_call 65; (with_reducible refine (HNC.out _ _ _ _ _ _ (by omega) H15.out).mono ?_); rintro e W16 ⟨⟨y, rfl, y0, y1⟩, h16⟩; have H16 := lh h16; clear h16))
   obtain ⟨qq, hqq⟩ : ∃ qq, (y % 3 == 0) = qq := ⟨_, rfl⟩
   rw [hqq]
   clear hqq y0 y1 H15
   cases qq with
   | false =>
    go_wp2
    go_roundg gh
    case measure => omega
    case rel => exact ⟨by go_num, by omega, lh ⟨q', n' + 1, hq', hn', (H16.out.shut (by decide)).le (by omega) (Nat.le_refl _)⟩⟩
   | true =>
    go_upto_region 17 with (fail)
    have hs16 := H16.out.opn
    obtain ⟨g16, p16, c916, cf16⟩ := hs16.c9
    have HLT := lh hs16.lt
    have H17 := lh hs16.drew
    have hwn : IntKind.i64.wrap ((n' : Int) + 1) = (n' : Int) + 1 := IntWalk.i64_in _ (by omega)
    clear hs16
    go_region_with (first
     | (go_at_call 65; (with_reducible refine (HNA.out _ _ _ _ _ _ (by omega) H17.out).mono ?_); rintro e W18 ⟨⟨u, rfl, u0, u1⟩, h18, q18⟩; have hl18 := q18 HLT.out; have c918 := hl18.2.trans c916; have HL18 := lh hl18.1; have H18 := lh h18; obtain ⟨c6, hc6⟩ : ∃ c6 : Int, u % 6 = c6 := ⟨_, rfl⟩; have ht6 : Int.tmod u 6 = c6 := ((Int.tmod_eq_emod_of_nonneg u0).trans hc6); have hc61 : 0 <= c6 := (by omega); have hc62 : c6 <= 5 := (by omega); have hw6 : IntKind.i64.wrap (1 + c6) = 1 + c6 := IntWalk.i64_in _ (by omega); clear h18 q18 hl18)
     | (go_at_call 70; (with_reducible refine (HRG.out _ _ _ _ _ _ (by omega) H18.out).mono ?_); rintro e W19 ⟨⟨x, rfl, x0, x1⟩, h19, q19⟩; have hl19 := q19 HL18.out; have c919 := hl19.2.trans c918; have HL19 := lh hl19.1; have H19 := lh h19; clear h19 q19 hl19)
     | (go_at_call 71; (with_reducible refine (HVL.out _ _ _ _ _ _ (by omega) H19.out).mono ?_); rintro e W20 ⟨⟨oa, rfl, hoa⟩, h20, q20⟩; obtain ⟨ak, an, av⟩ := oa; have HOA := lh hoa; have hl20 := q20 HL19.out; have c920 := hl20.2.trans c919; have HL20 := lh hl20.1; have H20 := lh h20; clear h20 q20 hl20 hoa)
     | (go_at_call 71; (with_reducible refine (HVL.out _ _ _ _ _ _ (by omega) H20.out).mono ?_); rintro e W21 ⟨⟨ob, rfl, hob⟩, h21, q21⟩; obtain ⟨bk, bn, bv⟩ := ob; have hl21 := q21 HL20.out; have c921 := hl21.2.trans c920; have cf21 := h21.c9f c921; obtain ⟨⟨_, k1⟩, ⟨_, k2⟩, ⟨_, k3⟩, ⟨_, k4⟩, ⟨_, k5⟩, ⟨_, k6⟩, ⟨_, k7⟩, ⟨_, k8⟩, ⟨_, k9⟩, ⟨_, k10⟩, ⟨_, k11⟩, ⟨_, k12⟩, ⟨_, k13⟩⟩ := h21.ends c921; have hc := h21.closeC (t' := ⟨4, 1 + c6, ⟨2, x, 0⟩, ⟨ak, an, av⟩, ⟨bk, bn, bv⟩, (n' : Int) + 1, 0⟩) c921 (tok_collect (by omega) ⟨by omega, by omega⟩ ⟨x0, x1⟩ HOA.out hob ⟨by omega, by omega⟩ (by omega)); unfold putE at hc; simp only at hc; have HC := lh hc; clear h21 q21 hl21 hob hc))
    all_goals
     go_wp2
     go_roundg gh
     case measure => omega
     case rel => exact ⟨by go_num, by omega, lh ⟨q', n' + 1, hq', hn', (HC.out.shut (by decide)).le (by omega) (Nat.le_refl _)⟩⟩
end
end Go.Proofs.YtkncilgmlkeifaaGreatDoor
