import Derived.Test.YtkncilgmlkeifaaGreatDoorSlb
import Derived.Test.YtkncilgmlkeifaaGreatDoorPar
import Derived.Test.YtkncilgmlkeifaaGreatDoorMkd
/-
  The reference: Slotted.
-/
set_option linter.unusedVariables false
set_option linter.unusedSimpArgs false
set_option maxRecDepth 100000
set_option maxHeartbeats 4000000
namespace Go.Proofs.YtkncilgmlkeifaaGreatDoor
open Go.ChangeShapes Go.WideShapes Go.ChangeAt Go.RowKit Go.Shelf
theorem two_cells (b k : Nat) : ([(12:Int), (0:Int), .int .i64 ((b : Int) % 2), (0:Int), (0:Int), .int .i32 0, (2:Int), .int .i64 ((k : Int) % 6), .int .i32 0, (0:Int), (0:Int), .int .i32 0, (0:Int), (0:Int), .int .i32 0, (11:Int), (0:Int), .int .i64 ((b : Int) % 2), (2:Int), .int .i64 (((k : Int) + 1) % 6), .int .i32 0, (0:Int), (0:Int), .int .i32 0, (0:Int), (0:Int), .int .i32 0, (0:Int), (0:Int), .int .i32 0] : List Value) = flatI [putI b k, getI b k] := by
 simp [putI, getI, flatI, InstV.cells]
theorem flatI_app (x y : List InstV) : flatI (x ++ y) = flatI x ++ flatI y := by
 unfold flatI
 rw [List.flatMap_append]
theorem slI_succ (b : Nat) (is : List InstV) (k : Nat) : slI b is (k + 1) = slI b is k ++ [is.getD k noI] ++ if k % 2 = 0 then [putI b k, getI b k] else [] := rfl
theorem slotted_of (A : Option Addr) (nx cx : Nat) (w : World)
 (hM : ∀ W, Below w.heap.size w W -> Calls Tryz.prog 34 #[.agg #[.slice A nx cx]] W fun e w' => ∃ (c : CdV) (a : CdA), e = .returned (.agg #[(c.n 0), (c.n 1), (c.n 2), (c.n 3), (c.n 4), .slice a.a1 c.q.length a.c1, .slice a.a2 c.l.length a.c2, .slice a.a3 c.b.length a.c3]) /\ MadeP c a w' /\ Below W.heap.size W w') :
 Calls Tryz.prog 43 #[.agg #[.slice A nx cx]] w fun e w' => ∃ (c : CdV) (a : CdA), e = .returned (.agg #[(c.n 0), (c.n 1), (c.n 2), (2:Int), (c.n 4), .slice a.a1 c.q.length a.c1, .slice a.a2 c.l.length a.c2, .slice a.a3 c.b.length a.c3]) /\ (MdOk c /\ CdK (slC c) a w') /\ Below w.heap.size w w' := by
 have hb1 : Below w.heap.size w ((w.alloc (.cells #[.slice A nx cx] 24)).alloc (.cells #[(0:Int), (0:Int), (0:Int), (0:Int), (0:Int), .slice none 0 0, .slice none 0 0, .slice none 0 0] 36)) := ((Below.refl _ _).alloc (Nat.le_refl _) _).alloc (by simp) _
 have hres : ((w.alloc (.cells #[.slice A nx cx] 24)).alloc (.cells #[(0:Int), (0:Int), (0:Int), (0:Int), (0:Int), .slice none 0 0, .slice none 0 0, .slice none 0 0] 36)).heap[w.heap.size + 1]? = some (.cells #[(0:Int), (0:Int), (0:Int), (0:Int), (0:Int), .slice none 0 0, .slice none 0 0, .slice none 0 0] 36 (0, 0)) := by
  have := heap_alloc_new (w.alloc (.cells #[.slice A nx cx] 24)) (.cells #[(0:Int), (0:Int), (0:Int), (0:Int), (0:Int), .slice none 0 0, .slice none 0 0, .slice none 0 0] 36)
  rw [World.size_alloc] at this
  exact this
 obtain ⟨iI, hI, hI0, hI1, hI2⟩ := info_parts infoInst
 have HM := lh hM
 have HB1 := lh hb1
 have HRS := lh hres
 clear hb1 hres hM
 go_enter Tryz.func43, Tryz.ntmps43
 go_upto_region 2 with (first
  | (go_at_call 34; (with_reducible refine (HM.out _ HB1.out).mono ?_); rintro e w2 ⟨c, a, rfl, hmp, hb2⟩; have HMP := lh hmp; have HB2 := lh hb2; have HCP := lh (Copy_c c a w2 hmp.2.mem hmp.1.fits); unfold cdval CopyPost at HCP; clear hmp hb2)
  | (go_at_call 38; (with_reducible refine HCP.out.mono ?_); rintro e w4 ⟨v5, v6, v7, es, rfl, hr, hes, hb4⟩; have hel : es.length = c.b.length := (by rw [<- hes, List.length_map]); obtain ⟨A5, p5, rfl, _⟩ := own_cells hr.arr; obtain ⟨A6, p6, rfl, _⟩ := own_cells hr.loops; obtain ⟨g7, p7, rfl, _, _⟩ := hr.blocks.form (by have := HMP.out.1.b18; omega); rw [hel]; have HR4 := lh hr; have HES := lh (And.intro hes hel); have HB4 := lh hb4; clear hr hes hb4 hel))
 have HL0 := lh (show LX w2 w4.heap.size w2.heap.size (c.n 0) (c.n 1) (c.n 2) (c.n 3) (c.n 4) (.slice A5 c.q.length p5) (.slice A6 c.l.length p6) (.slice (some ⟨g7, 0, none⟩) c.b.length p7) c.q c.l es (w4.alloc (.cells #[(c.n 0), (c.n 1), (c.n 2), (c.n 3), (c.n 4), .slice A5 c.q.length p5, .slice A6 c.l.length p6, .slice (some ⟨g7, 0, none⟩) c.b.length p7] 36)) from
  ⟨heap_alloc_new _ _, (by have h := HR4.out; rw [HES.out.2] at h; exact h.k36 (K36.below ((Below.refl _ _).alloc (Nat.le_refl _) _))), HB4.out.alloc HB4.out.size _, Nat.le_refl _, HB4.out.size, by have := HB4.out.size; simp; omega⟩)
 generalize (w4.alloc (.cells #[(c.n 0), (c.n 1), (c.n 2), (c.n 3), (c.n 4), .slice A5 c.q.length p5, .slice A6 c.l.length p6, .slice (some ⟨g7, 0, none⟩) c.b.length p7] 36)) = W5 at *
 generalize w4.heap.size = b3 at *
 obtain ⟨n9, hn9⟩ : ∃ n9, w2.heap.size = n9 := ⟨_, rfl⟩
 obtain ⟨nb, hnb⟩ : ∃ nb, c.b.length = nb := ⟨_, rfl⟩
 have hnb18 : 1 <= nb /\ nb <= 18 := by rw [<- hnb]; exact HMP.out.1.b18
 obtain ⟨hnb1, hnb2⟩ := hnb18
 rw [hn9, hnb] at HL0
 rw [hnb]
 have HNB := lh hnb
 have HRR := lh ((HB2.out.block _ (Array.getElem?_eq_some_iff.1 HRS.out).1).trans HRS.out)
 have HBB := lh (HB1.out.trans (HB2.out.mono HB1.out.size))
 clear hn9 hnb HCP HR4 HB4 HM HRS
 have d3 := HL0.out.c3
 have f3 := HL0.out.fr 3
 go_cut [] (fun wx => Hid (LX w2 b3 n9 (c.n 0) (c.n 1) (c.n 2) 2 (c.n 4) (.slice A5 c.q.length p5) (.slice A6 c.l.length p6) (.slice (some ⟨g7, 0, none⟩) nb p7) c.q c.l es wx))
 case first =>
  go_wp2
  go_meet
  exact lh (HL0.out.set3 2)
 case rest =>
 have HL1 := hcut
 clear hcut HL0 d3 f3
 go_wp2
 go_loopg [4] nb (fun gk z wx => ∃ b : Nat, z = .int .i64 (b : Int) /\ b + gk = nb /\ Hid (∃ es1 es2, LX w2 b3 n9 (c.n 0) (c.n 1) (c.n 2) 2 (c.n 4) (.slice A5 c.q.length p5) (.slice A6 c.l.length p6) (.slice (some ⟨g7, 0, none⟩) nb p7) c.q c.l (es1 ++ es2) wx /\ es1.length = b /\ (es1 ++ es2).length = nb /\ es1.map (·.2) = (c.b.take b).mapIdx slB /\ es2.map (·.2) = c.b.drop b))
 case atStart => exact ⟨0, rfl, by omega, lh ⟨[], es, HL1.out, rfl, by rw [<- HNB.out]; exact HES.out.2, by simp, by rw [HES.out.1]; rfl⟩⟩
 case round =>
  obtain ⟨b, rfl, hbg, HS⟩ := hrel
  obtain ⟨es1, es2, hlx, hl1, hl2, hm1, hm2⟩ := HS.out
  have c7 := hlx.c7
  have HLX := lh hlx
  have HE := lh (And.intro hl1 (And.intro hl2 (And.intro hm1 hm2)))
  cases gk with
  | zero =>
   obtain rfl : b = nb := by omega
   have hcl : c.b.length = b := HNB.out
   have hes2 : es2 = [] := by
    have := congrArg List.length hm2
    simp only [List.length_map, List.length_drop] at this
    exact List.eq_nil_of_length_eq_zero (by omega)
   subst hes2
   rw [List.append_nil] at hlx hl2
   have hm : es1.map (·.2) = c.b.mapIdx slB := by rw [hm1, List.take_of_length_le (by omega)]
   obtain ⟨ad, e5, e6, e7, hk⟩ := hlx.rows.cdk (slC c).n (by rw [HMP.out.1.q]; exact arM_names) (fun e he => by
    have h : e.2 ∈ es1.map (·.2) := List.mem_map.2 ⟨e, he, rfl⟩
    rw [hm] at h
    obtain ⟨i, hi, h⟩ := List.mem_mapIdx.1 h
    have h2 := slI_len i (c.b[i]).1 (c.b[i]).1.length
    have h3 := (HMP.out.1.bs _ (List.getElem_mem hi)).len
    rw [<- h]
    show (slI i (c.b[i]).1 (c.b[i]).1.length).length <= 65536
    omega)
   have hk2 : CdK (slC c) ad wr := by
    have e : (⟨c.q, c.l, es1.map (·.2), (slC c).n⟩ : CdV) = slC c := by rw [hm]; rfl
    rw [e] at hk
    exact hk
   rw [hl2] at e7
   have c0 := hlx.c0
   have c1 := hlx.c1
   have c2 := hlx.c2
   have c3 := hlx.c3
   have c4 := hlx.c4
   have c5 := hlx.c5
   have c6 := hlx.c6
   have hrs := (hlx.below.block _ (Array.getElem?_eq_some_iff.1 HRR.out).1).trans HRR.out
   have r0 := cell_blk hrs (i := 0) rfl
   have r1 := cell_blk hrs (i := 1) rfl
   have r2 := cell_blk hrs (i := 2) rfl
   have r3 := cell_blk hrs (i := 3) rfl
   have r4 := cell_blk hrs (i := 4) rfl
   have r5 := cell_blk hrs (i := 5) rfl
   have r6 := cell_blk hrs (i := 6) rfl
   have r7 := cell_blk hrs (i := 7) rfl
   have rf := fun o => frozen_of_row _ _ o _ _ hrs
   have HFN := lh (fun v0 v1 v2 v3 v4 v5 v6 v7 => res_store (w := w) hk2 hrs (Nat.le_succ w.heap.size) (HBB.out.trans (hlx.below.mono HBB.out.size)) v0 v1 v2 v3 v4 v5 v6 v7)
   have HST := lh (res_cells hrs (.int .i64 (c.n 0)) (.int .i64 (c.n 1)) (.int .i64 (c.n 2)) (.int .i64 2) (.int .i64 (c.n 4)) (.slice A5 c.q.length p5) (.slice A6 c.l.length p6) (.slice (some ⟨g7, 0, none⟩) b p7))
   have HE7 := lh (And.intro e5 (And.intro e6 e7))
   have HCL := lh hcl
   clear hlx hl1 hl2 hm1 hm2 HS HLX HE hm hk hk2 hrs e5 e6 e7 hcl
   go_wp2
   have s0 := cell_blk HST.out (i := 0) rfl
   have s1 := cell_blk HST.out (i := 1) rfl
   have s2 := cell_blk HST.out (i := 2) rfl
   have s3 := cell_blk HST.out (i := 3) rfl
   have s4 := cell_blk HST.out (i := 4) rfl
   have s5 := cell_blk HST.out (i := 5) rfl
   have s6 := cell_blk HST.out (i := 6) rfl
   have s7 := cell_blk HST.out (i := 7) rfl
   refine bodyPost_ret (v := .agg #[(c.n 0), (c.n 1), (c.n 2), (2:Int), (c.n 4), .slice A5 c.q.length p5, .slice A6 c.l.length p6, .slice (some ⟨g7, 0, none⟩) b p7]) (by simp [results, Tryz.results43, go_sem, s0, s1, s2, s3, s4, s5, s6, s7]) rfl ?_
   refine ⟨c, ad, ?_, ⟨HMP.out.1, (HFN.out _ _ _ _ _ _ _ _).1⟩, (HFN.out _ _ _ _ _ _ _ _).2⟩
   rw [HCL.out, <- HE7.out.1, <- HE7.out.2.1, <- HE7.out.2.2]
  | succ gh =>
   obtain ⟨e, es3, rfl⟩ : ∃ e es3, es2 = e :: es3 := by
    cases es2 with
    | nil => simp at hl2; omega
    | cons e es3 => exact ⟨e, es3, rfl⟩
   have hbn : b < c.b.length := by rw [HNB.out]; omega
   have hec : e.2 = c.b.getD b noB := by
    rw [List.drop_eq_getElem_cons hbn] at hm2
    rw [getD_of _ _ _ hbn]
    simpa using (List.cons.inj hm2).1
   have hlt : (b : Int) < (nb : Int) := by omega
   have hio := hlx.rows.insts e (List.mem_append.2 (.inr List.mem_cons_self))
   obtain ⟨AI, cI, eI, hri⟩ := rin_of hio
   have hcb := hlx.rows.blocks
   rw [hl2] at hcb
   have hce := hcb.cellAt (b * 14) (by omega)
   rw [flatB_app, List.getElem?_append_right (by rw [flatB_len, hl1]; exact Nat.le_refl _), flatB_len, hl1, Nat.sub_self] at hce
   have hce2 : wr.cell? ⟨g7, b * 14, none⟩ = some (.slice AI e.2.1.length cI) := by rw [hce, <- eI]; rfl
   have HRI := lh hri
   have hil : e.2.1.length <= 9 := by rw [hec, getD_of _ _ _ hbn]; exact (HMP.out.1.bs _ (List.getElem_mem hbn)).len
   have HIL := lh hil
   have HEC := lh hec
   clear hlx hl1 hl2 hm1 hm2 HS hio hcb hce hri hec hbn eI
   obtain ⟨nI, hnI⟩ : ∃ nI, e.2.1.length = nI := ⟨_, rfl⟩
   rw [hnI] at hce2 hil
   have HNI := lh hnI
   clear hnI
   have HCE := lh hce2
   have HC7 := lh c7
   obtain ⟨wo, hwo⟩ : ∃ wo : World, wr = wo := ⟨_, rfl⟩
   rw [hwo] at HLX HRI HCE HC7 ⊢
   clear hce2 c7
   have c7o := HC7.out
   go_wp2
   go_loopg [5, 6] nI (fun gj z5 z6 wx => ∃ (k : Nat) (Ao : Option Addr) (co : Nat) (acc : List InstV), z5 = .slice Ao acc.length co /\ z6 = .int .i64 (k : Int) /\ k + gj = nI /\ Hid (acc = slI b e.2.1 k) /\ Hid (wx.ownsRow wo.heap.size 61 15 (.slice Ao acc.length co) acc.length (flatI acc)) /\ Hid (Below wo.heap.size wo wx))
   case atStart => exact ⟨0, _, _, [], rfl, rfl, by omega, lh rfl, lh (World.ownsRow_lit (base := wo.heap.size) (e := 61) (size := 15) wo #[] 0 (Nat.le_refl _) (by unfold maxLen; omega) rfl), lh ((Below.refl _ _).alloc (Nat.le_refl _) _)⟩
   case round =>
    clear c7o
    obtain ⟨k, Ao, co, acc, rfl, rfl, hkg, HA, HO, HBX⟩ := hrel
    have q7 := (HLX.out.on HBX.out).c7
    have qe : wr.cell? ⟨g7, b * 14, none⟩ = some (.slice AI nI cI) := (World.cell?_of_block (HBX.out.block g7 (World.block_lt_of_cell? wo ⟨g7, b * 14, none⟩ HCE.out))).trans HCE.out
    have hal : acc.length <= 30 := by rw [HA.out]; have := slI_len b e.2.1 k; omega
    cases gk with
    | zero =>
     obtain rfl : k = nI := by omega
     have hbk := (HLX.out.on HBX.out).rows.blocks
     rw [HE.out.2.1] at hbk
     have qf := fun o => hbk.frozenAt o
     clear hbk
     go_wp2
     go_roundg gh
     case measure => omega
     case rel =>
      have h1 := HE.out.1
      have hx := (HLX.out.on HBX.out).setI (v := .slice Ao acc.length co) (is := acc) HE.out.2.1 (HO.out.mono HLX.out.hn.2.2)
      rw [h1] at hx
      have hbn : b < c.b.length := by rw [HNB.out]; omega
      have hd := HE.out.2.2.2
      rw [List.drop_eq_getElem_cons hbn] at hd
      have hec := HEC.out
      rw [getD_of _ _ _ hbn] at hec
      refine ⟨b + 1, by go_num, by omega, lh ⟨es1 ++ [(.slice Ao acc.length co, acc, e.2.2)], es3, by simpa using hx, by simp [h1], by have := HE.out.2.1; simpa using this, ?_, (List.cons.inj hd).2⟩⟩
      rw [List.map_append, HE.out.2.2.1, List.take_succ_eq_append_getElem hbn, List.mapIdx_append]
      congr 1
      simp only [List.map_cons, List.map_nil, List.mapIdx_cons, List.mapIdx_nil, List.length_take, Nat.zero_add]
      rw [Nat.min_eq_left (Nat.le_of_lt hbn), <- hec]
      unfold slB
      rw [HA.out, HNI.out]
    | succ gj =>
     have hkl : (k : Int) < (nI : Int) := by omega
     have hsz : wo.heap.size <= wr.heap.size := HBX.out.size
     obtain ⟨bI, oI, rfl, hbI, hcI⟩ := (HRI.out.below HBX.out) (by rw [HNI.out]; omega)
     obtain ⟨m0, m1, m2, m3, m4, m5, m6, m7, m8, m9, m10, m11, m12, m13, m14⟩ := hcI k (by rw [HNI.out]; omega)
     obtain ⟨iv, hiv⟩ : ∃ iv, e.2.1.getD k noI = iv := ⟨_, rfl⟩
     simp only [hiv] at m0 m1 m2 m3 m4 m5 m6 m7 m8 m9 m10 m11 m12 m13 m14
     have HIV := lh hiv
     clear hcI hiv
     have HSN := lh (slI_succ b e.2.1 k)
     go_upto_if 44 with (first
      | (at_builtin; refine wpList_append_own _ rfl _ _ 50 rfl wo.heap.size 61 iI _ 15 120 Tryz.underlying50 hI hI0 hI1 hI2 rfl (by decide) (.slice Ao acc.length co) acc.length (flatI acc) rfl (HO.out.alloc _) ⟨wr.heap.size, 0, none⟩ 1 1 iv.cells rfl rfl (row_new wr #[iv.op, iv.sub, iv.n, iv.d.k, iv.d.n, .int .i32 iv.d.v, iv.a.k, iv.a.n, .int .i32 iv.a.v, iv.b.k, iv.b.n, .int .i32 iv.b.v, iv.c.k, iv.c.n, .int .i32 iv.c.v] 61) (by simp [InstV.cells, Value.oneCell']) (by unfold maxLen; omega) (by omega) (by simp; omega) ?_; intro v' w8 hown' hgrow _; have HB8 := lh (grow_below (HBX.out.alloc HBX.out.size _) (HO.out.alloc _) hgrow (Nat.le_refl _) (Nat.le_refl _)); obtain ⟨gg, cap, rfl, _, _⟩ := hown'.form (by omega); have HO8 := lh (show w8.ownsRow wo.heap.size 61 15 (.slice (some ⟨gg, 0, none⟩) (acc.length + 1) cap) (acc.length + 1) (flatI (acc ++ [iv])) from by rw [flatI_snoc]; exact hown'); clear hown' hgrow))
     have hki : 0 <= (k : Int) := by omega
     have hbi : 0 <= (b : Int) := by omega
     by_cases hk2 : k % 2 = 0
     . have hq1 : ((k : Int) % 2 == 0) = true := by simp; omega
       have HK2 := lh hk2
       clear hk2 m0 m1 m2 m3 m4 m5 m6 m7 m8 m9 m10 m11 m12 m13 m14 q7 qe
       go_wp2_with (first
        | (go_at_call 40; (with_reducible refine (Reg_any _ _).mono ?_); rintro e9 W9 ⟨rfl, hb9⟩; have HO9 := lh (row_kept HO8.out (below_kept (S := fun _ => True) hb9) trivial); have HB9 := lh (HB8.out.trans (hb9.mono HB8.out.size)); clear hb9)
        | (go_at_call 40; (with_reducible refine (Reg_any _ _).mono ?_); rintro e9 W10 ⟨rfl, hb9⟩; have HO10 := lh (row_kept HO9.out (below_kept (S := fun _ => True) hb9) trivial); have HB10 := lh (HB9.out.trans (hb9.mono HB9.out.size)); have hsz2 := HB10.out.size; clear hb9)
        | (at_builtin; refine wpList_append_own _ rfl _ _ 50 rfl wo.heap.size 61 iI _ 15 120 Tryz.underlying50 hI hI0 hI1 hI2 rfl (by decide) (.slice (some ⟨gg, 0, none⟩) (acc.length + 1) cap) (acc.length + 1) (flatI (acc ++ [iv])) rfl (HO10.out.alloc _) ⟨W10.heap.size, 0, none⟩ 2 2 [(12:Int), (0:Int), .int .i64 ((b : Int) % 2), (0:Int), (0:Int), .int .i32 0, (2:Int), .int .i64 ((k : Int) % 6), .int .i32 0, (0:Int), (0:Int), .int .i32 0, (0:Int), (0:Int), .int .i32 0, (11:Int), (0:Int), .int .i64 ((b : Int) % 2), (2:Int), .int .i64 (((k : Int) + 1) % 6), .int .i32 0, (0:Int), (0:Int), .int .i32 0, (0:Int), (0:Int), .int .i32 0, (0:Int), (0:Int), .int .i32 0] rfl rfl (row_new W10 #[(12:Int), (0:Int), .int .i64 ((b : Int) % 2), (0:Int), (0:Int), .int .i32 0, (2:Int), .int .i64 ((k : Int) % 6), .int .i32 0, (0:Int), (0:Int), .int .i32 0, (0:Int), (0:Int), .int .i32 0, (11:Int), (0:Int), .int .i64 ((b : Int) % 2), (2:Int), .int .i64 (((k : Int) + 1) % 6), .int .i32 0, (0:Int), (0:Int), .int .i32 0, (0:Int), (0:Int), .int .i32 0, (0:Int), (0:Int), .int .i32 0] 61) (by simp [Value.oneCell']) (by unfold maxLen; omega) (by omega) (by simp; omega) ?_; intro v' w11 hown' hgrow _; have HB11 := lh (grow_below (HB10.out.alloc HB10.out.size _) (HO10.out.alloc _) hgrow (Nat.le_refl _) (Nat.le_refl _)); obtain ⟨g2, cap2, rfl, _, _⟩ := hown'.form (by omega); have HO11 := lh (show w11.ownsRow wo.heap.size 61 15 (.slice (some ⟨g2, 0, none⟩) (acc.length + 1 + 2) cap2) (acc.length + 1 + 2) (flatI (acc ++ [iv] ++ [putI b k, getI b k])) from by rw [flatI_app, <- two_cells]; exact hown'); clear hown' hgrow))
       go_roundg gj
       case measure => omega
       case rel =>
        have e1 : (acc ++ [iv] ++ [putI b k, getI b k]).length = acc.length + 1 + 2 := by simp
        exact ⟨k + 1, some ⟨g2, 0, none⟩, cap2, acc ++ [iv] ++ [putI b k, getI b k], by rw [e1], by go_num, by omega, lh (by rw [HSN.out, if_pos HK2.out, <- HA.out, HIV.out]), lh (by rw [e1]; exact HO11.out), HB11⟩
     . have hq1 : ((k : Int) % 2 == 0) = false := by simp; omega
       have HK2 := lh hk2
       clear hk2 m0 m1 m2 m3 m4 m5 m6 m7 m8 m9 m10 m11 m12 m13 m14 q7 qe
       go_wp2
       go_roundg gj
       case measure => omega
       case rel =>
        have e1 : (acc ++ [iv]).length = acc.length + 1 := by simp
        exact ⟨k + 1, some ⟨gg, 0, none⟩, cap, acc ++ [iv], by rw [e1], by go_num, by omega, lh (by rw [HSN.out, if_neg HK2.out, <- HA.out, HIV.out, List.append_nil]), lh (by rw [e1]; exact HO8.out), HB8⟩
def mkC (q : Bool) (c : CdV) : CdV := if q = true then slC c else c
theorem slC_len (c : CdV) : (slC c).b.length = c.b.length := List.length_mapIdx
theorem mk_any (q : Bool) (A : Option Addr) (nx cx : Nat) (f : Nat -> Int) (w : World) (hB : RBy w A nx f) (hn : nx <= 9223372036854775807) :
 Calls Tryz.prog 12 #[.agg #[.slice A nx cx], .bool q] w fun e w' => ∃ (c : CdV) (a : CdA), e = .returned (.agg #[((mkC q c).n 0), ((mkC q c).n 1), ((mkC q c).n 2), ((mkC q c).n 3), ((mkC q c).n 4), .slice a.a1 (mkC q c).q.length a.c1, .slice a.a2 (mkC q c).l.length a.c2, .slice a.a3 (mkC q c).b.length a.c3]) /\ (MdOk c /\ CdK (mkC q c) a w') /\ Below w.heap.size w w' := by
 have hb1 : Below w.heap.size w ((w.alloc (.cells #[.slice A nx cx] 24)).alloc (.cells #[(0:Int), (0:Int), (0:Int), (0:Int), (0:Int), .slice none 0 0, .slice none 0 0, .slice none 0 0] 36)) := ((Below.refl _ _).alloc (Nat.le_refl _) _).alloc (by simp) _
 have hres : ((w.alloc (.cells #[.slice A nx cx] 24)).alloc (.cells #[(0:Int), (0:Int), (0:Int), (0:Int), (0:Int), .slice none 0 0, .slice none 0 0, .slice none 0 0] 36)).heap[w.heap.size + 1]? = some (.cells #[(0:Int), (0:Int), (0:Int), (0:Int), (0:Int), .slice none 0 0, .slice none 0 0, .slice none 0 0] 36 (0, 0)) := by
  have := heap_alloc_new (w.alloc (.cells #[.slice A nx cx] 24)) (.cells #[(0:Int), (0:Int), (0:Int), (0:Int), (0:Int), .slice none 0 0, .slice none 0 0, .slice none 0 0] 36)
  rw [World.size_alloc] at this
  exact this
 have HB1 := lh hb1
 have HRS := lh hres
 have H34 := lh (fun W (hW : Below w.heap.size w W) => made_any A nx cx f W (hB.on hW) hn)
 have H43 := lh (fun W (hW : Below w.heap.size w W) => slotted_of A nx cx W (fun V hV => (made_any A nx cx f V (hB.on (hW.trans (hV.mono hW.size))) hn)))
 clear hb1 hres hB
 cases q with
 | false =>
  go_enter Tryz.func12, Tryz.ntmps12
  go_wp2_with (first
   | (go_at_call 34; (with_reducible refine (H34.out _ HB1.out).mono ?_); rintro e w2 ⟨c, a, rfl, hmp, hb2⟩; have hrs := (hb2.block _ (Array.getElem?_eq_some_iff.1 HRS.out).1).trans HRS.out; have r0 := cell_blk hrs (i := 0) rfl; have r1 := cell_blk hrs (i := 1) rfl; have r2 := cell_blk hrs (i := 2) rfl; have r3 := cell_blk hrs (i := 3) rfl; have r4 := cell_blk hrs (i := 4) rfl; have r5 := cell_blk hrs (i := 5) rfl; have r6 := cell_blk hrs (i := 6) rfl; have r7 := cell_blk hrs (i := 7) rfl; have rf := fun o => frozen_of_row _ _ o _ _ hrs; have HFN := lh (fun v0 v1 v2 v3 v4 v5 v6 v7 => res_store (w := w) hmp.2 hrs (Nat.le_succ w.heap.size) (HB1.out.trans (hb2.mono HB1.out.size)) v0 v1 v2 v3 v4 v5 v6 v7); have HST := lh (res_cells hrs (.int .i64 (c.n 0)) (.int .i64 (c.n 1)) (.int .i64 (c.n 2)) (.int .i64 (c.n 3)) (.int .i64 (c.n 4)) (.slice a.a1 c.q.length a.c1) (.slice a.a2 c.l.length a.c2) (.slice a.a3 c.b.length a.c3)); have HMD := lh hmp.1; clear hmp hb2 hrs))
  have s0 := cell_blk HST.out (i := 0) rfl
  have s1 := cell_blk HST.out (i := 1) rfl
  have s2 := cell_blk HST.out (i := 2) rfl
  have s3 := cell_blk HST.out (i := 3) rfl
  have s4 := cell_blk HST.out (i := 4) rfl
  have s5 := cell_blk HST.out (i := 5) rfl
  have s6 := cell_blk HST.out (i := 6) rfl
  have s7 := cell_blk HST.out (i := 7) rfl
  refine bodyPost_ret (v := .agg #[(c.n 0), (c.n 1), (c.n 2), (c.n 3), (c.n 4), .slice a.a1 c.q.length a.c1, .slice a.a2 c.l.length a.c2, .slice a.a3 c.b.length a.c3]) (by simp [results, Tryz.results12, go_sem, s0, s1, s2, s3, s4, s5, s6, s7]) rfl ?_
  exact ⟨c, a, rfl, ⟨HMD.out, (HFN.out _ _ _ _ _ _ _ _).1⟩, (HFN.out _ _ _ _ _ _ _ _).2⟩
 | true =>
  go_enter Tryz.func12, Tryz.ntmps12
  go_wp2_with (first
   | (go_at_call 43; (with_reducible refine (H43.out _ HB1.out).mono ?_); rintro e w2 ⟨c, a, rfl, hmp, hb2⟩; have hrs := (hb2.block _ (Array.getElem?_eq_some_iff.1 HRS.out).1).trans HRS.out; have r0 := cell_blk hrs (i := 0) rfl; have r1 := cell_blk hrs (i := 1) rfl; have r2 := cell_blk hrs (i := 2) rfl; have r3 := cell_blk hrs (i := 3) rfl; have r4 := cell_blk hrs (i := 4) rfl; have r5 := cell_blk hrs (i := 5) rfl; have r6 := cell_blk hrs (i := 6) rfl; have r7 := cell_blk hrs (i := 7) rfl; have rf := fun o => frozen_of_row _ _ o _ _ hrs; have HFN := lh (fun v0 v1 v2 v3 v4 v5 v6 v7 => res_store (w := w) hmp.2 hrs (Nat.le_succ w.heap.size) (HB1.out.trans (hb2.mono HB1.out.size)) v0 v1 v2 v3 v4 v5 v6 v7); have HST := lh (res_cells hrs (.int .i64 (c.n 0)) (.int .i64 (c.n 1)) (.int .i64 (c.n 2)) (.int .i64 2) (.int .i64 (c.n 4)) (.slice a.a1 c.q.length a.c1) (.slice a.a2 c.l.length a.c2) (.slice a.a3 c.b.length a.c3)); have HMD := lh hmp.1; clear hmp hb2 hrs))
  have s0 := cell_blk HST.out (i := 0) rfl
  have s1 := cell_blk HST.out (i := 1) rfl
  have s2 := cell_blk HST.out (i := 2) rfl
  have s3 := cell_blk HST.out (i := 3) rfl
  have s4 := cell_blk HST.out (i := 4) rfl
  have s5 := cell_blk HST.out (i := 5) rfl
  have s6 := cell_blk HST.out (i := 6) rfl
  have s7 := cell_blk HST.out (i := 7) rfl
  refine bodyPost_ret (v := .agg #[(c.n 0), (c.n 1), (c.n 2), (2:Int), (c.n 4), .slice a.a1 c.q.length a.c1, .slice a.a2 c.l.length a.c2, .slice a.a3 c.b.length a.c3]) (by simp [results, Tryz.results12, go_sem, s0, s1, s2, s3, s4, s5, s6, s7]) rfl ?_
  refine ⟨c, a, ?_, ⟨HMD.out, (HFN.out _ _ _ _ _ _ _ _).1⟩, (HFN.out _ _ _ _ _ _ _ _).2⟩
  have e : (mkC true c) = slC c := rfl
  rw [e, slC_len]
  rfl
theorem mk_b {c : CdV} (h : MdOk c) (q : Bool) : (mkC q c).q = arM /\ (mkC q c).l = c.l /\ (mkC q c).b.length = c.b.length /\ (mkC q c).n 2 = 6 + 2 * (c.l.length : Int) /\ 0 <= (mkC q c).n 3 /\ (mkC q c).n 3 <= 2 /\ ∀ e, e ∈ (mkC q c).b -> e.1.length <= 27 /\ ∀ i, i ∈ e.1 -> instB 3 ((mkC q c).n 3) ((mkC q c).n 2) 5 (mkC q c).b.length spA i = true := by
 obtain ⟨g, s, hs, hg, hs8, hn⟩ := h.nums
 have e2 : c.n 2 = 6 + 2 * (c.l.length : Int) := by rw [hn]; rfl
 have e3 : c.n 3 = 0 := by rw [hn]; rfl
 cases q with
 | false =>
  show c.q = arM /\ c.l = c.l /\ c.b.length = c.b.length /\ c.n 2 = _ /\ 0 <= c.n 3 /\ c.n 3 <= 2 /\ _
  refine ⟨h.q, rfl, rfl, e2, by omega, by omega, fun e he => ⟨by have := (h.bs e he).len; omega, fun i hi => ?_⟩⟩
  show instB 3 (c.n 3) (c.n 2) 5 c.b.length spA i = true
  rw [e2]
  exact ((h.bs e he).ins i hi).ok _ _
 | true =>
  have e2' : (slC c).n 2 = 6 + 2 * (c.l.length : Int) := by rw [<- e2]; rfl
  show c.q = arM /\ c.l = c.l /\ (slC c).b.length = c.b.length /\ (slC c).n 2 = _ /\ 0 <= (2 : Int) /\ (2 : Int) <= 2 /\ _
  refine ⟨h.q, rfl, slC_len c, e2', by decide, by decide, fun e he => ?_⟩
  obtain ⟨b, hb, rfl⟩ := List.mem_mapIdx.1 (show e ∈ c.b.mapIdx slB from he)
  have hbo := h.bs _ (List.getElem_mem hb)
  have h1 := slI_len b (c.b[b]).1 (c.b[b]).1.length
  refine ⟨by show (slI b (c.b[b]).1 (c.b[b]).1.length).length <= 27; have := hbo.len; omega, fun i hi => ?_⟩
  show instB 3 2 ((slC c).n 2) 5 (slC c).b.length spA i = true
  rw [e2', slC_len]
  rcases slI_mem (Nat.le_refl _) i hi with hm | ⟨j, hm | hm⟩
  . exact (hbo.ins i hm).ok 2 _
  . rw [hm]
    exact put_ok (by omega) _ _ _
  . rw [hm]
    exact get_ok (by omega) _ _ _
end Go.Proofs.YtkncilgmlkeifaaGreatDoor
