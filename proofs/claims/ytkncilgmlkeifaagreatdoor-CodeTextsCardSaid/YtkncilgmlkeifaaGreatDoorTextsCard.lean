/-
  CodeTexts: for every description x of a code, and slotted or not, the law warpwrightlaw05.CodeTexts returns true, and its arguments read afterwards as before. Conditions: the library's three tables and the two variables strconv.ErrRange and strconv.ErrSyntax read at the start as the program's text lays them (the card ties this).
-/
import Derived.Test.YtkncilgmlkeifaaGreatDoorTxw
import Derived.Test.YtkncilgmlkeifaaGreatDoorRtc
import Derived.Test.YtkncilgmlkeifaaGreatDoorSld
import Derived.Test.YtkncilgmlkeifaaGreatDoorExs
import Derived.Carry
import Derived.ChangeSlices
import Derived.ChangeSame
import Derived.Lib.SmallJoins
set_option linter.unusedVariables false
set_option linter.unusedSimpArgs false
namespace Go.Proofs.YtkncilgmlkeifaaGreatDoor
open Go.ChangeShapes Go.WideShapes Go.ChangeAt Go.RowKit Go.Shelf

theorem partsT_cnt {f : FormV} {q : PartV} (h : q.Rng) : ∀ s, s ≤ 8 → (partsT f q s).length ≤ 23 * cnt f s
  | 0, _ => Nat.le_refl _
  | s + 1, hs => by
    have ih := partsT_cnt (f := f) h s (by omega)
    rw [partsT, cnt, List.length_append]
    split
    · have := stepT_len h (s := s) (by omega)
      omega
    · simp only [List.length_nil]
      omega
theorem icnt : ∀ m : Nat, m < 12 → cnt (instF ((m : Int) + 1)) 8 ≤ 4 ∧ (instF ((m : Int) + 1)).word.toList.length ≤ 10 := by decide +kernel
theorem ecnt : ∀ m : Nat, m < 5 → cnt (endF ((m : Int) + 1)) 8 ≤ 5 ∧ (endF ((m : Int) + 1)).word.toList.length ≤ 10 := by decide +kernel
theorem inst_len {i : InstV} (h : InstOk i) : (instT i).length ≤ 103 := by
  obtain ⟨m, hm⟩ : ∃ m : Nat, i.op = (m : Int) + 1 := ⟨(i.op - 1).toNat, by have := h.op; omega⟩
  have h1 := icnt m (by have := h.op; omega)
  have h2 := partsT_cnt (f := instF i.op) h.rng 8 (Nat.le_refl _)
  rw [← hm] at h1
  unfold instT
  simp only [List.length_append, List.length_cons, List.length_nil]
  omega
theorem end_len {t : TermV} (h : EndOk t) : (endT t).length ≤ 126 := by
  obtain ⟨m, hm⟩ : ∃ m : Nat, t.kind = (m : Int) + 1 := ⟨(t.kind - 1).toNat, by have := h.kind; omega⟩
  have h1 := ecnt m (by have := h.kind; omega)
  have h2 := partsT_cnt (f := endF t.kind) h.rng 8 (Nat.le_refl _)
  rw [← hm] at h1
  unfold endT
  simp only [List.length_append, List.length_cons, List.length_nil]
  omega
theorem instOK_of {p sl r : Int} {n1 n3 : Nat} {sp : Nat → Int} {i : InstV} (h : instB p sl r n1 n3 sp i = true) (hr : i.parts.Rng) : InstOk i := by
  unfold instB at h
  simp only [Bool.and_eq_true] at h
  exact ⟨by simpa [instOK] using h.1, partOk_of h.2, hr⟩
theorem endOK_of {p sl r : Int} {n1 n3 : Nat} {sp : Nat → Int} {t : TermV} (h : endB p sl r n1 n3 sp t = true) (hr : t.parts.Rng) : EndOk t := by
  unfold endB at h
  simp only [Bool.and_eq_true] at h
  exact ⟨by simpa [endOK] using h.1, partOk_of h.2, hr⟩
theorem put_rng (b i : Nat) : (putI b i).parts.Rng :=
  ⟨z64, i64_of (by show -1000000 ≤ ((b % 2 : Nat) : Int) ∧ ((b % 2 : Nat) : Int) ≤ 1000000; omega), o0, orng 2 (x := ((i % 6 : Nat) : Int)) (v := 0) (by omega) (by decide), o0, o0, z64, z64⟩
theorem get_rng (b i : Nat) : (getI b i).parts.Rng :=
  ⟨z64, i64_of (by show -1000000 ≤ ((b % 2 : Nat) : Int) ∧ ((b % 2 : Nat) : Int) ≤ 1000000; omega), orng 2 (x := (((i + 1) % 6 : Nat) : Int)) (v := 0) (by omega) (by decide), o0, o0, o0, z64, z64⟩
theorem arM_rt : ∀ a, a ∈ arM → WOk a.1.data.toList ∧ I64 a.2.1 ∧ I64 a.2.2.1 ∧ I64 a.2.2.2 := by
  intro a ha
  simp only [arM, List.mem_cons, List.not_mem_nil, or_false] at ha
  unfold WOk I64
  rcases ha with rfl | rfl | rfl | rfl | rfl <;> decide
theorem rt_mk {c : CdV} (h : MdOk c) (q : Bool) : RtOk (mkC q c) := by
  obtain ⟨g, s, hs, hg, hs8, hn⟩ := h.nums
  obtain ⟨m1, m2, m3, m4, m5, m6, m7⟩ := mk_b h q
  have l3 := h.l3
  have b18 := h.b18
  have n' : ∀ j, I64 (c.n j) := fun j => by
    rw [hn]
    unfold nmM
    repeat' split
    all_goals exact i64_of (by omega)
  refine ⟨fun j hj => ?_, by rw [m1]; exact arM_rt, fun l hl => ?_, fun e he => ⟨fun i hi => instOK_of ((m7 e he).2 i hi) ?_, ?_⟩⟩
  · cases q
    · exact n' j
    · show I64 (if j = 3 then 2 else c.n j)
      split
      · exact i64_of (by omega)
      · exact n' j
  · rw [m2] at hl
    have := h.ls l hl
    unfold LOk at this
    exact ⟨i64_of (by omega), i64_of (by omega), i64_of (by omega)⟩
  · cases q
    · exact ((h.bs e he).ins i hi).rng
    · obtain ⟨b, hb, rfl⟩ := List.mem_mapIdx.1 (show e ∈ c.b.mapIdx slB from he)
      rcases slI_mem (Nat.le_refl _) i hi with hm | ⟨j, hm | hm⟩
      · exact ((h.bs _ (List.getElem_mem hb)).ins i hm).rng
      · rw [hm]; exact put_rng _ _
      · rw [hm]; exact get_rng _ _
  · cases q
    · exact endOK_of ((h.bs e he).fin.ok 0) (h.bs e he).fin.rng
    · obtain ⟨b, hb, rfl⟩ := List.mem_mapIdx.1 (show e ∈ c.b.mapIdx slB from he)
      exact endOK_of ((h.bs _ (List.getElem_mem hb)).fin.ok 0) (h.bs _ (List.getElem_mem hb)).fin.rng
theorem mk_rng {c : CdV} (h : MdOk c) (q : Bool) : (mkC q c).Rng := by
  have r := rt_mk h q
  have l3 := h.l3
  have n' : ∀ j, I64 ((mkC q c).n j) := fun j => by
    by_cases hj : j < 5
    · exact r.n j hj
    · obtain ⟨g, s, hs, hg, hs8, hn⟩ := h.nums
      have h3 : (mkC q c).n j = 3 := by
        have e : c.n j = 3 := by
          rw [hn]
          unfold nmM
          repeat' split
          all_goals omega
        cases q
        · exact e
        · show (if j = 3 then 2 else c.n j) = 3
          rw [if_neg (by omega), e]
      rw [h3]
      exact i64_of (by omega)
  exact CdOk.rng ⟨n', fun a ha => (r.q a ha).2, r.l, fun e he x hx => ((r.b e he).1 x hx).rng, fun e he => (r.b e he).2.rng⟩
theorem txt_size {c : CdV} (h : MdOk c) (q : Bool) : (txtC (mkC q c)).length ≤ 65536 := by
  have r := rt_mk h q
  obtain ⟨m1, m2, m3, m4, m5, m6, m7⟩ := mk_b h q
  have l3 := h.l3
  have b18 := h.b18
  have h0 := headT_len (g := (mkC q c).n 0) (s := (mkC q c).n 1) (r := (mkC q c).n 2) (sl := (mkC q c).n 3) (p := (mkC q c).n 4) (fun j hj => by
    match j, hj with
    | 0, _ => exact r.n 0 (by decide)
    | 1, _ => exact r.n 1 (by decide)
    | 2, _ => exact r.n 2 (by decide)
    | 3, _ => exact r.n 3 (by decide)
    | 4, _ => exact r.n 4 (by decide))
  have lq : (mkC q c).q.length = 5 := by rw [m1]; rfl
  have h1 := catT_len (F := fun j => arrT ((mkC q c).nm j) ((mkC q c).sp j) ((mkC q c).ty j) ((mkC q c).ln j)) (n := 5) (m := 200) (fun j hj => by
    have hj' : j < (mkC q c).q.length := by omega
    have ha := r.q _ (List.getElem_mem hj')
    refine arrT_len ?_ ?_
    · simp only [CdV.nm, getD_of _ _ _ hj']
      have : ∀ a, a ∈ (mkC q c).q → a.1.size ≤ 12 := by
        rw [m1]
        intro a ha
        simp only [arM, List.mem_cons, List.not_mem_nil, or_false] at ha
        rcases ha with rfl | rfl | rfl | rfl | rfl <;> decide
      exact this _ (List.getElem_mem hj')
    · simp only [CdV.sp, CdV.ty, CdV.ln, getD_of _ _ _ hj']
      exact fun k _ => f3_rng ha.2.1 ha.2.2.1 ha.2.2.2 k) 5 (Nat.le_refl _)
  have h2 := catT_len (F := fun j => loopT ((mkC q c).hd j) ((mkC q c).rg j) ((mkC q c).bd j)) (n := (mkC q c).l.length) (m := 200) (fun j hj => by
    have ha := r.l _ (List.getElem_mem hj)
    refine loopT_len ?_
    simp only [CdV.hd, CdV.rg, CdV.bd, getD_of _ _ _ hj]
    exact fun k _ => f3_rng ha.1 ha.2.1 ha.2.2 k) _ (Nat.le_refl _)
  have h3 := catT_len (F := fun j => blockT ((mkC q c).il j) ((mkC q c).is j) ((mkC q c).te j)) (n := (mkC q c).b.length) (m := 2913) (fun j hj => by
    have hb := r.b _ (List.getElem_mem hj)
    have hl := (m7 _ (List.getElem_mem hj)).1
    have e1 : (mkC q c).il j = ((mkC q c).b[j]).1.length := by unfold CdV.il; rw [getD_of _ _ _ hj]
    have e2 : (mkC q c).te j = ((mkC q c).b[j]).2 := by unfold CdV.te; rw [getD_of _ _ _ hj]
    have h4 := catT_len (F := fun k => instT ((mkC q c).is j k)) (n := ((mkC q c).b[j]).1.length) (m := 103) (fun k hk => by
      have e3 : (mkC q c).is j k = ((mkC q c).b[j]).1[k] := by unfold CdV.is; rw [getD_of _ _ _ hj, getD_of _ _ _ hk]
      show (instT ((mkC q c).is j k)).length ≤ 103
      rw [e3]
      exact inst_len (hb.1 _ (List.getElem_mem hk))) _ (Nat.le_refl _)
    have h5 := end_len hb.2
    show (blockT ((mkC q c).il j) ((mkC q c).is j) ((mkC q c).te j)).length ≤ 2913
    unfold blockT
    rw [e1, e2, instsT_cat]
    simp only [List.length_append, List.length_cons, List.length_nil]
    omega) _ (Nat.le_refl _)
  unfold txtC textT
  rw [lq]
  simp only [List.length_append]
  have h3' : (mkC q c).b.length * 2913 ≤ 18 * 2913 := Nat.mul_le_mul_right _ (by omega)
  have h2' : (mkC q c).l.length * 200 ≤ 3 * 200 := Nat.mul_le_mul_right _ (by rw [m2]; omega)
  omega
end Go.Proofs.YtkncilgmlkeifaaGreatDoor
namespace Go.Proofs.YtkncilgmlkeifaaGreatDoor
open Go.Joins Go.ChangeShapes Go.WideShapes Go.ChangeAt Go.RowKit

theorem laidOut : laidOutB Tryz.prog = true := by kernel_rfl
theorem array1' {α : Type} {cs : Array α} (h : cs.size = 1) : ∃ c0, cs = #[c0] := by
  obtain ⟨l⟩ := cs
  match l, h with
  | [c0], _ => exact ⟨c0, rfl⟩
theorem u8_wf {n : Int} (h : (Lit.int .u8 n).wf = true) : 0 ≤ n ∧ n ≤ 255 := by
  simp [Lit.wf, IntKind.min, IntKind.max, IntKind.bits, IntKind.signed] at h
  omega
section
variable {H : Type} {enc : TypeId × Value → H} {W : World} {b0 : Nat} {v : Value} {d : DataW H} {p : List MemPlace}
/-- A slice of bytes, opened. -/
theorem open_bytes {y : DataW H × List MemPlace} {fuel : Nat} (hf : DataW.trod enc Tryz.prog W 0 (fun _ => true) true fuel 22 [v] = some y) (hlt : ∀ x ∈ y.2, x.block < W.heap.size) :
    ∃ (A : Option Addr) (n c : Nat) (f : Nat → Int), v = .slice A n c ∧ n ≤ maxLen ∧ RBy W A n f := by
  rcases open_ints Tryz.underlying22 Tryz.underlying5 (by kernel_rfl) hf with ⟨hcs, hx⟩ | ⟨a, len', cap', zs, hcs, _, hl, hm, hz, hx, hcell, hwz⟩
  · simp at hcs
    subst hcs
    exact ⟨_, _, _, fun _ => 0, rfl, Nat.zero_le _, fun h => absurd h (by omega)⟩
  · simp at hcs
    subst hcs
    simp only [if_true] at hz
    subst hx
    refine ⟨_, _, _, fun j => zs.getD j 0, rfl, Nat.le_trans hl hm, fun hn => ?_⟩
    obtain ⟨b, off, spot⟩ := a
    have hspot : spot = none := by simpa [Addr.add] using World.cell?_spot (hcell 0 (by omega))
    subst hspot
    have hb : b < W.heap.size := World.block_lt_of_cell? W _ (hcell 0 (by omega))
    refine ⟨b, off, rfl, hb, fun j hj => ⟨by rw [← add_plain]; exact hcell j (by omega), ?_⟩⟩
    have hm : zs.getD j 0 ∈ zs := by
      rw [List.getD_eq_getElem?_getD, List.getElem?_eq_getElem (by omega)]
      exact List.getElem_mem _
    exact u8_wf (hwz _ hm)
set_option maxRecDepth 100000 in
theorem open_raw (hv : Value.okWide Tryz.prog W .any b0 24 v) (h : DataW.Trod enc Tryz.prog W 0 (fun _ => true) true 24 v d p) (hlt : ∀ x ∈ p, x.block < W.heap.size) :
    ∃ (A : Option Addr) (n c : Nat) (f : Nat → Int), v = .agg #[.slice A n c] ∧ n ≤ maxLen ∧ RBy W A n f := by
  obtain ⟨cs, rfl, hsz⟩ := okWide_struct Tryz.underlying24 hv
  obtain ⟨c0, rfl⟩ := array1' (hsz.trans (by kernel_rfl))
  obtain ⟨fuel, hf⟩ := h
  obtain ⟨y0, n, hx, _, h0⟩ := trod_struct1 Tryz.underlying24 hf
  simp only [Prod.mk.injEq] at hx
  have h0' : DataW.trod enc Tryz.prog W 0 (fun _ => true) true n 22 [c0] = some y0 := by
    have hc : Tryz.prog.cellsOf 22 = 1 := by kernel_rfl
    simpa [Value.cells, hc] using h0
  obtain ⟨A, m, c, f, rfl, hm, hr⟩ := open_bytes h0' (fun x hx' => hlt x (by rw [hx.2]; simpa using hx'))
  exact ⟨A, m, c, f, rfl, hm, hr⟩
end
theorem txf_mk {c : CdV} (h : MdOk c) (q : Bool) : TxF (mkC q c) := by
  obtain ⟨m1, m2, m3, m4, m5, m6, m7⟩ := mk_b h q
  have l3 := h.l3
  have b18 := h.b18
  refine ⟨mk_chk h q, ⟨by rw [m1]; decide, by rw [m2]; omega, by rw [m3]; omega⟩, mk_rng h q, rt_mk h q, txt_size h q, ⟨by rw [m1]; decide, by rw [m2]; omega, by rw [m3]; omega⟩, fun j => ?_⟩
  unfold CdV.il
  by_cases hj : j < (mkC q c).b.length
  · rw [getD_of _ _ _ hj]
    exact (m7 _ (List.getElem_mem hj)).1
  · rw [List.getD_eq_getElem?_getD, List.getElem?_eq_none (by omega)]
    decide
theorem texts_any (A : Option Addr) (nx cx : Nat) (f : Nat → Int) (q : Bool) (w : World) (hE : EnvP w) (hB : RBy w A nx f) (hn : nx ≤ 9223372036854775807) :
    Calls Tryz.prog 4 #[.agg #[.slice A nx cx], .bool q] w fun e w' => e = .returned (.bool true) ∧ Below w.heap.size w w' :=
  texts_of A nx cx q w hE fun W hW => (mk_any q A nx cx f W (hB.on hW) hn).mono fun e w' ⟨c, a, he, hm, hb⟩ => ⟨mkC q c, a, he, ⟨txf_mk hm.1 q, hm.2⟩, hb⟩
end Go.Proofs.YtkncilgmlkeifaaGreatDoor
namespace Go.Proofs.YtkncilgmlkeifaaGreatDoor.codeTexts
open Go.ChangeShapes Go.WideShapes Go.ChangeAt Go.RowKit

set_option maxRecDepth 100000 in
theorem lifted (os : Os) (started : os.Started) (H : Type) (enc : TypeId × Value → H) (F : Stop.Interp) :
    ReturnsInHanded {} Tryz.checked os 4 .any ((OpenSpec.ofChange Rows.codeTextsSpec).preRow enc Tryz.prog Tryz.f4 [] false laid5) (((OpenSpec.ofChange Rows.codeTextsSpec).at F).post enc Tryz.prog Tryz.f4 false true false false) := by
  refine returnsInHanded_of_row (C := Tryz.checked) own started (by kernel_rfl) Tryz.func4
    (witness_row_at (enc := enc) (C := Tryz.checked) false (World.doorLaid Tryz.prog 400 os) #[.agg #[.slice none 0 0], .bool false] rfl (by kernel_rfl) (by kernel_rfl) (by kernel_rfl) (OpenSpec.preRow_of_B rfl 8 (by kernel_rfl) (by kernel_rfl) (door_met os _))) ?_
  intro W base args ds gs before hval0 hW _ _ _ hL hsh _
  have hval : ∀ (j : Nat) t v, Tryz.f4.params[j]? = some t → args[j]? = some v → Value.okWide Tryz.prog W .any base t v := hval0
  have hW' := hW
  obtain ⟨p, q, hA0, hV, rfl, hfz, hnd⟩ := hW
  have hA : DataW.TrodAll enc Tryz.prog W 0 (fun _ => true) true Tryz.f4.params.toList args.toList ds p := hA0
  rw [Tryz.params4] at hA hval
  obtain ⟨v0, vs0, d0, ds0, p0, q0, hargs, rfl, rfl, h0, r0⟩ := trodAll_cons hA
  obtain ⟨v1, vs1, d1, ds1, p1, q1, rfl, rfl, rfl, h1, r1⟩ := trodAll_cons r0
  obtain ⟨rfl, rfl, rfl⟩ := trodAll_nil r1
  obtain rfl : args = #[v0, v1] := by cases args; simp_all
  obtain ⟨rfl, rfl⟩ := trodVars_none hV
  have hlt0 : ∀ x ∈ p0, x.block < W.heap.size := fun x hx => hW'.lt x (by simp [hx])
  have g0 : ∀ (W' : World), Below W.heap.size W W' → DataW.Trod enc Tryz.prog W' 0 (fun b => decide (b < W.heap.size)) true 24 v0 d0 p0 := fun W' hn => Below.trod laidOut (by kernel_rfl) (of_decide_eq_true (by kernel_rfl)) h0 hn hlt0
  obtain ⟨A, nx, cx, f, rfl, hm, hr⟩ := open_raw (hval 0 24 v0 rfl rfl) h0 hlt0
  obtain ⟨qb, rfl, rfl, rfl⟩ := open_bool Tryz.underlying4 (hval 1 4 v1 rfl rfl) h1
  clear hA0 hval0
  have he : EnvP W := env_of_laid hL
  have hm2 : nx ≤ 9223372036854775807 := by unfold maxLen at hm; omega
  refine (texts_any A nx cx f qb W he hr hm2).mono fun e W' ⟨he', hg⟩ => ?_
  subst he'
  exact ⟨_, rfl, _, _, _, [], _, [], hW', (trodAll_cons_mk (shut_bool Tryz.underlying4 _) trodAll_mk0), (trodAll_cons_mk (g0 _ hg) (trodAll_cons_mk (shut_bool Tryz.underlying4 _) trodAll_mk0)), rfl, hg.frame _, fun h => by cases h⟩

theorem row_holds : Rows.CodeTextsSaid :=
  OpenClaim.holds_of_cond 4 Tryz.f4 rfl rfl rfl rfl rfl rfl rfl ⟨rfl, rfl, rfl, rfl, rfl⟩ rfl rfl rfl rfl rfl (by kernel_rfl) Tryz.func4 (by kernel_rfl)
    (of_decide_eq_true (by kernel_rfl)) (by unfold Func.isWrapper; first | (rw [if_pos (by decide +kernel)]; kernel_rfl) | (rw [if_neg (by decide +kernel)]; exact ⟨rfl, rfl⟩))
    (fun os started H enc _ F0 => by rw [OpenClaim.pre_eq_preRow]; exact lifted os started H enc F0)
end Go.Proofs.YtkncilgmlkeifaaGreatDoor.codeTexts
namespace Go.Proofs.YtkncilgmlkeifaaGreatDoor
open Go
/-- The tied card. -/
theorem codeTexts_card_holds : Rows.CodeTextsCardSaid :=
  Claim7.holds_tied_plain_at .later [] [.data, .data, .data, .sentinel, .sentinel] true (true, "3208f3d9b3fc8fa5a2ce130b2a76f99328675c1c0e26b6f9a693437d4338b297") true
    codeTexts.row_holds (fun _ h => by cases h) (by kernel_rfl) (fun _ h => by cases h) codeTexts_row_tie rfl ⟨rfl, rfl⟩ (by kernel_rfl) rfl
    (fun f fn hf hfn => by
      obtain rfl : f = 4 := Option.some.inj ((show Tryz.prog.funcNamed "warpwright/warpwrightlaw05.CodeTexts" = some 4 by kernel_rfl).symm.trans hf) |>.symm
      obtain rfl : fn = Tryz.f4 := (Option.some.inj (Tryz.func4.symm.trans hfn)).symm
      exact ⟨by kernel_rfl, fun j t ht => by
        rw [Tryz.params4] at ht
        have hm : t ∈ [24, 4] := by simpa using Array.mem_of_getElem? ht
        have hall : ([24, 4].all fun u => !Tryz.prog.wantsStandIn u) = true := by kernel_rfl
        exact (show Tryz.prog.wantsStandIn t = false by simpa using List.all_eq_true.1 hall t hm)⟩)
    (by kernel_rfl)
end Go.Proofs.YtkncilgmlkeifaaGreatDoor
