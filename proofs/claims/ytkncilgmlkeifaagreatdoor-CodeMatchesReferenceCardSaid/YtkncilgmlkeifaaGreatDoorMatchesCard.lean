/-
  CodeMatchesReference: for every description x of a code, with slots or without, and every two changes z, the law warpwrightlaw05.CodeMatchesReference returns true, and its arguments read afterwards as before. Conditions: the library's three tables and the two variables strconv.ErrRange and strconv.ErrSyntax read at the start as the program's text lays them (the card ties this).
-/
import Derived.Test.YtkncilgmlkeifaaGreatDoorChc
import Derived.Test.YtkncilgmlkeifaaGreatDoorMtw
import Derived.Test.YtkncilgmlkeifaaGreatDoorWrv
import Derived.Test.YtkncilgmlkeifaaGreatDoorWrx
import Derived.Test.YtkncilgmlkeifaaGreatDoorExs
import Derived.Carry
import Derived.ChangeSlices
import Derived.ChangeSame
import Derived.Lib.SmallJoins
set_option linter.unusedVariables false
set_option linter.unusedSimpArgs false
set_option maxRecDepth 100000
set_option maxRecDepth 100000
set_option maxHeartbeats 2000000
namespace Go.Proofs.YtkncilgmlkeifaaGreatDoor
open Go.Joins Go.ChangeShapes Go.WideShapes Go.ChangeAt Go.RowKit Go.Shelf
theorem compact_mem {zs : List Int} {x : Int} (h : x ∈ Lib.compact zs) : x ∈ zs := by
 unfold Lib.compact Lib.compactUpTo at h
 rw [List.mem_map] at h
 obtain ⟨j, hj, rfl⟩ := h
 have hl := List.mem_range.1 (List.mem_filter.1 hj).1
 have e : zs.toArray[j]! = zs[j] := by simp [getElem!_pos, hl]
 rw [e]
 exact List.getElem_mem hl
theorem compact1 (a : Int) : Lib.compact [a] = [a] := by
 refine Lib.compact_all [a] (fun j hj => ?_)
 have : j = 0 := by simpa using hj
 subst this
 simp [Lib.keeps]
theorem compact2 (a b : Int) : Lib.compact [a, b] = if a = b then [a] else [a, b] := by
 show Lib.compactUpTo #[a, b] (1 + 1) = _
 rw [Lib.compactUpTo_succ, show Lib.compactUpTo #[a, b] 1 = [a] by simp [Lib.compactUpTo, Lib.keeps, List.range_succ]]
 by_cases h : a = b
 . rw [if_pos h, if_neg (by simp [Lib.keeps, h])]
   rfl
 . rw [if_neg h, if_pos (by simp [Lib.keeps]; exact fun e => h e.symm)]
   rfl
theorem succ_ref {t : TermV} (h : 1 <= t.kind /\ t.kind <= 5) : succL t = succR t := by
 obtain ⟨k, sub, d, a, b, t0, t1⟩ := t
 simp only at h
 have hk : k = 1 \/ k = 2 \/ k = 3 \/ k = 4 \/ k = 5 := by omega
 unfold succL succR
 rcases hk with rfl | rfl | rfl | rfl | rfl
 . show Lib.compact [t0] = _
   rw [compact1]
   simp
 . show Lib.compact [t0, t1] = _
   rw [compact2]
   by_cases e : t0 = t1 <;> simp [e]
 . show Lib.compact [t0] = _
   rw [compact1]
   simp
 . show Lib.compact [t0] = _
   rw [compact1]
   simp
 . show Lib.compact [] = _
   simp [Lib.compact, Lib.compactUpTo]
theorem usesV_len (o : Nat -> OpdV) (k : Nat) : (usesV o k).length <= k := by
 have h1 : (usesV o k).length <= (srt (regsL o k)).length := Lib.compact_length_le _
 have h2 : (srt (regsL o k)).length = (regsL o k).length := List.length_mergeSort _
 have h3 : (regsL o k).length <= k := by
  unfold regsL
  rw [List.length_map]
  have := List.length_filter_le (fun j => decide ((o j).k = 2)) (List.range k)
  rw [List.length_range] at this
  exact this
 omega
theorem usesT_len (t : TermV) : (usesT t).length <= 2 := usesV_len _ 2
theorem usesI_len (i : InstV) : (usesI i).length <= 3 := usesV_len _ 3
theorem sameI_self (n : Nat) (f : Nat -> Int) : sameI n n f f = true := by
 unfold sameI
 simp
theorem bools_same (b1 b2 n1 n2 n c d : Nat) (R : Nat -> Bool) (w : World) (h1 : w.rowIs b1 4 n1 (fun j => .bool (R j))) (h2 : w.rowIs b2 4 n2 (fun j => .bool (R j))) (hn1 : n <= n1) (hn2 : n <= n2) (hn : n <= 65536) :
 Calls Tryz.prog 18 #[.slice (some ⟨b1, 0, none⟩) n c, .slice (some ⟨b2, 0, none⟩) n d] w fun e w' => e = .returned (.bool true) /\ Below w.heap.size w w' := by
 have HA := lh h1
 have HB := lh h2
 clear h1 h2
 go_enter Tryz.func18, Tryz.ntmps18
 go_wp2
 go_loopw [5] (fun i wr => ∃ k : Nat, k <= n /\ i = .int .i64 k /\ Hid (Below w.heap.size w wr)) (fun i _ => n - (intOf i).toNat)
 case atStart => exact ⟨0, Nat.zero_le _, rfl, lh (Below.refl _ _)⟩
 case round =>
  obtain ⟨k, hk, rfl, HBe⟩ := hrel
  by_cases hlt : k < n
  . have m1 : wr.cell? ⟨b1, k, none⟩ = some (.bool (R k)) := (HA.out.of_block (HBe.out.block b1 HA.out.lt)).cell (by omega)
    have m2 : wr.cell? ⟨b2, k, none⟩ = some (.bool (R k)) := (HB.out.of_block (HBe.out.block b2 HB.out.lt)).cell (by omega)
    obtain ⟨r, hr⟩ : ∃ r, R k = r := ⟨_, rfl⟩
    rw [hr] at m1 m2
    clear hr
    have hne : (r != r) = false := by cases r <;> rfl
    go_wp2
    go_quiet (fail)
    go_wp2
    go_roundw
    case rel => exact ⟨k + 1, by omega, by go_num, lh (below_drewN HBe.out _)⟩
    case measure => simp [intOf]; omega
  . go_wp2
    go_ret
    exact ⟨rfl, HBe.out⟩
theorem chk_targets {C : CdV} (h : chkC C = 0) : ∀ j, j < C.b.length -> ∀ x, x ∈ succL (C.te j) -> 0 <= x /\ x < C.b.length := by
 intro j hj x hx
 unfold chkC checkE at h
 split at h
 . split at h
   . rename_i _ hf
     unfold formB at hf
     simp only [Bool.and_eq_true] at hf
     have hb := hf.2.2.2.2
     rw [List.all_eq_true] at hb
     have hj2 := hb j (by simpa using hj)
     unfold blockB at hj2
     simp only [Bool.and_eq_true] at hj2
     have he := hj2.2
     unfold endB at he
     simp only [Bool.and_eq_true] at he
     have hh := he.2
     unfold hasV at hh
     simp only [Bool.and_eq_true] at hh
     have ht := hh.2.2.2
     rw [List.all_eq_true] at ht
     unfold succL at hx
     have hx2 : x ∈ [(C.te j).t0, (C.te j).t1].take (endF (C.te j).kind).targets.toNat := compact_mem hx
     rcases endF_tgs (C.te j).kind with e | e | e
     . rw [e] at hx2
       simp at hx2
     . rw [e] at hx2 ht
       have h0 : wthB (C.te j).t0 0 ((C.b.length : Int) - 1) = true := ht 0 (by simp)
       simp at hx2
       subst hx2
       unfold wthB at h0
       simp only [Bool.and_eq_true, decide_eq_true_eq] at h0
       omega
     . rw [e] at hx2 ht
       have h0 : wthB (C.te j).t0 0 ((C.b.length : Int) - 1) = true := ht 0 (by decide)
       have h1 : wthB (C.te j).t1 0 ((C.b.length : Int) - 1) = true := ht 1 (by decide)
       unfold wthB at h0 h1
       simp only [Bool.and_eq_true, decide_eq_true_eq] at h0 h1
       have hx3 : x = (C.te j).t0 \/ x = (C.te j).t1 := by simpa using hx2
       rcases hx3 with rfl | rfl <;> omega
   . omega
 . omega
theorem put_rng (b i : Nat) : (putI b i).parts.Rng :=
 ⟨z64, i64_of (by show -1000000 <= ((b % 2 : Nat) : Int) /\ ((b % 2 : Nat) : Int) <= 1000000; omega), o0, orng 2 (x := ((i % 6 : Nat) : Int)) (v := 0) (by omega) (by decide), o0, o0, z64, z64⟩
theorem get_rng (b i : Nat) : (getI b i).parts.Rng :=
 ⟨z64, i64_of (by show -1000000 <= ((b % 2 : Nat) : Int) /\ ((b % 2 : Nat) : Int) <= 1000000; omega), orng 2 (x := (((i + 1) % 6 : Nat) : Int)) (v := 0) (by omega) (by decide), o0, o0, o0, z64, z64⟩
theorem chk_kinds {C : CdV} (h : chkC C = 0) : 0 < C.b.length /\ ∀ j, j < C.b.length -> 1 <= (C.te j).kind /\ (C.te j).kind <= 5 := by
 unfold chkC checkE at h
 split at h
 . split at h
   . rename_i _ hf
     unfold formB at hf
     simp only [Bool.and_eq_true] at hf
     have hb := hf.2.2.2.2
     rw [List.all_eq_true] at hb
     refine ⟨by simpa using hf.2.2.2.1, fun j hj => ?_⟩
     have hj2 := hb j (by simpa using hj)
     unfold blockB at hj2
     simp only [Bool.and_eq_true] at hj2
     have he := hj2.2
     unfold endB at he
     simp only [Bool.and_eq_true] at he
     simpa [endOK] using he.1
   . omega
 . omega
theorem gc_mk {c : CdV} (h : MdOk c) (q : Bool) : GC 100 (mkC q c) := by
 obtain ⟨m1, m2, m3, m4, m5, m6, m7⟩ := mk_b h q
 have l3 := h.l3
 have b18 := h.b18
 have k := h.ok
 refine ⟨by rw [m1]; decide, by rw [m2]; omega, by rw [m3]; omega, fun e he => by have := (m7 e he).1; omega, by rw [m1]; decide, ⟨fun j => ?_, by rw [m1, <- h.q]; exact k.q, by rw [m2]; exact k.l, fun e he i hi => ?_, fun e he => ?_⟩⟩
 . cases q
   . exact k.n j
   . show I64 (if j = 3 then 2 else c.n j)
     split
     . exact i64_of (by omega)
     . exact k.n j
 . cases q
   . exact k.i e he i hi
   . obtain ⟨b, hb, rfl⟩ := List.mem_mapIdx.1 (show e ∈ c.b.mapIdx slB from he)
     rcases slI_mem (Nat.le_refl _) i hi with hm | ⟨j, hm | hm⟩
     . exact k.i _ (List.getElem_mem hb) i hm
     . rw [hm]; exact put_rng _ _
     . rw [hm]; exact get_rng _ _
 . cases q
   . exact k.t e he
   . obtain ⟨b, hb, rfl⟩ := List.mem_mapIdx.1 (show e ∈ c.b.mapIdx slB from he)
     exact k.t (c.b[b]) (List.getElem_mem hb)
theorem il_len {N : Nat} {C : CdV} (h : GC N C) (j : Nat) : C.il j <= N := by
 unfold CdV.il
 by_cases hj : j < C.b.length
 . rw [getD_of _ _ _ hj]
   exact h.i _ (List.getElem_mem hj)
 . rw [List.getD_eq_getElem?_getD, List.getElem?_eq_none (by omega)]
   exact Nat.zero_le _
def tM (C : CdV) : ByteArray := if chkC C = 0 then ⟨(txtC C).toArray⟩ else ⟨#[]⟩
theorem si_of {W : World} {b o : Nat} {L : List Int} {c : Nat} (hc : ∀ j, j < L.length -> W.cell? ⟨b, o + j, none⟩ = some (.int .i64 (L.getD j 0))) (hb : b < W.heap.size) (hl : L.length <= 65536) : SI W (.slice (some ⟨b, o, none⟩) L.length c) L :=
 ⟨_, _, rfl, fun _ => ⟨b, o, rfl, hb, hc⟩, hl⟩
theorem mt_h (A : Option Addr) (nx cx : Nat) (f : Nat -> Int) (q : Bool) (xp xa xb xy xk xn xv zp za zb zy zk zn zv : Int) (xs zs : ByteArray) (w : World) (hE : EnvP w) (hB : RBy w A nx f) (hn : nx <= 9223372036854775807)
 (hxp : 0 <= xp /\ xp <= 255) (hxa : 0 <= xa /\ xa <= 255) (hxb : 0 <= xb /\ xb <= 255) (hxy : I64 xy) (hxo : (⟨xk, xn, xv⟩ : OpdV).Rng) (hxs : xs.size <= 9223372036854775807)
 (hzp : 0 <= zp /\ zp <= 255) (hza : 0 <= za /\ za <= 255) (hzb : 0 <= zb /\ zb <= 255) (hzy : I64 zy) (hzo : (⟨zk, zn, zv⟩ : OpdV).Rng) (hzs : zs.size <= 9223372036854775807) :
 MtH w (GC 100) (GC 101) (GC 102) tM chkC succL usesT usesI (fun t => regV t.d) (fun i => regV i.d) A nx cx q xp xa xb xy xk xn xv zp za zb zy zk zn zv xs zs where
 g01 C h := h.up.up
 g12 C h := h.up
 sz C h := ⟨by have := h.b; omega, fun j => by have := il_len h j; omega⟩
 ex V hV := examples_any V (hE.on hV)
 ma V hV := (mk_any q A nx cx f V (hB.on hV) hn).mono fun e w' ⟨c, a, he, hm, hb⟩ => ⟨mkC q c, a, he, ⟨gc_mk hm.1 q, hm.2⟩, hb⟩
 c0 C a V hg hk := (chc_any C a V 100 xp xa xb xy xk xn xv xs (by decide) hk.mem hg hxa hxb hxp hxy hxo hxs).mono fun e w' ⟨D, d, he, h, hb⟩ => ⟨D, d, he, h, hb⟩
 c1 C a V hg hk := (chc_any C a V 101 zp za zb zy zk zn zv zs (by decide) hk.mem hg hza hzb hzp hzy hzo hzs).mono fun e w' ⟨D, d, he, h, hb⟩ => ⟨D, d, he, h, hb⟩
 k1 C a V hg hk := Check_rc C a V hk.mem (hg.fits (by decide))
 k2 C a V hg hk := Check_c C a V hk.mem (hg.fits (by decide))
 x1 C a V hV hg hk := by
  by_cases hz : chkC C = 0
  . have e : tM C = ⟨(txtC C).toArray⟩ := if_pos hz
    rw [e, hz]
    exact Text_cok C a V hk.mem (hg.fits (by decide)) hg.ok.rng (hE.on hV).tab hz
  . have e : tM C = ⟨#[]⟩ := if_neg hz
    rw [e]
    exact Text_cerr C a V hk.mem (hg.fits (by decide)) hz
 x2 C a V hg hk := TextIn_c C a V hk.mem (hg.fits (by decide)) hg.ok.rng
 r1 C a V hg hz hk := (Reach_c C a V hk.mem (hg.fits (by decide))).mono fun e w' ⟨h1, h2, h3⟩ => ⟨_, h1, h2, h3⟩
 r2 C a V hg hz hk := (Reach_r C a V hk.mem (hg.fits (by decide)) (chk_kinds hz).1 (fun j hj => (succ_ref ((chk_kinds hz).2 j hj)).symm) (chk_targets hz)).mono fun e w' ⟨h1, h2, h3⟩ => ⟨_, h1, h2, h3⟩
 r3 C g g' V hg h1 h2 := bools_same g g' _ _ _ _ _ _ V h1 h2 (Nat.le_refl _) (Nat.le_refl _) (by have := hg.b; omega)
 s1 t V := (Succ_any t V).mono fun e w' ⟨he, hc, hs, hb⟩ => ⟨_, he, si_of hc hs (by have := succL_len t; omega), hb⟩
 s2 C j V hg hz hj := by
  rw [succ_ref ((chk_kinds hz).2 j hj)]
  exact (Succ_r (C.te j) V).mono fun e w' ⟨he, hc, hs, hb⟩ => ⟨_, he, si_of (o := 0) (fun j hj => by rw [Nat.zero_add]; exact hc j hj) hs (by rw [<- succ_ref ((chk_kinds hz).2 j hj)]; have := succL_len (C.te j); omega), hb⟩
 si v v' L V h1 h2 := by
  obtain ⟨A1, c1, rfl, r1, hl⟩ := h1
  obtain ⟨A2, c2, rfl, r2, _⟩ := h2
  have H := SameInts_any _ c1 _ c2 A1 A2 _ _ V hl hl r1 r2
  rw [sameI_self] at H
  exact H
 u1 t V := (UsesT_any t V).mono fun e w' ⟨⟨A', c', he, hr⟩, hb⟩ => ⟨_, he, ⟨_, _, rfl, hr, by have := usesT_len t; omega⟩, hb⟩
 u2 t V := (UsesT_r t V).mono fun e w' ⟨⟨A', c', he, hr⟩, hb⟩ => ⟨_, he, ⟨_, _, rfl, hr, by have := usesT_len t; omega⟩, hb⟩
 d1 t V := DefT_any t V
 d2 t V := DefT_r t V
 i1 i V := (Uses_any i V).mono fun e w' ⟨⟨A', c', he, hr⟩, hb⟩ => ⟨_, he, ⟨_, _, rfl, hr, by have := usesI_len i; omega⟩, hb⟩
 i2 i V := (Uses_r i V).mono fun e w' ⟨⟨A', c', he, hr⟩, hb⟩ => ⟨_, he, ⟨_, _, rfl, hr, by have := usesI_len i; omega⟩, hb⟩
 e1 i V := Def_any i V
 e2 i V := Def_r i V
theorem laidOut : laidOutB Tryz.prog = true := by kernel_rfl
theorem array1' {α : Type} {cs : Array α} (h : cs.size = 1) : ∃ c0, cs = #[c0] := by
 obtain ⟨l⟩ := cs
 match l, h with
 | [c0], _ => exact ⟨c0, rfl⟩
theorem array16' {α : Type} {cs : Array α} (h : cs.size = 16) : ∃ c0 c1 c2 c3 c4 c5 c6 c7 d0 d1 d2 d3 d4 d5 d6 d7, cs = #[c0, c1, c2, c3, c4, c5, c6, c7, d0, d1, d2, d3, d4, d5, d6, d7] := by
 obtain ⟨l⟩ := cs
 match l, h with
 | [c0, c1, c2, c3, c4, c5, c6, c7, d0, d1, d2, d3, d4, d5, d6, d7], _ => exact ⟨c0, c1, c2, c3, c4, c5, c6, c7, d0, d1, d2, d3, d4, d5, d6, d7, rfl⟩
theorem u8_wf {n : Int} (h : (Lit.int .u8 n).wf = true) : 0 <= n /\ n <= 255 := by
 simp [Lit.wf, IntKind.min, IntKind.max, IntKind.bits, IntKind.signed] at h
 omega
theorem i64_wf {n : Int} (h : (Lit.int .i64 n).wf = true) : I64 n := by
 simp [Lit.wf, IntKind.min, IntKind.max, IntKind.bits, IntKind.signed] at h
 unfold I64
 omega
theorem i32_wf {n : Int} (h : (Lit.int .i32 n).wf = true) : I32b n := by
 simp [Lit.wf, IntKind.min, IntKind.max, IntKind.bits, IntKind.signed] at h
 unfold I32b
 omega
theorem okWide_arr' {P : Program} {w : World} {r : Reach} {b0 : Nat} {t e : TypeId} {n : Nat} {v : Value} (ht : P.underlying t = some (.array n e)) (h : Value.okWide P w r b0 t v) : ∃ cs, v = .agg cs /\ cs.size = P.cellsOf t := by
 unfold Value.okWide at h
 rw [ht] at h
 obtain ⟨cs, rfl, hs, _⟩ := h
 exact ⟨cs, rfl, hs⟩
section
variable {H : Type} {enc : TypeId × Value -> H} {W : World} {b0 : Nat} {v : Value} {d : DataW H} {p : List MemPlace}
theorem open_bytes {y : DataW H × List MemPlace} {fuel : Nat} (hf : DataW.trod enc Tryz.prog W 0 (fun _ => true) true fuel 22 [v] = some y) (hlt : ∀ x ∈ y.2, x.block < W.heap.size) :
 ∃ (A : Option Addr) (n c : Nat) (f : Nat -> Int), v = .slice A n c /\ n <= maxLen /\ RBy W A n f := by
 rcases open_ints Tryz.underlying22 Tryz.underlying5 (by kernel_rfl) hf with ⟨hcs, hx⟩ | ⟨a, len', cap', zs, hcs, _, hl, hm, hz, hx, hcell, hwz⟩
 . simp at hcs
   subst hcs
   exact ⟨_, _, _, fun _ => 0, rfl, Nat.zero_le _, fun h => absurd h (by omega)⟩
 . simp at hcs
   subst hcs
   simp only [if_true] at hz
   subst hx
   refine ⟨_, _, _, fun j => zs.getD j 0, rfl, Nat.le_trans hl hm, fun hn => ?_⟩
   obtain ⟨b, off, spot⟩ := a
   have hspot : spot = none := by simpa [Addr.add] using World.cell?_spot (hcell 0 (by omega))
   subst hspot
   have hb : b < W.heap.size := World.block_lt_of_cell? W _ (hcell 0 (by omega))
   refine ⟨b, off, rfl, hb, fun j hj => ⟨by rw [<- add_plain]; exact hcell j (by omega), ?_⟩⟩
   have hm : zs.getD j 0 ∈ zs := by
    rw [List.getD_eq_getElem?_getD, List.getElem?_eq_getElem (by omega)]
    exact List.getElem_mem _
   exact u8_wf (hwz _ hm)
theorem open_raw (hv : Value.okWide Tryz.prog W .any b0 24 v) (h : DataW.Trod enc Tryz.prog W 0 (fun _ => true) true 24 v d p) (hlt : ∀ x ∈ p, x.block < W.heap.size) :
 ∃ (A : Option Addr) (n c : Nat) (f : Nat -> Int), v = .agg #[.slice A n c] /\ n <= maxLen /\ RBy W A n f := by
 obtain ⟨cs, rfl, hsz⟩ := okWide_struct Tryz.underlying24 hv
 obtain ⟨c0, rfl⟩ := array1' (hsz.trans (by kernel_rfl))
 obtain ⟨fuel, hf⟩ := h
 obtain ⟨y0, n, hx, _, h0⟩ := trod_struct1 Tryz.underlying24 hf
 simp only [Prod.mk.injEq] at hx
 have h0' : DataW.trod enc Tryz.prog W 0 (fun _ => true) true n 22 [c0] = some y0 := by
  have hc : Tryz.prog.cellsOf 22 = 1 := by kernel_rfl
  simpa [Value.cells, hc] using h0
 obtain ⟨A, m, c, f, rfl, hm, hr⟩ := open_bytes h0' (fun x hx' => hlt x (by rw [hx.2]; simpa using hx'))
 exact ⟨A, m, c, f, rfl, hm, hr⟩
theorem open_two_cells {fuel : Nat} {x y : Value} {z : DataW H × List MemPlace} (hf : DataW.trod enc Tryz.prog W 0 (fun _ => true) true fuel 25 [x, y] = some z) :
 ∃ a b : Int, x = .int .u8 a /\ y = .int .u8 b /\ (0 <= a /\ a <= 255) /\ (0 <= b /\ b <= 255) := by
 have hce : Tryz.prog.cellsOf 5 = 1 := by kernel_rfl
 obtain ⟨xs, m, _, hx, _, hl, hel⟩ := DataW.trod_array Tryz.underlying25 hf
 match xs, hl with
 | [y0, y1], _ =>
  have h0 := hel 0 (by omega)
  have h1 := hel 1 (by omega)
  simp [hce] at h0 h1
  obtain ⟨a, ha, hxa, wa⟩ := DataW.trod_int Tryz.underlying5 h0
  obtain ⟨b, hb, hxb, wb⟩ := DataW.trod_int Tryz.underlying5 h1
  simp at ha hb
  exact ⟨a, b, ha, hb, u8_wf wa, u8_wf wb⟩
theorem open_opd_cells {fuel : Nat} {x y u : Value} {z : DataW H × List MemPlace} (hf : DataW.trod enc Tryz.prog W 0 (fun _ => true) true fuel 27 [x, y, u] = some z) :
 ∃ a b c : Int, x = .int .i64 a /\ y = .int .i64 b /\ u = .int .i32 c /\ (⟨a, b, c⟩ : OpdV).Rng := by
 have hc3 : Tryz.prog.cellsOf 3 = 1 := by kernel_rfl
 have hc21 : Tryz.prog.cellsOf 21 = 1 := by kernel_rfl
 obtain ⟨xs, n, _, _, _, hl, hel⟩ := DataW.trod_struct Tryz.underlying27 hf
 match xs, hl with
 | [y0, y1, y2], _ =>
  have h0 := hel 0 _ rfl
  have h1 := hel 1 _ rfl
  have h2 := hel 2 _ rfl
  simp [hc3, hc21] at h0 h1 h2
  obtain ⟨a, ha, _, _⟩ := DataW.trod_int Tryz.underlying3 h0
  obtain ⟨b, hb, _, wb⟩ := DataW.trod_int Tryz.underlying3 h1
  obtain ⟨c, hc, _, wc⟩ := DataW.trod_int Tryz.underlying21 h2
  simp at ha hb hc
  exact ⟨a, b, c, ha, hb, hc, ⟨i64_wf wb, i32_wf wc⟩⟩
def ChO (pt a b y ok on ov : Int) (s : ByteArray) : Prop := (0 <= pt /\ pt <= 255) /\ (0 <= a /\ a <= 255) /\ (0 <= b /\ b <= 255) /\ I64 y /\ (⟨ok, on, ov⟩ : OpdV).Rng /\ s.size <= 9223372036854775807
theorem open_one {fuel : Nat} {c0 c1 c2 c3 c4 c5 c6 c7 : Value} {z : DataW H × List MemPlace} (hf : DataW.trod enc Tryz.prog W 0 (fun _ => true) true fuel 29 [c0, c1, c2, c3, c4, c5, c6, c7] = some z) :
 ∃ (pt a b y : Int) (s : ByteArray) (ok on ov : Int), c0 = .int .u8 pt /\ c1 = .int .u8 a /\ c2 = .int .u8 b /\ c3 = .int .i64 y /\ c4 = .string s /\ c5 = .int .i64 ok /\ c6 = .int .i64 on /\ c7 = .int .i32 ov /\ ChO pt a b y ok on ov s := by
 have hc5 : Tryz.prog.cellsOf 5 = 1 := by kernel_rfl
 have hc25 : Tryz.prog.cellsOf 25 = 2 := by kernel_rfl
 have hc3 : Tryz.prog.cellsOf 3 = 1 := by kernel_rfl
 have hc9 : Tryz.prog.cellsOf 9 = 1 := by kernel_rfl
 have hc27 : Tryz.prog.cellsOf 27 = 3 := by kernel_rfl
 obtain ⟨xs, n, _, _, _, hl, hel⟩ := DataW.trod_struct Tryz.underlying29 hf
 match xs, hl with
 | [y0, y1, y2, y3, y4], _ =>
  have h0 := hel 0 _ rfl
  have h1 := hel 1 _ rfl
  have h2 := hel 2 _ rfl
  have h3 := hel 3 _ rfl
  have h4 := hel 4 _ rfl
  simp [hc5, hc25, hc3, hc9, hc27] at h0 h1 h2 h3 h4
  obtain ⟨pt, e0, _, w0⟩ := DataW.trod_int Tryz.underlying5 h0
  obtain ⟨a, b, e1, e2, w1, w2⟩ := open_two_cells h1
  obtain ⟨y, e3, _, w3⟩ := DataW.trod_int Tryz.underlying3 h2
  obtain ⟨s, e4, _, w4⟩ := DataW.trod_string Tryz.underlying9 h3
  obtain ⟨ok, on, ov, e5, e6, e7, w5⟩ := open_opd_cells h4
  simp at e0 e3 e4
  exact ⟨pt, a, b, y, s, ok, on, ov, e0, e1, e2, e3, e4, e5, e6, e7, u8_wf w0, w1, w2, i64_wf w3, w5, by unfold maxLen at w4; omega⟩
theorem open_changes (hv : Value.okWide Tryz.prog W .any b0 30 v) (h : DataW.Trod enc Tryz.prog W 0 (fun _ => true) true 30 v d p) :
 ∃ (xp xa xb xy xk xn xv zp za zb zy zk zn zv : Int) (xs zs : ByteArray), v = .agg #[.int .u8 xp, .int .u8 xa, .int .u8 xb, xy, .string xs, xk, xn, .int .i32 xv, .int .u8 zp, .int .u8 za, .int .u8 zb, zy, .string zs, zk, zn, .int .i32 zv] /\ ChO xp xa xb xy xk xn xv xs /\ ChO zp za zb zy zk zn zv zs := by
 obtain ⟨cs, rfl, hsz⟩ := okWide_arr' Tryz.underlying30 hv
 obtain ⟨c0, c1, c2, c3, c4, c5, c6, c7, d0, d1, d2, d3, d4, d5, d6, d7, rfl⟩ := array16' (hsz.trans (by kernel_rfl))
 obtain ⟨fuel, hf⟩ := h
 have hce : Tryz.prog.cellsOf 29 = 8 := by kernel_rfl
 obtain ⟨xs, m, _, hx, _, hl, hel⟩ := DataW.trod_array Tryz.underlying30 hf
 match xs, hl with
 | [y0, y1], _ =>
  have h0 := hel 0 (by omega)
  have h1 := hel 1 (by omega)
  simp [Value.cells, hce] at h0 h1
  obtain ⟨xp, xa, xb, xy, xs, xk, xn, xv, rfl, rfl, rfl, rfl, rfl, rfl, rfl, rfl, hx⟩ := open_one h0
  obtain ⟨zp, za, zb, zy, zs, zk, zn, zv, rfl, rfl, rfl, rfl, rfl, rfl, rfl, rfl, hz⟩ := open_one h1
  exact ⟨xp, xa, xb, xy, xk, xn, xv, zp, za, zb, zy, zk, zn, zv, xs, zs, rfl, hx, hz⟩
end
end Go.Proofs.YtkncilgmlkeifaaGreatDoor
namespace Go.Proofs.YtkncilgmlkeifaaGreatDoor.codeMatchesReference
open Go.ChangeShapes Go.WideShapes Go.ChangeAt Go.RowKit
theorem lifted (os : Os) (started : os.Started) (H : Type) (enc : TypeId × Value -> H) (F : Stop.Interp) :
 ReturnsInHanded {} Tryz.checked os 3 .any ((OpenSpec.ofChange Rows.codeMatchesReferenceSpec).preRow enc Tryz.prog Tryz.f3 [] false laid5) (((OpenSpec.ofChange Rows.codeMatchesReferenceSpec).at F).post enc Tryz.prog Tryz.f3 false true false false) := by
 refine returnsInHanded_of_row (C := Tryz.checked) own started (by kernel_rfl) Tryz.func3
  (witness_row_at (enc := enc) (C := Tryz.checked) false (World.doorLaid Tryz.prog 400 os) #[.agg #[.slice none 0 0], .bool false, .agg #[.int .u8 0, .int .u8 0, .int .u8 0, (0:Int), .string ⟨#[]⟩, (0:Int), (0:Int), .int .i32 0, .int .u8 0, .int .u8 0, .int .u8 0, (0:Int), .string ⟨#[]⟩, (0:Int), (0:Int), .int .i32 0]] rfl (by kernel_rfl) (by kernel_rfl) (by kernel_rfl) (OpenSpec.preRow_of_B rfl 8 (by kernel_rfl) (by kernel_rfl) (door_met os _))) ?_
 intro W base args ds gs before hval0 hW _ _ _ hL hsh _
 have hval : ∀ (j : Nat) t v, Tryz.f3.params[j]? = some t -> args[j]? = some v -> Value.okWide Tryz.prog W .any base t v := hval0
 have hW' := hW
 obtain ⟨p, q, hA0, hV, rfl, hfz, hnd⟩ := hW
 have hA : DataW.TrodAll enc Tryz.prog W 0 (fun _ => true) true Tryz.f3.params.toList args.toList ds p := hA0
 rw [Tryz.params3] at hA hval
 obtain ⟨v0, vs0, d0, ds0, p0, q0, hargs, rfl, rfl, h0, r0⟩ := trodAll_cons hA
 obtain ⟨v1, vs1, d1, ds1, p1, q1, rfl, rfl, rfl, h1, r1⟩ := trodAll_cons r0
 obtain ⟨v2, vs2, d2, ds2, p2, q2, rfl, rfl, rfl, h2, r2⟩ := trodAll_cons r1
 obtain ⟨rfl, rfl, rfl⟩ := trodAll_nil r2
 obtain rfl : args = #[v0, v1, v2] := by cases args; simp_all
 obtain ⟨rfl, rfl⟩ := trodVars_none hV
 have hlt0 : ∀ x ∈ p0, x.block < W.heap.size := fun x hx => hW'.lt x (by simp [hx])
 have g0 : ∀ (W' : World), Below W.heap.size W W' -> DataW.Trod enc Tryz.prog W' 0 (fun b => decide (b < W.heap.size)) true 24 v0 d0 p0 := fun W' hn => Below.trod laidOut (by kernel_rfl) (of_decide_eq_true (by kernel_rfl)) h0 hn hlt0
 have hlt2 : ∀ x ∈ p2, x.block < W.heap.size := fun x hx => hW'.lt x (by simp [hx])
 have g2 : ∀ (W' : World), Below W.heap.size W W' -> DataW.Trod enc Tryz.prog W' 0 (fun b => decide (b < W.heap.size)) true 30 v2 d2 p2 := fun W' hn => Below.trod laidOut (by kernel_rfl) (of_decide_eq_true (by kernel_rfl)) h2 hn hlt2
 obtain ⟨A, nx, cx, f, rfl, hm, hr⟩ := open_raw (hval 0 24 v0 rfl rfl) h0 hlt0
 obtain ⟨qb, rfl, rfl, rfl⟩ := open_bool Tryz.underlying4 (hval 1 4 v1 rfl rfl) h1
 obtain ⟨xp, xa, xb, xy, xk, xn, xv, zp, za, zb, zy, zk, zn, zv, xs, zs, rfl, hx, hz⟩ := open_changes (hval 2 30 v2 rfl rfl) h2
 clear hA0 hval0
 have he : EnvP W := env_of_laid hL
 have hm2 : nx <= 9223372036854775807 := by unfold maxLen at hm; omega
 refine (matches_of (GC 100) (GC 101) (GC 102) tM chkC succL usesT usesI _ _ A nx cx qb xp xa xb xy xk xn xv zp za zb zy zk zn zv xs zs W hx.2.2.2.2.2 hz.2.2.2.2.2 (mt_h A nx cx f qb xp xa xb xy xk xn xv zp za zb zy zk zn zv xs zs W he hr hm2 hx.1 hx.2.1 hx.2.2.1 hx.2.2.2.1 hx.2.2.2.2.1 hx.2.2.2.2.2 hz.1 hz.2.1 hz.2.2.1 hz.2.2.2.1 hz.2.2.2.2.1 hz.2.2.2.2.2)).mono fun e W' ⟨he', hg⟩ => ?_
 subst he'
 exact ⟨_, rfl, _, _, _, [], _, [], hW', (trodAll_cons_mk (shut_bool Tryz.underlying4 _) trodAll_mk0), (trodAll_cons_mk (g0 _ hg) (trodAll_cons_mk (shut_bool Tryz.underlying4 _) (trodAll_cons_mk (g2 _ hg) trodAll_mk0))), rfl, hg.frame _, fun h => by cases h⟩
theorem row_holds : Rows.CodeMatchesReferenceSaid :=
 OpenClaim.holds_of_cond 3 Tryz.f3 rfl rfl rfl rfl rfl rfl rfl ⟨rfl, rfl, rfl, rfl, rfl⟩ rfl rfl rfl rfl rfl (by kernel_rfl) Tryz.func3 (by kernel_rfl)
  (of_decide_eq_true (by kernel_rfl)) (by unfold Func.isWrapper; first | (rw [if_pos (by decide +kernel)]; kernel_rfl) | (rw [if_neg (by decide +kernel)]; exact ⟨rfl, rfl⟩))
  (fun os started H enc _ F0 => by rw [OpenClaim.pre_eq_preRow]; exact lifted os started H enc F0)
end Go.Proofs.YtkncilgmlkeifaaGreatDoor.codeMatchesReference
namespace Go.Proofs.YtkncilgmlkeifaaGreatDoor
open Go
theorem codeMatchesReference_card_holds : Rows.CodeMatchesReferenceCardSaid :=
 Claim7.holds_tied_plain_at .later [] [.data, .data, .data, .sentinel, .sentinel] true (true, "3208f3d9b3fc8fa5a2ce130b2a76f99328675c1c0e26b6f9a693437d4338b297") true
  codeMatchesReference.row_holds (fun _ h => by cases h) (by kernel_rfl) (fun _ h => by cases h) codeMatchesReference_row_tie rfl ⟨rfl, rfl⟩ (by kernel_rfl) rfl
  (fun f fn hf hfn => by
   obtain rfl : f = 3 := Option.some.inj ((show Tryz.prog.funcNamed "warpwright/warpwrightlaw05.CodeMatchesReference" = some 3 by kernel_rfl).symm.trans hf) |>.symm
   obtain rfl : fn = Tryz.f3 := (Option.some.inj (Tryz.func3.symm.trans hfn)).symm
   exact ⟨by kernel_rfl, fun j t ht => by
    rw [Tryz.params3] at ht
    have hm : t ∈ [24, 4, 30] := by simpa using Array.mem_of_getElem? ht
    have hall : ([24, 4, 30].all fun u => !Tryz.prog.wantsStandIn u) = true := by kernel_rfl
    exact (show Tryz.prog.wantsStandIn t = false by simpa using List.all_eq_true.1 hall t hm)⟩)
  (by kernel_rfl)
end Go.Proofs.YtkncilgmlkeifaaGreatDoor
