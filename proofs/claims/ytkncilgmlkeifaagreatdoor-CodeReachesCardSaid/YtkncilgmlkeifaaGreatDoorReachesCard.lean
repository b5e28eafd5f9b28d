/-
  CodeReaches: for every description x of a code and every change z, the law warpwrightlaw05.CodeReaches returns true, and its arguments read afterwards as before. Conditions: the library's three tables and the two variables strconv.ErrRange and strconv.ErrSyntax read at the start as the program's text lays them (the card ties this).
-/
import Derived.Test.YtkncilgmlkeifaaGreatDoorRea
import Derived.Carry
import Derived.ChangeSlices
import Derived.ChangeSame
import Derived.Lib.SmallJoins
set_option linter.unusedVariables false
set_option linter.unusedSimpArgs false
namespace Go.Proofs.YtkncilgmlkeifaaGreatDoor
open Go.Joins Go.ChangeShapes Go.WideShapes Go.ChangeAt Go.RowKit

theorem laidOut : laidOutB Tryz.prog = true := by kernel_rfl
theorem array1' {α : Type} {cs : Array α} (h : cs.size = 1) : ∃ c0, cs = #[c0] := by
  obtain ⟨l⟩ := cs
  match l, h with
  | [c0], _ => exact ⟨c0, rfl⟩
theorem array8' {α : Type} {cs : Array α} (h : cs.size = 8) : ∃ c0 c1 c2 c3 c4 c5 c6 c7, cs = #[c0, c1, c2, c3, c4, c5, c6, c7] := by
  obtain ⟨l⟩ := cs
  match l, h with
  | [c0, c1, c2, c3, c4, c5, c6, c7], _ => exact ⟨c0, c1, c2, c3, c4, c5, c6, c7, rfl⟩
theorem u8_wf {n : Int} (h : (Lit.int .u8 n).wf = true) : 0 ≤ n ∧ n ≤ 255 := by
  simp [Lit.wf, IntKind.min, IntKind.max, IntKind.bits, IntKind.signed] at h
  omega
section
variable {H : Type} {enc : TypeId × Value → H} {W : World} {b0 : Nat} {v : Value} {d : DataW H} {p : List MemPlace}
/-- A slice of bytes, opened. -/
theorem open_bytes {y : DataW H × List MemPlace} {fuel : Nat} (hf : DataW.trod enc Tryz.prog W 0 (fun _ => true) true fuel 22 [v] = some y) (hlt : ∀ x ∈ y.2, x.block < W.heap.size) :
    ∃ (A : Option Addr) (n c : Nat) (f : Nat → Int), v = .slice A n c ∧ n ≤ maxLen ∧ RBy W A n f := by
  rcases open_ints Tryz.underlying22 Tryz.underlying5 (by kernel_rfl) hf with ⟨hcs, hx⟩ | ⟨a, len', cap', zs, hcs, _, hl, hm, hz, hx, hcell, hwz⟩
  · simp at hcs
    subst hcs
    exact ⟨_, _, _, fun _ => 0, rfl, Nat.zero_le _, fun h => absurd h (by omega)⟩
  · simp at hcs
    subst hcs
    simp only [if_true] at hz
    subst hx
    refine ⟨_, _, _, fun j => zs.getD j 0, rfl, Nat.le_trans hl hm, fun hn => ?_⟩
    obtain ⟨b, off, spot⟩ := a
    have hspot : spot = none := by simpa [Addr.add] using World.cell?_spot (hcell 0 (by omega))
    subst hspot
    have hb : b < W.heap.size := World.block_lt_of_cell? W _ (hcell 0 (by omega))
    refine ⟨b, off, rfl, hb, fun j hj => ⟨by rw [← add_plain]; exact hcell j (by omega), ?_⟩⟩
    have hm : zs.getD j 0 ∈ zs := by
      rw [List.getD_eq_getElem?_getD, List.getElem?_eq_getElem (by omega)]
      exact List.getElem_mem _
    exact u8_wf (hwz _ hm)
set_option maxRecDepth 100000 in
theorem open_raw (hv : Value.okWide Tryz.prog W .any b0 24 v) (h : DataW.Trod enc Tryz.prog W 0 (fun _ => true) true 24 v d p) (hlt : ∀ x ∈ p, x.block < W.heap.size) :
    ∃ (A : Option Addr) (n c : Nat) (f : Nat → Int), v = .agg #[.slice A n c] ∧ n ≤ maxLen ∧ RBy W A n f := by
  obtain ⟨cs, rfl, hsz⟩ := okWide_struct Tryz.underlying24 hv
  obtain ⟨c0, rfl⟩ := array1' (hsz.trans (by kernel_rfl))
  obtain ⟨fuel, hf⟩ := h
  obtain ⟨y0, n, hx, _, h0⟩ := trod_struct1 Tryz.underlying24 hf
  simp only [Prod.mk.injEq] at hx
  have h0' : DataW.trod enc Tryz.prog W 0 (fun _ => true) true n 22 [c0] = some y0 := by
    have hc : Tryz.prog.cellsOf 22 = 1 := by kernel_rfl
    simpa [Value.cells, hc] using h0
  obtain ⟨A, m, c, f, rfl, hm, hr⟩ := open_bytes h0' (fun x hx' => hlt x (by rw [hx.2]; simpa using hx'))
  exact ⟨A, m, c, f, rfl, hm, hr⟩
/-- Two bytes in a row of cells, opened. -/
theorem open_two_cells {fuel : Nat} {x y : Value} {z : DataW H × List MemPlace} (hf : DataW.trod enc Tryz.prog W 0 (fun _ => true) true fuel 25 [x, y] = some z) :
    ∃ a b : Int, x = .int .u8 a ∧ y = .int .u8 b ∧ (0 ≤ a ∧ a ≤ 255) ∧ (0 ≤ b ∧ b ≤ 255) := by
  have hce : Tryz.prog.cellsOf 5 = 1 := by kernel_rfl
  obtain ⟨xs, m, _, hx, _, hl, hel⟩ := DataW.trod_array Tryz.underlying25 hf
  match xs, hl with
  | [y0, y1], _ =>
    have h0 := hel 0 (by omega)
    have h1 := hel 1 (by omega)
    simp [hce] at h0 h1
    obtain ⟨a, ha, hxa, wa⟩ := DataW.trod_int Tryz.underlying5 h0
    obtain ⟨b, hb, hxb, wb⟩ := DataW.trod_int Tryz.underlying5 h1
    simp at ha hb
    exact ⟨a, b, ha, hb, u8_wf wa, u8_wf wb⟩
theorem open_opd_cells {fuel : Nat} {x y u : Value} {z : DataW H × List MemPlace} (hf : DataW.trod enc Tryz.prog W 0 (fun _ => true) true fuel 27 [x, y, u] = some z) :
    ∃ a b c : Int, x = .int .i64 a ∧ y = .int .i64 b ∧ u = .int .i32 c := by
  have hc3 : Tryz.prog.cellsOf 3 = 1 := by kernel_rfl
  have hc21 : Tryz.prog.cellsOf 21 = 1 := by kernel_rfl
  obtain ⟨xs, n, _, _, _, hl, hel⟩ := DataW.trod_struct Tryz.underlying27 hf
  match xs, hl with
  | [y0, y1, y2], _ =>
    have h0 := hel 0 _ rfl
    have h1 := hel 1 _ rfl
    have h2 := hel 2 _ rfl
    simp [hc3, hc21] at h0 h1 h2
    obtain ⟨a, ha, _, _⟩ := DataW.trod_int Tryz.underlying3 h0
    obtain ⟨b, hb, _, _⟩ := DataW.trod_int Tryz.underlying3 h1
    obtain ⟨c, hc, _, _⟩ := DataW.trod_int Tryz.underlying21 h2
    simp at ha hb hc
    exact ⟨a, b, c, ha, hb, hc⟩
set_option maxRecDepth 100000 in
/-- A change of a code, opened. -/
theorem open_change (hv : Value.okWide Tryz.prog W .any b0 29 v) (h : DataW.Trod enc Tryz.prog W 0 (fun _ => true) true 29 v d p) :
    ∃ (pt a b y : Int) (s : ByteArray) (ok on ov : Int), v = .agg #[.int .u8 pt, .int .u8 a, .int .u8 b, .int .i64 y, .string s, .int .i64 ok, .int .i64 on, .int .i32 ov] ∧ (0 ≤ pt ∧ pt ≤ 255) ∧ (0 ≤ a ∧ a ≤ 255) ∧ (0 ≤ b ∧ b ≤ 255) := by
  obtain ⟨cs, rfl, hsz⟩ := okWide_struct Tryz.underlying29 hv
  obtain ⟨c0, c1, c2, c3, c4, c5, c6, c7, rfl⟩ := array8' (hsz.trans (by kernel_rfl))
  obtain ⟨fuel, hf⟩ := h
  have hc5 : Tryz.prog.cellsOf 5 = 1 := by kernel_rfl
  have hc25 : Tryz.prog.cellsOf 25 = 2 := by kernel_rfl
  have hc3 : Tryz.prog.cellsOf 3 = 1 := by kernel_rfl
  have hc9 : Tryz.prog.cellsOf 9 = 1 := by kernel_rfl
  have hc27 : Tryz.prog.cellsOf 27 = 3 := by kernel_rfl
  obtain ⟨xs, n, _, _, _, hl, hel⟩ := DataW.trod_struct Tryz.underlying29 hf
  match xs, hl with
  | [y0, y1, y2, y3, y4], _ =>
    have h0 := hel 0 _ rfl
    have h1 := hel 1 _ rfl
    have h2 := hel 2 _ rfl
    have h3 := hel 3 _ rfl
    have h4 := hel 4 _ rfl
    simp [Value.cells, hc5, hc25, hc3, hc9, hc27] at h0 h1 h2 h3 h4
    obtain ⟨pt, e0, _, w0⟩ := DataW.trod_int Tryz.underlying5 h0
    obtain ⟨a, b, e1, e2, w1, w2⟩ := open_two_cells h1
    obtain ⟨y, e3, _, _⟩ := DataW.trod_int Tryz.underlying3 h2
    obtain ⟨s, e4, _, _⟩ := DataW.trod_string Tryz.underlying9 h3
    obtain ⟨ok, on, ov, e5, e6, e7⟩ := open_opd_cells h4
    simp at e0 e3 e4
    subst e0 e1 e2 e3 e4 e5 e6 e7
    exact ⟨pt, a, b, y, s, ok, on, ov, rfl, u8_wf w0, w1, w2⟩
end

end Go.Proofs.YtkncilgmlkeifaaGreatDoor
namespace Go.Proofs.YtkncilgmlkeifaaGreatDoor.codeReaches
open Go.ChangeShapes Go.WideShapes Go.ChangeAt Go.RowKit

set_option maxRecDepth 100000 in
theorem lifted (os : Os) (started : os.Started) (H : Type) (enc : TypeId × Value → H) (F : Stop.Interp) :
    ReturnsInHanded {} Tryz.checked os 6 .any ((OpenSpec.ofChange Rows.codeReachesSpec).preRow enc Tryz.prog Tryz.f6 [] false laid5) (((OpenSpec.ofChange Rows.codeReachesSpec).at F).post enc Tryz.prog Tryz.f6 false true false false) := by
  refine returnsInHanded_of_row (C := Tryz.checked) own started (by kernel_rfl) Tryz.func6
    (witness_row_at (enc := enc) (C := Tryz.checked) false (World.doorLaid Tryz.prog 400 os) #[.agg #[.slice none 0 0], .agg #[.int .u8 0, .int .u8 0, .int .u8 0, .int .i64 0, .string ⟨#[]⟩, .int .i64 0, .int .i64 0, .int .i32 0]] rfl (by kernel_rfl) (by kernel_rfl) (by kernel_rfl) (OpenSpec.preRow_of_B rfl 8 (by kernel_rfl) (by kernel_rfl) (door_met os _))) ?_
  intro W base args ds gs before hval0 hW _ _ _ hL hsh _
  have hval : ∀ (j : Nat) t v, Tryz.f6.params[j]? = some t → args[j]? = some v → Value.okWide Tryz.prog W .any base t v := hval0
  have hW' := hW
  obtain ⟨p, q, hA0, hV, rfl, hfz, hnd⟩ := hW
  have hA : DataW.TrodAll enc Tryz.prog W 0 (fun _ => true) true Tryz.f6.params.toList args.toList ds p := hA0
  rw [Tryz.params6] at hA hval
  obtain ⟨v0, vs0, d0, ds0, p0, q0, hargs, rfl, rfl, h0, r0⟩ := trodAll_cons hA
  obtain ⟨v1, vs1, d1, ds1, p1, q1, rfl, rfl, rfl, h1, r1⟩ := trodAll_cons r0
  obtain ⟨rfl, rfl, rfl⟩ := trodAll_nil r1
  obtain rfl : args = #[v0, v1] := by cases args; simp_all
  obtain ⟨rfl, rfl⟩ := trodVars_none hV
  have hlt0 : ∀ x ∈ p0, x.block < W.heap.size := fun x hx => hW'.lt x (by simp [hx])
  have g0 : ∀ (W' : World), Below W.heap.size W W' → DataW.Trod enc Tryz.prog W' 0 (fun b => decide (b < W.heap.size)) true 24 v0 d0 p0 := fun W' hn => Below.trod laidOut (by kernel_rfl) (of_decide_eq_true (by kernel_rfl)) h0 hn hlt0
  have hlt1 : ∀ x ∈ p1, x.block < W.heap.size := fun x hx => hW'.lt x (by simp [hx])
  have g1 : ∀ (W' : World), Below W.heap.size W W' → DataW.Trod enc Tryz.prog W' 0 (fun b => decide (b < W.heap.size)) true 29 v1 d1 p1 := fun W' hn => Below.trod laidOut (by kernel_rfl) (of_decide_eq_true (by kernel_rfl)) h1 hn hlt1
  obtain ⟨A, nx, cx, f, rfl, hm, hr⟩ := open_raw (hval 0 24 v0 rfl rfl) h0 hlt0
  obtain ⟨pt, a, b, y, nm, ok, on, ov, rfl, wp, wa, wb⟩ := open_change (hval 1 29 v1 rfl rfl) h1
  clear hA0 hval0
  have he : EnvP W := env_of_laid hL
  have hm2 : nx ≤ 9223372036854775807 := by unfold maxLen at hm; omega
  refine (reaches_any A nx cx f pt a b y ok on ov nm W wp wa wb he hr hm2).mono fun e W' ⟨he', hg⟩ => ?_
  subst he'
  exact ⟨_, rfl, _, _, _, [], _, [], hW', (trodAll_cons_mk (shut_bool Tryz.underlying4 _) trodAll_mk0), (trodAll_cons_mk (g0 _ hg) (trodAll_cons_mk (g1 _ hg) trodAll_mk0)), rfl, hg.frame _, fun h => by cases h⟩

theorem row_holds : Rows.CodeReachesSaid :=
  OpenClaim.holds_of_cond 6 Tryz.f6 rfl rfl rfl rfl rfl rfl rfl ⟨rfl, rfl, rfl, rfl, rfl⟩ rfl rfl rfl rfl rfl (by kernel_rfl) Tryz.func6 (by kernel_rfl)
    (of_decide_eq_true (by kernel_rfl)) (by unfold Func.isWrapper; first | (rw [if_pos (by decide +kernel)]; kernel_rfl) | (rw [if_neg (by decide +kernel)]; exact ⟨rfl, rfl⟩))
    (fun os started H enc _ F0 => by rw [OpenClaim.pre_eq_preRow]; exact lifted os started H enc F0)
end Go.Proofs.YtkncilgmlkeifaaGreatDoor.codeReaches
namespace Go.Proofs.YtkncilgmlkeifaaGreatDoor
open Go
/-- The tied card. -/
theorem codeReaches_card_holds : Rows.CodeReachesCardSaid :=
  Claim7.holds_tied_plain_at .later [] [.data, .data, .data, .sentinel, .sentinel] true (true, "3208f3d9b3fc8fa5a2ce130b2a76f99328675c1c0e26b6f9a693437d4338b297") true
    codeReaches.row_holds (fun _ h => by cases h) (by kernel_rfl) (fun _ h => by cases h) codeReaches_row_tie rfl ⟨rfl, rfl⟩ (by kernel_rfl) rfl
    (fun f fn hf hfn => by
      obtain rfl : f = 6 := Option.some.inj ((show Tryz.prog.funcNamed "warpwright/warpwrightlaw05.CodeReaches" = some 6 by kernel_rfl).symm.trans hf) |>.symm
      obtain rfl : fn = Tryz.f6 := (Option.some.inj (Tryz.func6.symm.trans hfn)).symm
      exact ⟨by kernel_rfl, fun j t ht => by
        rw [Tryz.params6] at ht
        have hm : t ∈ [24, 29] := by simpa using Array.mem_of_getElem? ht
        have hall : ([24, 29].all fun u => !Tryz.prog.wantsStandIn u) = true := by kernel_rfl
        exact (show Tryz.prog.wantsStandIn t = false by simpa using List.all_eq_true.1 hall t hm)⟩)
    (by kernel_rfl)
end Go.Proofs.YtkncilgmlkeifaaGreatDoor
