/-
  Package code: the contract of Reach.
-/
import Derived.Test.YtkncilgmlkeifaaGreatDoorGrc
import Derived.Test.YtkncilgmlkeifaaGreatDoorLim
import Derived.Deep.OwnRows
import Derived.Deep.AppendLies
import Derived.Deep.LoopGhost
import Derived.Laws.OwnMore
set_option linter.unusedVariables false
set_option linter.unusedSimpArgs false
namespace Go.Proofs.YtkncilgmlkeifaaGreatDoor
open Go.ChangeShapes Go.WideShapes Go.ChangeAt Go.RowKit Go.Shelf

def setR (R : Nat → Bool) (b : Nat) : Nat → Bool := fun j => if j = b then true else R j
/-- Which blocks are reached: f steps from R with the blocks td still to do. -/
def reachF (n : Nat) (T : Nat → TermV) : Nat → (Nat → Bool) → List Int → Nat → Bool
  | 0, R, _ => R
  | f + 1, R, td => match td.getLast? with
    | none => R
    | some b => if (wthB b 0 ((n : Int) - 1) && !R b.toNat) = true then reachF n T f (setR R b.toNat) (td.dropLast ++ succL (T b.toNat)) else reachF n T f R td.dropLast
def reachV (n : Nat) (T : Nat → TermV) : Nat → Bool := reachF n T (3 * n + 1) (fun _ => false) [0]
theorem reachF_nil (n : Nat) (T : Nat → TermV) (f : Nat) (R : Nat → Bool) : reachF n T f R [] = R := by
  cases f <;> rfl
theorem reachF_no (n : Nat) (T : Nat → TermV) (f : Nat) (R : Nat → Bool) (td : List Int) (b : Int) (h : (wthB b 0 ((n : Int) - 1) && !R b.toNat) = false) : reachF n T (f + 1) R (td ++ [b]) = reachF n T f R td := by
  rw [reachF]
  simp only [List.getLast?_append, List.getLast?_singleton, Option.some_or, h, List.dropLast_concat]
  simp
theorem reachF_yes (n : Nat) (T : Nat → TermV) (f : Nat) (R : Nat → Bool) (td : List Int) (b : Int) (h : (wthB b 0 ((n : Int) - 1) && !R b.toNat) = true) : reachF n T (f + 1) R (td ++ [b]) = reachF n T f (setR R b.toNat) (td ++ succL (T b.toNat)) := by
  rw [reachF]
  simp only [List.getLast?_append, List.getLast?_singleton, Option.some_or, h, List.dropLast_concat]
  simp
def cu (R : Nat → Bool) : Nat → Nat
  | 0 => 0
  | n + 1 => cu R n + if R n = true then 0 else 1
theorem cu_le (R : Nat → Bool) : ∀ n, cu R n ≤ n
  | 0 => Nat.le_refl _
  | n + 1 => by have := cu_le R n; unfold cu; split <;> omega
theorem cu_same (R : Nat → Bool) (b : Nat) : ∀ n, n ≤ b → cu (setR R b) n = cu R n
  | 0, _ => rfl
  | n + 1, h => by
    unfold cu
    rw [cu_same R b n (by omega)]
    have : setR R b n = R n := by unfold setR; rw [if_neg (by omega)]
    rw [this]
theorem cu_set (R : Nat → Bool) (b : Nat) (hb : R b = false) : ∀ n, b < n → cu (setR R b) n + 1 = cu R n
  | n + 1, h => by
    unfold cu
    by_cases e : n = b
    · subst e
      rw [cu_same R n n (Nat.le_refl _)]
      have : setR R n n = true := by unfold setR; rw [if_pos rfl]
      rw [this, hb]
      simp
    · have := cu_set R b hb n (by omega)
      have e2 : setR R b n = R n := by unfold setR; rw [if_neg e]
      rw [e2]
      omega
theorem succL_len (t : TermV) : (succL t).length ≤ 2 := by
  unfold succL
  exact Nat.le_trans (compact_le _) (by simp [List.length_take]; omega)
theorem own_pop {w : World} {base g cap : Nat} {td : List Int} {b : Int} (h : w.ownsRow base 3 1 (.slice (some ⟨g, 0, none⟩) (td.length + 1) cap) (td.length + 1) ((td ++ [b]).map (Value.int .i64))) : w.ownsRow base 3 1 (.slice (some ⟨g, 0, none⟩) td.length cap) td.length (td.map (Value.int .i64)) ∧ td.length + 1 ≤ cap ∧ w.cell? ⟨g, td.length, none⟩ = some (.int .i64 b) := by
  have hc := h.cellAt td.length (by omega)
  refine ⟨⟨by simp, ?_⟩, ?_, ?_⟩
  · rcases h.2 with ⟨hv, _⟩ | ⟨g', cap', cur, hv, hb, hg, hc', hm, hs, ht⟩
    · cases hv
    · injection hv with h1 h2 h3
      injection h1 with h1
      injection h1 with h1
      subst h1 h3
      refine .inr ⟨g, cap, cur, rfl, hb, hg, by omega, hm, hs, ?_⟩
      have := congrArg (List.take (td.length * 1)) ht
      rw [List.take_take, Nat.min_eq_left (by omega)] at this
      rw [this]
      simp
  · rcases h.2 with ⟨hv, _⟩ | ⟨g', cap', cur, hv, hb, hg, hc', hm, hs, ht⟩
    · cases hv
    · injection hv with h1 h2 h3
      subst h3
      exact hc'
  · rw [hc]
    simp
theorem infoB : (Tryz.prog.info? 4).map (fun i => (i.zero, i.size, i.bytes)) = some (some (.bool false), 1, 1) := by kernel_rfl
theorem news11 {w : World} {B : Nat} {l : List Int} (h : ∀ j, j < l.length → w.cell? ⟨B, 11 + j, none⟩ = some (.int .i64 (l.getD j 0))) : ∀ j u, (l.map (Value.int .i64))[j]? = some u → w.cell? ((⟨B, 11, none⟩ : Addr).add j) = some u := by
  intro j u hj
  rw [List.getElem?_map] at hj
  by_cases hl : j < l.length
  · have := h j hl
    rw [List.getD_eq_getElem?_getD, List.getElem?_eq_getElem hl] at this
    rw [List.getElem?_eq_getElem hl] at hj
    have hadd : (⟨B, 11, none⟩ : Addr).add j = ⟨B, 11 + j, none⟩ := by unfold Addr.add; split <;> simp_all
    rw [hadd, this]
    exact hj
  · rw [List.getElem?_eq_none (by omega)] at hj
    cases hj
section
variable (g s r sl p : Int) (n1 c1 n2 c2 n3 c3 : Nat) (A1 A2 A3 : Option Addr) (IA : Nat → Option Addr) (IL IC : Nat → Nat) (T : Nat → TermV)
set_option maxRecDepth 100000 in
set_option maxHeartbeats 4000000 in
theorem Reach_any (w : World) (hr : RBl w w.heap.size A3 n3 IA IL IC T) (hn : n3 ≤ 65536) :
    Calls Tryz.prog 19 #[.agg #[.int .i64 g, .int .i64 s, .int .i64 r, .int .i64 sl, .int .i64 p, .slice A1 n1 c1, .slice A2 n2 c2, .slice A3 n3 c3]] w fun e w' => e = .returned (.slice (some ⟨w.heap.size + 1, 0, none⟩) n3 n3) ∧ w'.rowIs (w.heap.size + 1) 4 n3 (fun j => .bool (reachV n3 T j)) ∧ Below w.heap.size w w' := by
  have hmk := fun W => run_make_row' (P := Tryz.prog) 48 4 (.bool false) 1 Tryz.underlying48 infoB rfl .i64 .i64 n3 (by omega) (by omega) W
  obtain ⟨i0, hi, hz0, hz1, hz2⟩ := info_parts infoI
  have HR := Lib.hid hr
  have HSU := Lib.hid (fun (j : Nat) (W : World) => Succ_any (T j) W)
  obtain ⟨V, hV⟩ : ∃ V, reachV n3 T = V := ⟨_, rfl⟩
  have HV := Lib.hid (show reachF n3 T (3 * n3 + 1) (fun _ => false) [0] = V from hV)
  rw [hV]
  clear hr hV
  go_enter Tryz.func19, Tryz.ntmps19
  go_wp2
  have hb3 : Below w.heap.size w (((w.alloc (.cells #[.int .i64 g, .int .i64 s, .int .i64 r, .int .i64 sl, .int .i64 p, .slice A1 n1 c1, .slice A2 n2 c2, .slice A3 n3 c3] 36)).alloc (.cells (madeCells #[.bool false] n3) 4)).alloc (.cells #[.int .i64 0] 3)) := (((Below.refl _ _).alloc (Nat.le_refl _) _).alloc (by simp) _).alloc (by simp; omega) _
  have hbx : (((w.alloc (.cells #[.int .i64 g, .int .i64 s, .int .i64 r, .int .i64 sl, .int .i64 p, .slice A1 n1 c1, .slice A2 n2 c2, .slice A3 n3 c3] 36)).alloc (.cells (madeCells #[.bool false] n3) 4)).alloc (.cells #[.int .i64 0] 3)).cell? ⟨w.heap.size, 7, none⟩ = some (.slice A3 n3 c3) := by
    have hk : (((w.alloc (.cells #[.int .i64 g, .int .i64 s, .int .i64 r, .int .i64 sl, .int .i64 p, .slice A1 n1 c1, .slice A2 n2 c2, .slice A3 n3 c3] 36)).alloc (.cells (madeCells #[.bool false] n3) 4)).alloc (.cells #[.int .i64 0] 3)).heap[w.heap.size]? = _ := (Below.heap_alloc _ _ _ (by simp; omega)).trans ((Below.heap_alloc _ _ _ (by simp)).trans (heap_alloc_new w _))
    exact cellK hk rfl
  have hrow : (((w.alloc (.cells #[.int .i64 g, .int .i64 s, .int .i64 r, .int .i64 sl, .int .i64 p, .slice A1 n1 c1, .slice A2 n2 c2, .slice A3 n3 c3] 36)).alloc (.cells (madeCells #[.bool false] n3) 4)).alloc (.cells #[.int .i64 0] 3)).rowIs (w.heap.size + 1) 4 n3 (fun j => .bool false) := by
    have := (World.rowIs_made (w.alloc (.cells #[.int .i64 g, .int .i64 s, .int .i64 r, .int .i64 sl, .int .i64 p, .slice A1 n1 c1, .slice A2 n2 c2, .slice A3 n3 c3] 36)) (.bool false) n3 4).alloc (.cells #[.int .i64 0] 3)
    rw [World.size_alloc] at this
    exact this
  have hown : (((w.alloc (.cells #[.int .i64 g, .int .i64 s, .int .i64 r, .int .i64 sl, .int .i64 p, .slice A1 n1 c1, .slice A2 n2 c2, .slice A3 n3 c3] 36)).alloc (.cells (madeCells #[.bool false] n3) 4)).alloc (.cells #[.int .i64 0] 3)).ownsRow (w.heap.size + 2) 3 1 (.slice (some ⟨w.heap.size + 1 + 1, 0, none⟩) 1 1) 1 [.int .i64 0] := by
    have := World.ownsRow_lit (base := w.heap.size + 2) (e := 3) (size := 1) ((w.alloc (.cells #[.int .i64 g, .int .i64 s, .int .i64 r, .int .i64 sl, .int .i64 p, .slice A1 n1 c1, .slice A2 n2 c2, .slice A3 n3 c3] 36)).alloc (.cells (madeCells #[.bool false] n3) 4)) #[.int .i64 0] 1 (by simp) (by unfold maxLen; omega) rfl
    rw [World.size_alloc, World.size_alloc] at this
    exact this
  have hs3 : w.heap.size + 3 ≤ (((w.alloc (.cells #[.int .i64 g, .int .i64 s, .int .i64 r, .int .i64 sl, .int .i64 p, .slice A1 n1 c1, .slice A2 n2 c2, .slice A3 n3 c3] 36)).alloc (.cells (madeCells #[.bool false] n3) 4)).alloc (.cells #[.int .i64 0] 3)).heap.size := by simp
  generalize (((w.alloc (.cells #[.int .i64 g, .int .i64 s, .int .i64 r, .int .i64 sl, .int .i64 p, .slice A1 n1 c1, .slice A2 n2 c2, .slice A3 n3 c3] 36)).alloc (.cells (madeCells #[.bool false] n3) 4)).alloc (.cells #[.int .i64 0] 3)) = W3 at *
  have H1 := Lib.hid hb3; have H2 := Lib.hid hbx; have H3 := Lib.hid hrow; have H4 := Lib.hid hown; have H5 := Lib.hid hs3
  clear hb3 hbx hrow hown hs3 hmk
  have w3 : IntKind.i64.wrap ((n3 : Int) - 1) = (n3 : Int) - 1 := IntWalk.i64_in _ (by omega)
  go_loopg [4, 5, 6] (3 * n3 + 1) (fun f z4 z5 z6 wr => ∃ (R : Nat → Bool) (td : List Int) (v : Value), v = z4 ∧ td.length + 3 * cu R n3 ≤ f ∧ f ≤ 3 * n3 + 1 ∧ Hid (reachF n3 T f R td = V) ∧ Hid (wr.rowIs (w.heap.size + 1) 4 n3 (fun j => .bool (R j))) ∧ Hid (wr.ownsRow (w.heap.size + 2) 3 1 v td.length (td.map (Value.int .i64))) ∧ Hid (wr.cell? ⟨w.heap.size, 7, none⟩ = some (.slice A3 n3 c3)) ∧ Hid (Below w.heap.size w wr) ∧ w.heap.size + 3 ≤ wr.heap.size)
  case atStart =>
    refine ⟨fun _ => false, [0], _, rfl, ?_, Nat.le_refl _, HV, H3, H4, H2, H1, H5.out⟩
    have := cu_le (fun _ => false) n3
    simp; omega
  case round =>
    obtain ⟨R, td, v, rfl, hf, hf2, HF, HRo, HO, HB7, HB, hsz⟩ := hrel
    rcases List.eq_nil_or_concat td with rfl | ⟨rest, b, rfl⟩
    · have hv0 : ∃ A c, v = .slice A 0 c := by
        rcases HO.out.2 with ⟨hv, _⟩ | ⟨gB, cap, cur, hv, _⟩
        · exact ⟨_, _, hv⟩
        · exact ⟨_, _, hv⟩
      obtain ⟨A, c, rfl⟩ := hv0
      have HE := HF.out
      rw [reachF_nil] at HE
      have HRR : Hid (wr.rowIs (w.heap.size + 1) 4 n3 (fun j => .bool (V j))) := Lib.hid (by rw [← HE]; exact HRo.out)
      clear HE
      go_wp2
      go_ret
      exact ⟨rfl, HRR.out, HB.out⟩
    · rw [List.concat_eq_append] at *
      cases gk with
      | zero => simp at hf
      | succ gk =>
        obtain ⟨gT, cap, rfl, hgT, hgl⟩ := HO.out.form (by simp)
        have hO := HO.out
        rw [List.length_append] at hO hf
        simp only [List.length_cons, List.length_nil, Nat.zero_add] at hO hf
        obtain ⟨hO2, hcap, hcb⟩ := own_pop hO
        have HO2 := Lib.hid hO2
        clear hO hO2 HO
        obtain ⟨m, hm⟩ : ∃ m, rest.length = m := ⟨_, rfl⟩
        have hl : (rest ++ [b]).length = m + 1 := by simp [hm]
        rw [hm] at HO2 hcap hcb hf
        rw [hl]
        have wm : IntKind.i64.wrap (m : Int) = m := IntWalk.i64_in _ (by omega)
        have hm0 : 0 ≤ (m : Int) := by omega
        have hm1 : (m : Int) < (m : Int) + 1 := by omega
        have hm2 : (m : Int) ≤ (cap : Int) := by omega
        have hb7 := HB7.out
        have HM := Lib.hid hm
        clear hm hl
        cases hw : wthB b 0 ((n3 : Int) - 1)
        · have HW := Lib.hid (fun (W : World) => within_any b 0 ((n3 : Int) - 1) W)
          rw [hw] at HW
          have HF2 : Hid (reachF n3 T gk R rest = V) := Lib.hid (by rw [← reachF_no n3 T gk R rest b (by rw [hw]; rfl)]; exact HF.out)
          clear hw
          go_wp2_with (go_at_call 56; (with_reducible refine (HW.out _).mono ?_); rintro e w1 ⟨rfl, rfl⟩)
          go_roundg gk
          case measure => omega
          case rel => exact ⟨R, rest, _, rfl, by rw [HM.out]; omega, by omega, HF2, HRo, Lib.hid (by rw [HM.out]; exact HO2.out), HB7, HB, hsz⟩
        · obtain ⟨bn, rfl, hbn⟩ : ∃ bn : Nat, b = bn ∧ bn < n3 := by
            unfold wthB at hw
            simp only [Bool.and_eq_true, decide_eq_true_eq] at hw
            exact ⟨b.toNat, by omega, by omega⟩
          have HW := Lib.hid (fun (W : World) => within_any (bn : Int) 0 ((n3 : Int) - 1) W)
          rw [hw] at HW
          have hi0 : 0 ≤ (bn : Int) := by omega
          have hi1 : (bn : Int) < (n3 : Int) := by omega
          have hcr := HRo.out.cell hbn
          have hfr := HRo.out.frozen bn
          have HI := Lib.hid hbn
          cases hR : R bn
          · have HF2 : Hid (reachF n3 T gk (setR R bn) (rest ++ succL (T bn)) = V) := Lib.hid (by
              have := reachF_yes n3 T gk R rest (bn : Int) (by rw [hw]; simp [hR])
              rw [Int.toNat_natCast] at this
              rw [← this]; exact HF.out)
            have HCU := Lib.hid (cu_set R bn hR n3 hbn)
            rw [hR] at hcr
            clear hw hbn hR
            have hW4 : Below w.heap.size w (wr.setCell ⟨w.heap.size + 1, bn, none⟩ (.bool true)) := HB.out.setCell (by simp) _
            obtain ⟨b0, off, rfl, hb0, hcells⟩ := (HR.out.below hW4) (by have := HI.out; omega)
            obtain ⟨m0, m1, m2, m3, m4, m5, m6, m7, m8, m9, m10, m11, m12, m13⟩ := hcells bn HI.out
            have h74 : (wr.setCell ⟨w.heap.size + 1, bn, none⟩ (.bool true)).cell? ⟨w.heap.size, 7, none⟩ = some (.slice (some ⟨b0, off, none⟩) n3 c3) := by
              rw [← hb7]
              exact World.cell?_of_block (a := ⟨w.heap.size, 7, none⟩) (Below.heap_setCell wr ⟨w.heap.size + 1, bn, none⟩ _ _ (by simp))
            have HS4 := Lib.hid (HSU.out bn (wr.setCell ⟨w.heap.size + 1, bn, none⟩ (.bool true)))
            have hz4 : (wr.setCell ⟨w.heap.size + 1, bn, none⟩ (.bool true)).heap.size = wr.heap.size := by simp [World.setCell]
            rw [hz4] at HS4
            have HSL := Lib.hid (succL_len (T bn))
            obtain ⟨sq, hsq⟩ : ∃ sq, succL (T bn) = sq := ⟨_, rfl⟩
            rw [hsq] at HS4 HSL HF2
            have HO4 : Hid ((wr.setCell ⟨w.heap.size + 1, bn, none⟩ (.bool true)).ownsRow (w.heap.size + 2) 3 1 (.slice (some ⟨gT, 0, none⟩) m cap) m (rest.map (Value.int .i64))) := Lib.hid (HO2.out.kept (row := some (w.heap.size + 1)) ⟨rfl, rfl, rfl, by simp [World.setCell], fun k hk hne => Below.heap_setCell wr ⟨w.heap.size + 1, bn, none⟩ _ k (fun e => hne (by rw [e]))⟩ (.inr (by simp [Value.ownBlock]; omega)))
            have HR4 : Hid ((wr.setCell ⟨w.heap.size + 1, bn, none⟩ (.bool true)).rowIs (w.heap.size + 1) 4 n3 (fun j => .bool (setR R bn j))) := Lib.hid ((HRo.out.set bn (.bool true)).congr (fun j hj => by unfold setR; split <;> rfl))
            have H74 := Lib.hid h74
            have HW4 := Lib.hid hW4
            clear hsq hcells hb0 hW4
            simp only [TermV.val] at HS4
            go_wp2_with (first
              | (go_at_call 56; (with_reducible refine (HW.out _).mono ?_); rintro e w1 ⟨rfl, rfl⟩)
              | (go_at_call 22; (with_reducible refine HS4.out.mono ?_); rintro e w5 ⟨rfl, hnw, hz5, hb5⟩; have HN5 := Lib.hid hnw; have HB5 := Lib.hid hb5; have HO5 := Lib.hid (HO4.out.kept (row := none) (w' := w5) ⟨hb5.os, hb5.tape, hb5.output, by have := hb5.size; simpa [World.setCell] using this, fun k hk _ => hb5.block k (by simpa [World.setCell] using hk)⟩ (by simp [Value.ownBlock])); clear hnw hb5)
              | (at_builtin; refine wpList_append_own _ rfl _ _ 57 rfl (w.heap.size + 2) 3 i0 (.int .i64 0) 1 8 Tryz.underlying57 hi hz0 hz1 hz2 rfl (by decide) _ _ _ rfl HO5.out ⟨wr.heap.size, 11, none⟩ sq.length 2 (sq.map (Value.int .i64)) rfl (by simp) (news11 HN5.out) (by simp [Value.oneCell']) (by have := HSL.out; unfold maxLen; omega) (by have := HSL.out; omega) (by omega) ?_; intro v' w6 hown' hgrow _; have HO6 := Lib.hid hown'; have HG6 : Hid (w5.grownBy w6 (some gT)) := Lib.hid hgrow; clear hown' hgrow))
            have hb5 := HB5.out
            have hsz4 : (wr.setCell ⟨w.heap.size + 1, bn, none⟩ (.bool true)).heap.size = wr.heap.size := by simp [World.setCell]
            have hk5 : ∀ k, k < wr.heap.size → w5.heap[k]? = (wr.setCell ⟨w.heap.size + 1, bn, none⟩ (.bool true)).heap[k]? := fun k hk => hb5.block k hk
            have h5s := hb5.size
            rw [hsz4] at h5s
            have hk6 : ∀ k, k < w.heap.size + 2 → w6.heap[k]? = (wr.setCell ⟨w.heap.size + 1, bn, none⟩ (.bool true)).heap[k]? := fun k hk => (HG6.out.block k (by omega) (by simp; omega)).trans (hk5 k (by omega))
            have hz6 := HG6.out.size
            have hb6 : Below w.heap.size w w6 := grown_below (HW4.out.trans (hb5.mono (by omega))) HO5.out HG6.out (by omega) (by omega)
            go_roundg gk
            case measure => omega
            case rel =>
              refine ⟨setR R bn, rest ++ sq, _, rfl, ?_, by omega, HF2, Lib.hid (HR4.out.of_block (hk6 _ (by omega))), Lib.hid ?_, Lib.hid ((World.cell?_of_block (a := ⟨w.heap.size, 7, none⟩) (hk6 _ (by show w.heap.size < _; omega))).trans H74.out), Lib.hid hb6, by omega⟩
              · have := HCU.out
                have := HSL.out
                rw [List.length_append, HM.out]
                omega
              · rw [List.length_append, HM.out, List.map_append]
                exact HO6.out
          · have HF2 : Hid (reachF n3 T gk R rest = V) := Lib.hid (by rw [← reachF_no n3 T gk R rest (bn : Int) (by rw [hw]; simp [hR])]; exact HF.out)
            rw [hR] at hcr
            clear hw hbn hR
            go_wp2_with (go_at_call 56; (with_reducible refine (HW.out _).mono ?_); rintro e w1 ⟨rfl, rfl⟩)
            go_roundg gk
            case measure => omega
            case rel => exact ⟨R, rest, _, rfl, by rw [HM.out]; omega, by omega, HF2, HRo, Lib.hid (by rw [HM.out]; exact HO2.out), HB7, HB, hsz⟩
end
end Go.Proofs.YtkncilgmlkeifaaGreatDoor
