/-
  Contracts of scalar.Text (fixText and strconv.Itoa behind it): the text of a value of each type, as a plain function on lists of bytes (textV).
-/
import Derived.Test.YtikkmcgbmiddaaaDoorMem
import Derived.Lib.AppendIntMem
import Derived.Lib.ItoaLen
import Derived.Lib.Slices
import Derived.Lib.Hide
import Derived.Laws.IdiomStrings
import Derived.OwnWalk
import Derived.WalkKit
import Derived.BigCall
import Derived.ProofKit
import Derived.OpenShut
namespace Go.Proofs.YtikkmcgbmiddaaaDoor
open Go.ChangeShapes Go.WideShapes Go.ChangeAt Go.RowKit

theorem infoByte : (Tryd.prog.info? 5).map (fun i => (i.zero, i.size, i.bytes)) = some (some (.int .u8 0), 1, 1) := by kernel_rfl
theorem i64_and65535 (n : Int) : bits .and .i64 n 65535 = n % 65536 := by
  have h127 : (BitVec.ofInt 64 65535).toNat = 2 ^ 16 - 1 := by decide
  have key : (BitVec.ofInt 64 n &&& BitVec.ofInt 64 65535).toNat = (n % ((2 ^ 64 : Nat) : Int)).toNat % 2 ^ 16 := by
    rw [BitVec.toNat_and, BitVec.toNat_ofInt, h127, Nat.and_two_pow_sub_one_eq_mod]
  show IntKind.i64.wrap ((BitVec.ofInt 64 n &&& BitVec.ofInt 64 65535).toNat : Nat) = n % 65536
  rw [key, IntKind.wrap_i64]
  omega
/-- The byte of a digit. -/
def dgt (n : Nat) : UInt8 := UInt8.ofNat (48 + n)
theorem dgt_toNat (n : Nat) (h : n < 10) : (dgt n).toNat = 48 + n := by
  unfold dgt; rw [UInt8.toNat_ofNat']; omega
/-- The digits of a fraction r / 65536: as many as it has, at least one, at most so many. -/
def fracL : Nat → Nat → List UInt8
  | 0, _ => []
  | f + 1, r => dgt (r * 10 / 65536) :: (if r * 10 % 65536 = 0 then [] else fracL f (r * 10 % 65536))
/-- The text of a fixed-point number. -/
def fixT (v : Int) : List UInt8 := (if v < 0 then [45] else []) ++ Lib.itoa ((v.natAbs : Int) / 65536) ++ [46] ++ fracL 16 (v.natAbs % 65536)
theorem fracL_len (f r : Nat) : (fracL f r).length ≤ f := by
  induction f generalizing r with
  | zero => simp [fracL]
  | succ f ih => unfold fracL; split <;> simp; exact ih _

theorem one_new (w : World) (x : Value) (T : TypeId) : ∀ j u, [x][j]? = some u → (w.alloc (.cells #[x] T)).cell? ((⟨w.heap.size, 0, none⟩ : Addr).add j) = some u := by
  intro j u hj; match j, hj with | 0, hj => simp at hj; subst hj; simp [Addr.add]

theorem cells_snoc (l : List UInt8) (r : Nat) (hr : r < 65536) : Lib.byteCells (l ++ [dgt (r * 10 / 65536)]) = Lib.byteCells l ++ [Value.int .u8 (48 + (r : Int) * 10 / 65536)] := by
  have h := dgt_toNat (r * 10 / 65536) (by omega)
  simp only [Lib.byteCells, List.map_append, List.map_cons, List.map_nil, h]
  congr 3
theorem fracL_step (k r : Nat) (hk : k < 16) : fracL (16 - k) r = dgt (r * 10 / 65536) :: (if r * 10 % 65536 = 0 then [] else fracL (16 - (k + 1)) (r * 10 % 65536)) := by
  obtain ⟨f, hf⟩ : ∃ f, 16 - k = f + 1 := ⟨16 - k - 1, by omega⟩
  rw [hf, show 16 - (k + 1) = f by omega, fracL]
theorem ret_str {a b : List UInt8} (h : a = b) : Ending.returned (.string ⟨a.toArray⟩) = .returned (.string ⟨b.toArray⟩) := by rw [h]


set_option maxHeartbeats 1600000 in
set_option maxRecDepth 100000 in
theorem fixText_pos (v : Int) (w : World) (hv : I32 v) (h0 : 0 ≤ v) (htab : Lib.TabIs Tryd.prog w "internal/strconv.uint64pow10" .u64 Lib.pow10Tab) :
    Calls Tryd.prog 49 #[.int .i32 v] w fun e w' => e = .returned (.string ⟨(fixT v).toArray⟩) ∧ Below w.heap.size w w' := by
  obtain ⟨i0, hi, hz0, hz1, hz2⟩ := info_parts infoByte
  have HTb := Lib.hid (Lib.tabBelow_of_tabIs htab)
  clear htab
  obtain ⟨hv1, hv2⟩ := hv
  obtain ⟨r0, hr0⟩ : ∃ r : Nat, r = v.natAbs % 65536 := ⟨_, rfl⟩
  have hr0lt : r0 < 65536 := by omega
  have HRR := Lib.hid hr0
  have HR0 := Lib.hid (show (v) % 65536 = (r0 : Int) by omega)
  have ha1 : -9223372036854775808 ≤ (v) / 65536 := by omega
  have ha2 : (v) / 65536 ≤ 9223372036854775807 := by omega
  have la := Lib.itoa_length_le ((v) / 65536) ha1 ha2
  obtain ⟨pre, hpre⟩ : ∃ pre : List UInt8, pre = [] ++ Lib.itoa ((v) / 65536) ++ [46] := ⟨_, rfl⟩
  have hpl : pre.length ≤ 30 := by rw [hpre]; simp; omega
  have HP := Lib.hid hpre
  have HF := Lib.hid (show fixT v = pre ++ fracL 16 r0 by
    unfold fixT; rw [hpre, hr0, show (v.natAbs : Int) = v by omega]; simp [show ¬ v < 0 by omega])
  have HM := Lib.hid i64_and65535
  clear hpre hr0
  go_enter Tryd.func49, Tryd.ntmps49
  go_wp2_with (go_at_call 58; refine (Tryd.strconv_AppendInt_10 w.heap.size 0 (v / 65536) ha1 ha2 (.slice none 0 0) [] w (World.ownsRow_nil _ _ _ _) (Nat.le_refl _) (by omega) HTb.out).mono ?_; rintro e w1 ⟨v1, rfl, hown1, hnx1, -⟩; refine Hid.out ?_)
  refine Lib.hid ?_
  have hs0 : w.heap.size ≤ w.heap.size := Nat.le_refl _
  have hs1 := hnx1.size
  have HB1 := Lib.hid hnx1
  have HO1 := Lib.hid hown1
  clear hown1 hnx1
  go_wp2_with (at_builtin; refine wpList_append_own _ rfl _ _ 79 rfl w.heap.size 5 i0 (.int .u8 0) 1 1 Tryd.underlying79 hi hz0 hz1 hz2 rfl (by decide) v1 (0 + (Lib.itoa ((v) / 65536)).length) ([] ++ Lib.byteCells (Lib.itoa ((v) / 65536))) rfl (HO1.out.alloc _) ⟨w1.heap.size, 0, none⟩ 1 1 [Value.int .u8 46] rfl rfl (one_new _ _ _) (by intro u' hu'; simp at hu'; subst hu'; rfl) (by unfold maxLen; omega) (by omega) (by simp; omega) ?_)
  intro v2 w2 hown2 hgrow2 _
  have hnx2 : Below w.heap.size w w2 := (HB1.out.alloc (by omega) _).grown hgrow2 (by simp; omega) (fun k hk => (HO1.out.lt k hk).1)
  have HB2 := Lib.hid hnx2
  have HO2 := Lib.hid (show w2.ownsRow w.heap.size 5 1 v2 pre.length (Lib.byteCells pre) by
    have e1 : pre.length = (Lib.itoa ((v) / 65536)).length + 1 := by rw [HP.out]; simp; try omega
    have e2 : Lib.byteCells pre = Lib.byteCells (Lib.itoa ((v) / 65536)) ++ [Value.int .u8 46] := by rw [HP.out]; simp [Lib.byteCells]
    rw [e1, e2]; simpa using hown2)
  clear hown2 hgrow2 hnx2
  have hmask := HM.out (v)
  rw [HR0.out] at hmask
  go_wp2
  clear hmask
  go_loopw [4, 5, 24] (fun tv rv iv wr => ∃ k r : Nat, ∃ ds : List UInt8, k ≤ 16 ∧ r < 65536 ∧ iv = .int .i64 k ∧ rv = .int .i64 r ∧ ds.length = k ∧ fracL 16 r0 = ds ++ fracL (16 - k) r ∧ wr.ownsRow w.heap.size 5 1 tv (pre ++ ds).length (Lib.byteCells (pre ++ ds)) ∧ Below w.heap.size w wr) (fun _ _ i _ => 16 - (intOf i).toNat)
  case atStart => exact ⟨0, r0, [], by omega, hr0lt, rfl, rfl, rfl, rfl, by rw [List.append_nil]; exact HO2.out, HB2.out⟩
  case round =>
    obtain ⟨k, r, ds, hk, hr, rfl, rfl, hdl, hfr, hown, hb⟩ := hrel
    have hsz := hb.size
    have HL := Lib.hid hdl
    obtain ⟨l, hl⟩ : ∃ l, l = pre ++ ds := ⟨_, rfl⟩
    rw [← hl] at hown
    have hll : l.length ≤ 60 := by rw [hl]; simp; omega
    have HLL := Lib.hid hl
    have HO := Lib.hid hown
    have HB := Lib.hid hb
    have HFR := Lib.hid hfr
    clear hdl hl hown hb hfr
    by_cases hlt : k < 16
    · have hmask2 := HM.out ((r : Int) * 10)
      have HST := Lib.hid (fracL_step k r hlt)
      by_cases hz : r * 10 % 65536 = 0
      · have hz' : ((r : Int) * 10 % 65536 == 0) = true := by simp; omega
        have HZ := Lib.hid hz
        clear hz
        go_wp2_with (at_builtin; refine wpList_append_own _ rfl _ _ 79 rfl w.heap.size 5 i0 (.int .u8 0) 1 1 Tryd.underlying79 hi hz0 hz1 hz2 rfl (by decide) _ l.length (Lib.byteCells l) rfl (HO.out.alloc _) ⟨_, 0, none⟩ 1 1 [_] rfl rfl (one_new _ _ _) (by intro u' hu'; simp at hu'; subst hu'; rfl) (by unfold maxLen; omega) (by omega) (by simp; omega) ?_)
        intro v3 w3 hown3 hgrow3 _
        have HB3 := Lib.hid (show Below w.heap.size w w3 from (HB.out.alloc hsz _).grown hgrow3 (by simp; omega) (fun k hk => (HO.out.lt k hk).1))
        obtain ⟨l3, hl3⟩ : ∃ l3, l3 = l ++ [dgt (r * 10 / 65536)] := ⟨_, rfl⟩
        have hO3 : w3.ownsRow w.heap.size 5 1 v3 l3.length (Lib.byteCells l3) := by
          rw [hl3, cells_snoc l r hr]; simpa using hown3
        have HF3 := Lib.hid (show fixT v = l3 by
          rw [HF.out, HFR.out, HST.out, if_pos HZ.out, hl3, HLL.out]; simp)
        have hp3 : 0 < l3.length := by rw [hl3]; simp
        clear hl3 hown3 hgrow3
        rcases hO3.2 with ⟨-, h0⟩ | ⟨g, cap, cur, rfl, -, -, -, -, -, -⟩
        · omega
        · have hcv := run_convert_bytes_back (P := Tryd.prog) w3 79 9 5 ⟨g, 0, none⟩ cap l3 Tryd.underlying79 Tryd.underlying5 Tryd.underlying9 (fun j hj => hO3.cells (g := g) rfl j _ (by simp [Lib.byteCells, hj]))
          have HO3 := Lib.hid hO3
          clear hO3
          go_wp2
          go_ret
          exact ⟨ret_str HF3.out.symm, HB3.out⟩
      · have hz' : ((r : Int) * 10 % 65536 == 0) = false := by simp; omega
        have HZ := Lib.hid hz
        clear hz
        go_wp2_with (at_builtin; refine wpList_append_own _ rfl _ _ 79 rfl w.heap.size 5 i0 (.int .u8 0) 1 1 Tryd.underlying79 hi hz0 hz1 hz2 rfl (by decide) _ l.length (Lib.byteCells l) rfl (HO.out.alloc _) ⟨_, 0, none⟩ 1 1 [_] rfl rfl (one_new _ _ _) (by intro u' hu'; simp at hu'; subst hu'; rfl) (by unfold maxLen; omega) (by omega) (by simp; omega) ?_)
        intro v3 w3 hown3 hgrow3 _
        have HB3 := Lib.hid (show Below w.heap.size w w3 from (HB.out.alloc hsz _).grown hgrow3 (by simp; omega) (fun k hk => (HO.out.lt k hk).1))
        have HO3 := Lib.hid (show w3.ownsRow w.heap.size 5 1 v3 (pre ++ (ds ++ [dgt (r * 10 / 65536)])).length (Lib.byteCells (pre ++ (ds ++ [dgt (r * 10 / 65536)]))) by
          rw [← List.append_assoc, ← HLL.out, cells_snoc l r hr]; simpa using hown3)
        have HF3 := Lib.hid (show fracL 16 r0 = (ds ++ [dgt (r * 10 / 65536)]) ++ fracL (16 - (k + 1)) (r * 10 % 65536) by
          rw [HFR.out, HST.out, if_neg HZ.out]; simp)
        clear hown3 hgrow3
        go_wp2
        go_roundw
        case rel => exact ⟨k + 1, r * 10 % 65536, ds ++ [dgt (r * 10 / 65536)], by omega, by omega, by go_num, by go_num, by simp [HL.out], HF3.out, HO3.out, HB3.out⟩
        case measure => simp [intOf]; omega
    · obtain rfl : k = 16 := by omega
      have HF3 := Lib.hid (show fixT v = l by rw [HF.out, HFR.out, HLL.out]; simp [fracL])
      have hp3 : 0 < l.length := by rw [HLL.out]; simp [HL.out]
      have hO3 := HO.out
      rcases hO3.2 with ⟨-, h0⟩ | ⟨g, cap, cur, rfl, -, -, -, -, -, -⟩
      · omega
      · have hcv := fun w3 h => run_convert_bytes_back (P := Tryd.prog) w3 79 9 5 ⟨g, 0, none⟩ cap l Tryd.underlying79 Tryd.underlying5 Tryd.underlying9 h
        have hcv := hcv _ (fun j hj => hO3.cells (g := g) rfl j _ (by simp [Lib.byteCells, hj]))
        have HO3 := Lib.hid hO3
        clear hO3
        go_wp2
        go_ret
        exact ⟨ret_str HF3.out.symm, HB.out⟩

set_option maxHeartbeats 1600000 in
set_option maxRecDepth 100000 in
theorem fixText_neg (v : Int) (w : World) (hv : I32 v) (h0 : v < 0) (htab : Lib.TabIs Tryd.prog w "internal/strconv.uint64pow10" .u64 Lib.pow10Tab) :
    Calls Tryd.prog 49 #[.int .i32 v] w fun e w' => e = .returned (.string ⟨(fixT v).toArray⟩) ∧ Below w.heap.size w w' := by
  obtain ⟨i0, hi, hz0, hz1, hz2⟩ := info_parts infoByte
  have HTb := Lib.hid (Lib.tabBelow_of_tabIs htab)
  clear htab
  obtain ⟨hv1, hv2⟩ := hv
  obtain ⟨r0, hr0⟩ : ∃ r : Nat, r = v.natAbs % 65536 := ⟨_, rfl⟩
  have hr0lt : r0 < 65536 := by omega
  have HRR := Lib.hid hr0
  have HR0 := Lib.hid (show (-v) % 65536 = (r0 : Int) by omega)
  have ha1 : -9223372036854775808 ≤ (-v) / 65536 := by omega
  have ha2 : (-v) / 65536 ≤ 9223372036854775807 := by omega
  have la := Lib.itoa_length_le ((-v) / 65536) ha1 ha2
  obtain ⟨pre, hpre⟩ : ∃ pre : List UInt8, pre = [45] ++ Lib.itoa ((-v) / 65536) ++ [46] := ⟨_, rfl⟩
  have hpl : pre.length ≤ 30 := by rw [hpre]; simp; omega
  have HP := Lib.hid hpre
  have HF := Lib.hid (show fixT v = pre ++ fracL 16 r0 by
    unfold fixT; rw [hpre, hr0, show (v.natAbs : Int) = -v by omega]; simp [show v < 0 by omega])
  have HM := Lib.hid i64_and65535
  clear hpre hr0
  go_enter Tryd.func49, Tryd.ntmps49
  go_wp2_with (at_builtin; refine wpList_append_own _ rfl _ _ 79 rfl w.heap.size 5 i0 (.int .u8 0) 1 1 Tryd.underlying79 hi hz0 hz1 hz2 rfl (by decide) (.slice none 0 0) 0 [] rfl (World.ownsRow_nil _ _ _ _) ⟨w.heap.size, 0, none⟩ 1 1 [Value.int .u8 45] rfl rfl (one_new _ _ _) (by intro u' hu'; simp at hu'; subst hu'; rfl) (by unfold maxLen; omega) (by omega) (by simp) ?_)
  intro v0 w0 hown0 hgrow0 _
  have hnx0 : Below w.heap.size w w0 := ((Below.refl _ _).alloc (Nat.le_refl _) _).grown hgrow0 (by simp) (fun k hk => by simp [Value.ownBlock] at hk)
  have hs0 := hnx0.size
  have HT0 := Lib.hid (HTb.out.on hnx0)
  have HO0 := Lib.hid hown0
  have HB0 := Lib.hid hnx0
  clear hown0 hgrow0 hnx0
  go_wp2_with (go_at_call 58; refine (Tryd.strconv_AppendInt_10 w.heap.size 1 ((-v) / 65536) ha1 ha2 v0 [Value.int .u8 45] w0 HO0.out hs0 (by omega) HT0.out).mono ?_; rintro e w1 ⟨v1, rfl, hown1, hnx1, -⟩; refine Hid.out ?_)
  refine Lib.hid ?_
  have hs1 := hnx1.size
  have HB1 := Lib.hid (HB0.out.trans hnx1)
  have HO1 := Lib.hid hown1
  clear hown1 hnx1
  go_wp2_with (at_builtin; refine wpList_append_own _ rfl _ _ 79 rfl w.heap.size 5 i0 (.int .u8 0) 1 1 Tryd.underlying79 hi hz0 hz1 hz2 rfl (by decide) v1 (1 + (Lib.itoa ((-v) / 65536)).length) ([Value.int .u8 45] ++ Lib.byteCells (Lib.itoa ((-v) / 65536))) rfl (HO1.out.alloc _) ⟨w1.heap.size, 0, none⟩ 1 1 [Value.int .u8 46] rfl rfl (one_new _ _ _) (by intro u' hu'; simp at hu'; subst hu'; rfl) (by unfold maxLen; omega) (by omega) (by simp; omega) ?_)
  intro v2 w2 hown2 hgrow2 _
  have hnx2 : Below w.heap.size w w2 := (HB1.out.alloc (by omega) _).grown hgrow2 (by simp; omega) (fun k hk => (HO1.out.lt k hk).1)
  have HB2 := Lib.hid hnx2
  have HO2 := Lib.hid (show w2.ownsRow w.heap.size 5 1 v2 pre.length (Lib.byteCells pre) by
    have e1 : pre.length = 1 + (Lib.itoa ((-v) / 65536)).length + 1 := by rw [HP.out]; simp; try omega
    have e2 : Lib.byteCells pre = [Value.int .u8 45] ++ Lib.byteCells (Lib.itoa ((-v) / 65536)) ++ [Value.int .u8 46] := by rw [HP.out]; simp [Lib.byteCells]
    rw [e1, e2]; exact hown2)
  clear hown2 hgrow2 hnx2
  have hmask := HM.out (-v)
  rw [HR0.out] at hmask
  go_wp2
  clear hmask
  go_loopw [4, 5, 24] (fun tv rv iv wr => ∃ k r : Nat, ∃ ds : List UInt8, k ≤ 16 ∧ r < 65536 ∧ iv = .int .i64 k ∧ rv = .int .i64 r ∧ ds.length = k ∧ fracL 16 r0 = ds ++ fracL (16 - k) r ∧ wr.ownsRow w.heap.size 5 1 tv (pre ++ ds).length (Lib.byteCells (pre ++ ds)) ∧ Below w.heap.size w wr) (fun _ _ i _ => 16 - (intOf i).toNat)
  case atStart => exact ⟨0, r0, [], by omega, hr0lt, rfl, rfl, rfl, rfl, by rw [List.append_nil]; exact HO2.out, HB2.out⟩
  case round =>
    obtain ⟨k, r, ds, hk, hr, rfl, rfl, hdl, hfr, hown, hb⟩ := hrel
    have hsz := hb.size
    have HL := Lib.hid hdl
    obtain ⟨l, hl⟩ : ∃ l, l = pre ++ ds := ⟨_, rfl⟩
    rw [← hl] at hown
    have hll : l.length ≤ 60 := by rw [hl]; simp; omega
    have HLL := Lib.hid hl
    have HO := Lib.hid hown
    have HB := Lib.hid hb
    have HFR := Lib.hid hfr
    clear hdl hl hown hb hfr
    by_cases hlt : k < 16
    · have hmask2 := HM.out ((r : Int) * 10)
      have HST := Lib.hid (fracL_step k r hlt)
      by_cases hz : r * 10 % 65536 = 0
      · have hz' : ((r : Int) * 10 % 65536 == 0) = true := by simp; omega
        have HZ := Lib.hid hz
        clear hz
        go_wp2_with (at_builtin; refine wpList_append_own _ rfl _ _ 79 rfl w.heap.size 5 i0 (.int .u8 0) 1 1 Tryd.underlying79 hi hz0 hz1 hz2 rfl (by decide) _ l.length (Lib.byteCells l) rfl (HO.out.alloc _) ⟨_, 0, none⟩ 1 1 [_] rfl rfl (one_new _ _ _) (by intro u' hu'; simp at hu'; subst hu'; rfl) (by unfold maxLen; omega) (by omega) (by simp; omega) ?_)
        intro v3 w3 hown3 hgrow3 _
        have HB3 := Lib.hid (show Below w.heap.size w w3 from (HB.out.alloc hsz _).grown hgrow3 (by simp; omega) (fun k hk => (HO.out.lt k hk).1))
        obtain ⟨l3, hl3⟩ : ∃ l3, l3 = l ++ [dgt (r * 10 / 65536)] := ⟨_, rfl⟩
        have hO3 : w3.ownsRow w.heap.size 5 1 v3 l3.length (Lib.byteCells l3) := by
          rw [hl3, cells_snoc l r hr]; simpa using hown3
        have HF3 := Lib.hid (show fixT v = l3 by
          rw [HF.out, HFR.out, HST.out, if_pos HZ.out, hl3, HLL.out]; simp)
        have hp3 : 0 < l3.length := by rw [hl3]; simp
        clear hl3 hown3 hgrow3
        rcases hO3.2 with ⟨-, h0⟩ | ⟨g, cap, cur, rfl, -, -, -, -, -, -⟩
        · omega
        · have hcv := run_convert_bytes_back (P := Tryd.prog) w3 79 9 5 ⟨g, 0, none⟩ cap l3 Tryd.underlying79 Tryd.underlying5 Tryd.underlying9 (fun j hj => hO3.cells (g := g) rfl j _ (by simp [Lib.byteCells, hj]))
          have HO3 := Lib.hid hO3
          clear hO3
          go_wp2
          go_ret
          exact ⟨ret_str HF3.out.symm, HB3.out⟩
      · have hz' : ((r : Int) * 10 % 65536 == 0) = false := by simp; omega
        have HZ := Lib.hid hz
        clear hz
        go_wp2_with (at_builtin; refine wpList_append_own _ rfl _ _ 79 rfl w.heap.size 5 i0 (.int .u8 0) 1 1 Tryd.underlying79 hi hz0 hz1 hz2 rfl (by decide) _ l.length (Lib.byteCells l) rfl (HO.out.alloc _) ⟨_, 0, none⟩ 1 1 [_] rfl rfl (one_new _ _ _) (by intro u' hu'; simp at hu'; subst hu'; rfl) (by unfold maxLen; omega) (by omega) (by simp; omega) ?_)
        intro v3 w3 hown3 hgrow3 _
        have HB3 := Lib.hid (show Below w.heap.size w w3 from (HB.out.alloc hsz _).grown hgrow3 (by simp; omega) (fun k hk => (HO.out.lt k hk).1))
        have HO3 := Lib.hid (show w3.ownsRow w.heap.size 5 1 v3 (pre ++ (ds ++ [dgt (r * 10 / 65536)])).length (Lib.byteCells (pre ++ (ds ++ [dgt (r * 10 / 65536)]))) by
          rw [← List.append_assoc, ← HLL.out, cells_snoc l r hr]; simpa using hown3)
        have HF3 := Lib.hid (show fracL 16 r0 = (ds ++ [dgt (r * 10 / 65536)]) ++ fracL (16 - (k + 1)) (r * 10 % 65536) by
          rw [HFR.out, HST.out, if_neg HZ.out]; simp)
        clear hown3 hgrow3
        go_wp2
        go_roundw
        case rel => exact ⟨k + 1, r * 10 % 65536, ds ++ [dgt (r * 10 / 65536)], by omega, by omega, by go_num, by go_num, by simp [HL.out], HF3.out, HO3.out, HB3.out⟩
        case measure => simp [intOf]; omega
    · obtain rfl : k = 16 := by omega
      have HF3 := Lib.hid (show fixT v = l by rw [HF.out, HFR.out, HLL.out]; simp [fracL])
      have hp3 : 0 < l.length := by rw [HLL.out]; simp [HL.out]
      have hO3 := HO.out
      rcases hO3.2 with ⟨-, h0⟩ | ⟨g, cap, cur, rfl, -, -, -, -, -, -⟩
      · omega
      · have hcv := fun w3 h => run_convert_bytes_back (P := Tryd.prog) w3 79 9 5 ⟨g, 0, none⟩ cap l Tryd.underlying79 Tryd.underlying5 Tryd.underlying9 h
        have hcv := hcv _ (fun j hj => hO3.cells (g := g) rfl j _ (by simp [Lib.byteCells, hj]))
        have HO3 := Lib.hid hO3
        clear hO3
        go_wp2
        go_ret
        exact ⟨ret_str HF3.out.symm, HB.out⟩

/-- What Text returns: the text and the error. -/
def textV (t v : Int) : List UInt8 := if t = 1 then Lib.itoa v else if t = 2 then fixT v else if t = 3 then (if v = 0 then [102, 97, 108, 115, 101] else if v = 1 then [116, 114, 117, 101] else []) else []
def textE (t v : Int) : Int := if t = 1 ∨ t = 2 ∨ (t = 3 ∧ (v = 0 ∨ v = 1)) then 0 else 1
theorem below_grow (w : World) (k : Nat) (os : Array Obj) : Below w.heap.size w (Sort.grow (w.drewN k) os) :=
  ⟨rfl, rfl, rfl, by show w.heap.size ≤ (w.heap ++ os).size; simp, fun j hj => by show (w.heap ++ os)[j]? = w.heap[j]?; rw [Array.getElem?_append, if_pos hj]⟩
theorem str_eq (l : List UInt8) (b : ByteArray) (h : b.data.toList = l) : b = ⟨l.toArray⟩ := by subst h; cases b; simp

theorem Text_any (t v : Int) (w : World) (hv : I32 v) (htab : Lib.TabIs Tryd.prog w "internal/strconv.uint64pow10" .u64 Lib.pow10Tab) :
    Calls Tryd.prog 33 #[.int .i64 t, .int .i32 v] w fun e w' => e = .returned (.tuple #[.string ⟨(textV t v).toArray⟩, .int .i64 (textE t v)]) ∧ Below w.heap.size w w' := by
  by_cases h1 : t = 1
  · subst h1
    obtain ⟨hv1, hv2⟩ := hv
    have H := Lib.hid (Tryd.strconv_Itoa v (by omega) (by omega) w htab)
    clear htab
    have e1 : textV 1 v = Lib.itoa v := rfl
    have e2 : textE 1 v = 0 := rfl
    rw [e1, e2]
    clear e1 e2
    go_enter Tryd.func33, Tryd.ntmps33
    go_wp2_with (go_at_call 48; refine H.out.mono ?_; rintro e w' ⟨rfl, k, os, rfl⟩)
    go_ret2
    exact ⟨rfl, below_grow _ _ _⟩
  · by_cases h2 : t = 2
    · subst h2
      have H := Lib.hid (show Calls Tryd.prog 49 #[.int .i32 v] w fun e w' => e = .returned (.string ⟨(fixT v).toArray⟩) ∧ Below w.heap.size w w' by
        by_cases h0 : 0 ≤ v
        · exact fixText_pos v w hv h0 htab
        · exact fixText_neg v w hv (by omega) htab)
      clear htab hv
      have e1 : textV 2 v = fixT v := rfl
      have e2 : textE 2 v = 0 := rfl
      rw [e1, e2]
      clear e1 e2
      go_enter Tryd.func33, Tryd.ntmps33
      go_wp2_with (go_at_call 49; refine H.out.mono ?_; rintro e w' ⟨rfl, hb⟩)
      go_ret2
      exact ⟨rfl, hb⟩
    · by_cases h3 : t = 3
      · subst h3
        by_cases hv0 : v = 0
        · subst hv0
          go_enter Tryd.func33, Tryd.ntmps33
          go_wp2
          go_ret2
          exact ⟨rfl, Below.refl _ _⟩
        · by_cases hv1 : v = 1
          · subst hv1
            go_enter Tryd.func33, Tryd.ntmps33
            go_wp2
            go_ret2
            exact ⟨rfl, Below.refl _ _⟩
          · have e1 : textV 3 v = [] := by simp [textV, hv0, hv1]
            have e2 : textE 3 v = 1 := by simp [textE, hv0, hv1]
            rw [e1, e2]
            clear e1 e2
            go_enter Tryd.func33, Tryd.ntmps33
            go_wp2
            go_ret2
            exact ⟨rfl, Below.refl _ _⟩
      · have e1 : textV t v = [] := by simp [textV, h1, h2, h3]
        have e2 : textE t v = 1 := by simp [textE, h1, h2, h3]
        rw [e1, e2]
        clear e1 e2
        go_enter Tryd.func33, Tryd.ntmps33
        go_wp2
        go_ret2
        exact ⟨rfl, Below.refl _ _⟩
end Go.Proofs.YtikkmcgbmiddaaaDoor
