import Derived.Test.YtkncilgmlkeifaaGreatDoorRrt
import Derived.Test.YtkncilgmlkeifaaGreatDoorNeq
import Derived.Test.YtkncilgmlkeifaaGreatDoorLnp
import Derived.Deep.LoopGhost
import Derived.Test.YtkncilgmlkeifaaGreatDoorRls
import Derived.Test.YtkncilgmlkeifaaGreatDoorCpy
import Derived.Test.YtkncilgmlkeifaaGreatDoorRpa
import Derived.Deep.RegionHeld3
/-
  The reference's reader: contracts of whole, cut, find.
-/
set_option linter.unusedVariables false
set_option linter.unusedSimpArgs false
set_option maxRecDepth 100000
set_option maxHeartbeats 4000000
namespace Go.Proofs.YtkncilgmlkeifaaGreatDoor
open Go.ChangeShapes Go.WideShapes Go.ChangeAt Go.RowKit Go.Shelf
theorem dig_next {s : ByteArray} {k : Nat} (h : k < s.size) : (s.data.toList.take (k + 1)).foldl digV 0 = digV ((s.data.toList.take k).foldl digV 0) s[k] := by
 have hl : k < s.data.toList.length := by rw [Array.length_toList]; exact h
 rw [List.take_succ_eq_append_getElem hl, List.foldl_append]
 rfl
theorem dig_bound (l : List UInt8) (k : Nat) (hk : k <= 12) : 0 <= (l.take k).foldl digV 0 /\ (l.take k).foldl digV 0 <= 999999999999 := by
 have h := fold_dig (l.take k) 0 0 ⟨Int.le_refl _, Int.le_refl _⟩
 have hl : (l.take k).length <= 12 := by rw [List.length_take]; omega
 have h2 := grow_up (12 - (l.take k).length) (l.take k).length (m := 0) (Int.le_refl _)
 rw [show (l.take k).length + (12 - (l.take k).length) = 12 by omega] at h2
 have h3 : grow 0 12 = 999999999999 := by decide +kernel
 omega
theorem whole_r (s : ByteArray) (w : World) (hs : s.size <= 1000000) : Calls Tryz.prog 142 #[.string s] w fun e w' => e = .returned (.int .i64 (wholeV s.data.toList)) /\ w = w' := by
 have HN := lh (fun (k : Nat) (h : k < s.size) => dig_next (s := s) h)
 have HB := lh (fun (k : Nat) (h : k <= 12) => dig_bound s.data.toList k h)
 obtain ⟨m, hm⟩ : ∃ m, min s.size 12 = m := ⟨_, rfl⟩
 have hlen : s.data.toList.length = s.size := Array.length_toList
 have HW := lh (show wholeN s.data.toList = (s.data.toList.take m).foldl digV 0 by
  unfold wholeN
  rw [<- hm]
  by_cases h : s.size <= 12
  . rw [Nat.min_eq_left h, List.take_of_length_le (by omega), List.take_of_length_le (by omega)]
  . rw [Nat.min_eq_right (by omega)])
 have hm1 : m <= s.size := by omega
 have hm2 : m <= 12 := by omega
 have hm3 : m = s.size \/ m = 12 := by omega
 clear hm
 go_enter Tryz.func142, Tryz.ntmps142
 go_wp2
 go_loopg [3, 4] m (fun g z3 z4 wx => ∃ k : Nat, z3 = .int .i64 ((s.data.toList.take k).foldl digV 0) /\ z4 = .int .i64 k /\ k + g = m /\ w = wx)
 case atStart => exact ⟨0, by simp, rfl, by omega, rfl⟩
 case round =>
  obtain ⟨k, rfl, rfl, hkg, rfl⟩ := hrel
  cases gk with
  | zero =>
   obtain rfl : k = m := by omega
   obtain ⟨n, hn⟩ : ∃ n, (s.data.toList.take k).foldl digV 0 = n := ⟨_, rfl⟩
   have hnb := HB.out k hm2
   rw [hn] at HW hnb ⊢
   have HV : Hid (wholeV s.data.toList = if s.data.toList.head? = some 45 then -n else n) := lh (by unfold wholeV; rw [HW.out])
   clear hn HW
   have stop : ∀ {P : Prop}, (((k : Int) < (s.size : Int)) -> ¬ ((k : Int) < 12) -> P) -> (¬ ((k : Int) < (s.size : Int)) -> P) -> P := fun h1 h2 => by
    rcases hm3 with h | h
    . exact h2 (by omega)
    . by_cases h' : (k : Int) < (s.size : Int)
      . exact h1 h' (by omega)
      . exact h2 h'
   rcases Nat.eq_zero_or_pos s.size with h0 | h0
   . have hV : wholeV s.data.toList = n := by
      rw [HV.out]
      have e : s.data.toList = [] := List.eq_nil_of_length_eq_zero (by omega)
      rw [e]
      rfl
     have hE : s = ⟨#[]⟩ := by
      apply ByteArray.ext
      exact Array.eq_empty_of_size_eq_zero h0
     have hk0 : ¬ ((k : Int) < (s.size : Int)) := by omega
     rw [hE] at hV
     have hV' := lh (show wholeV [] = n from hV)
     clear hV HV stop HN HB hlen
     go_wp2
     go_ret
     exact ⟨by rw [hV'.out]; rfl, rfl⟩
   . have hne : s ≠ ⟨#[]⟩ := fun e => by rw [e] at h0; exact absurd h0 (by decide)
     have hbe := bs_ne' (l := []) hne
     obtain ⟨c, hc⟩ : ∃ c, s[0] = c := ⟨_, rfl⟩
     have h0' : (0 : Int) < (s.size : Int) := by omega
     have hV : wholeV s.data.toList = if c = 45 then -n else n := by
      rw [HV.out]
      have e : s.data.toList.head? = some s[0] := by
       rw [List.head?_eq_getElem?, List.getElem?_eq_getElem (by omega)]
       rfl
      rw [e, hc]
      simp
     clear HV HN HB hlen
     by_cases h45 : c = 45
     . have hb : ((c.toNat : Int) == 45) = true := by rw [h45]; rfl
       rw [if_pos h45] at hV
       have hV' := lh hV
       clear hV h45
       refine stop (fun l1 l2 => ?_) (fun l1 => ?_)
       all_goals
        clear stop
        go_wp2
        go_ret
        exact ⟨by rw [hV'.out]; try go_num, rfl⟩
     . have hb : ((c.toNat : Int) == 45) = false := by
        rw [beq_eq_false_iff_ne]
        intro e
        exact h45 (UInt8.toNat_inj.1 (show c.toNat = 45 by omega))
       rw [if_neg h45] at hV
       have hV' := lh hV
       clear hV h45
       refine stop (fun l1 l2 => ?_) (fun l1 => ?_)
       all_goals
        clear stop
        go_wp2
        go_ret
        exact ⟨by rw [hV'.out]; rfl, rfl⟩
  | succ g =>
   have hk1 : k < s.size := by omega
   have hk2 : (k : Int) < (s.size : Int) := by omega
   have hk3 : (k : Int) < 12 := by omega
   have hk4 : 0 <= (k : Int) := by omega
   obtain ⟨n, hn⟩ : ∃ n, (s.data.toList.take k).foldl digV 0 = n := ⟨_, rfl⟩
   have hnb := HB.out k (by omega)
   have hnb2 := HB.out (k + 1) (by omega)
   have HNk := lh (HN.out k hk1)
   rw [hn] at hnb HNk ⊢
   rw [HNk.out] at hnb2
   obtain ⟨c, hc⟩ : ∃ c, s[k] = c := ⟨_, rfl⟩
   rw [hc] at HNk hnb2
   unfold digV at hnb2
   clear hn
   by_cases h48 : 48 <= c.toNat
   . by_cases h57 : c.toNat <= 57
     . rw [if_pos ⟨h48, h57⟩] at hnb2
       have HV : Hid (digV n c = n * 10 + ((c.toNat : Int) - 48)) := lh (by unfold digV; rw [if_pos ⟨h48, h57⟩])
       have c1 : (48 : Int) <= (c.toNat : Int) := by omega
       have c2 : (c.toNat : Int) <= 57 := by omega
       go_wp2
       go_roundg g
       case measure => omega
       case rel => exact ⟨k + 1, by rw [HNk.out, HV.out]; try go_num, by go_num, by omega, rfl⟩
     . have HV : Hid (digV n c = n) := lh (by unfold digV; rw [if_neg (by omega)])
       have c1 : (48 : Int) <= (c.toNat : Int) := by omega
       have c2 : ¬ (c.toNat : Int) <= 57 := by omega
       go_wp2
       go_roundg g
       case measure => omega
       case rel => exact ⟨k + 1, by rw [HNk.out, HV.out], by go_num, by omega, rfl⟩
   . have HV : Hid (digV n c = n) := lh (by unfold digV; rw [if_neg (by omega)])
     have c1 : ¬ (48 : Int) <= (c.toNat : Int) := by omega
     go_wp2
     go_roundg g
     case measure => omega
     case rel => exact ⟨k + 1, by rw [HNk.out, HV.out], by go_num, by omega, rfl⟩
theorem findV_skip (s : ByteArray) (L : List ByteArray) (k : Nat) (h : k < L.length) : (L.getD k ⟨#[]⟩ = s -> findV s (L.drop k) k = k) /\ (L.getD k ⟨#[]⟩ ≠ s -> findV s (L.drop k) k = findV s (L.drop (k + 1)) ((k + 1 : Nat) : Int)) := by
 have e : L.drop k = L[k] :: L.drop (k + 1) := (List.getElem_cons_drop h).symm
 have e2 : L.getD k ⟨#[]⟩ = L[k] := getD_of _ _ _ h
 rw [e, e2]
 constructor
 . intro hx
   rw [findV, if_pos hx]
 . intro hx
   rw [findV, if_neg hx]
   rfl
theorem find_r (b c : Nat) (L : List ByteArray) (s : ByteArray) (w : World) (hL : L.length <= 1000) (hc : ∀ j, j < L.length -> w.cell? ⟨b, j, none⟩ = some (.string (L.getD j ⟨#[]⟩))) :
 Calls Tryz.prog 110 #[.slice (some ⟨b, 0, none⟩) L.length c, .string s] w fun e w' => e = .returned (.int .i64 (findV s L 0)) /\ w = w' := by
 have HC := lh hc
 have HF := lh (findV_skip s L)
 clear hc
 go_enter Tryz.func110, Tryz.ntmps110
 go_wp2
 go_loopg [5] L.length (fun g z5 wx => ∃ k : Nat, z5 = .int .i64 k /\ k + g = L.length /\ Hid (findV s L 0 = findV s (L.drop k) k) /\ w = wx)
 case atStart => exact ⟨0, rfl, by omega, lh (by simp), rfl⟩
 case round =>
  obtain ⟨k, rfl, hkg, HV, rfl⟩ := hrel
  cases gk with
  | zero =>
   obtain rfl : k = L.length := by omega
   have hk0 : ¬ ((L.length : Int) < (L.length : Int)) := by omega
   have HZ : Hid (findV s L 0 = -1) := lh (by rw [HV.out, List.drop_length]; rfl)
   go_wp2
   go_ret
   exact ⟨by rw [HZ.out]; rfl, rfl⟩
  | succ g =>
   have hk1 : k < L.length := by omega
   have hk2 : (k : Int) < (L.length : Int) := by omega
   have hk3 : 0 <= (k : Int) := by omega
   have m := HC.out k hk1
   obtain ⟨x, hx⟩ : ∃ x, L.getD k ⟨#[]⟩ = x := ⟨_, rfl⟩
   obtain ⟨f1, f2⟩ := HF.out k hk1
   rw [hx] at m f1 f2
   clear hx
   by_cases h : x = s
   . have hb : (x.toList == s.toList) = true := by rw [h]; simp
     have HZ : Hid (findV s L 0 = k) := lh (by rw [HV.out]; exact f1 h)
     clear f1 f2 h
     go_wp2
     go_ret
     exact ⟨by rw [HZ.out]; rfl, rfl⟩
   . have hb := bs_ne h
     have HZ : Hid (findV s L 0 = findV s (L.drop (k + 1)) ((k + 1 : Nat) : Int)) := lh (by rw [HV.out]; exact f2 h)
     clear f1 f2 h
     go_wp2
     go_roundg g
     case measure => omega
     case rel => exact ⟨k + 1, by go_num, by omega, HZ, rfl⟩
def cutD (d : UInt8) (s : ByteArray) : List ByteArray := (splitD d s.data.toList).map bA
theorem splitD_none (d : UInt8) : ∀ {l : List UInt8}, (∀ c, c ∈ l -> c ≠ d) -> splitD d l = [l]
 | [], _ => rfl
 | c :: r, h => by
  have h1 : c ≠ d := h c (by simp)
  have h2 := splitD_none d (l := r) (fun x hx => h x (by simp [hx]))
  rw [splitD, if_neg h1, h2]
def CutI (d : UInt8) (s : ByteArray) (acc : List ByteArray) (f k : Nat) : Prop :=
 acc.map (·.data.toList) ++ splitD d (s.data.toList.drop f) = splitD d s.data.toList /\ ∀ j, f <= j -> j < k -> s.data.toList[j]? ≠ some d
theorem CutI.no {d : UInt8} {s : ByteArray} {acc : List ByteArray} {f k : Nat} (h : CutI d s acc f k) (hk : k < s.size) (hc : s[k] ≠ d) : CutI d s acc f (k + 1) := by
 refine ⟨h.1, fun j h1 h2 => ?_⟩
 by_cases e : j = k
 . subst e
   have hl : j < s.data.toList.length := by rw [Array.length_toList]; exact hk
   rw [List.getElem?_eq_getElem hl]
   intro hh
   exact hc (by injection hh)
 . exact h.2 j h1 (by omega)
theorem CutI.yes {d : UInt8} {s : ByteArray} {acc : List ByteArray} {f k : Nat} (h : CutI d s acc f k) (hf : f <= k) (hk : k < s.size) (hc : s[k] = d) : CutI d s (acc ++ [s.extract f k]) (k + 1) (k + 1) := by
 have hl : s.data.toList.length = s.size := Array.length_toList
 refine ⟨?_, fun j h1 h2 => absurd h1 (by omega)⟩
 have e : s.data.toList.drop f = (s.data.toList.drop f).take (k - f) ++ d :: s.data.toList.drop (k + 1) := by
  have h1 : s.data.toList.drop k = d :: s.data.toList.drop (k + 1) := by
   have h2 : s.data.toList[k]'(by omega) = d := hc
   rw [<- h2, List.getElem_cons_drop]
  rw [<- h1, <- show (s.data.toList.drop f).drop (k - f) = s.data.toList.drop k by rw [List.drop_drop, show f + (k - f) = k by omega], List.take_append_drop]
 have h3 : splitD d (s.data.toList.drop f) = (s.data.toList.drop f).take (k - f) :: splitD d (s.data.toList.drop (k + 1)) := by
  conv => lhs; rw [e]
  refine splitD_app d _ (fun c hcm hcd => ?_)
  obtain ⟨j, hj, hje⟩ := List.getElem_of_mem hcm
  have hj2 : j < k - f := by rw [List.length_take] at hj; omega
  refine h.2 (f + j) (by omega) (by omega) ?_
  rw [List.getElem_take, List.getElem_drop] at hje
  rw [List.getElem?_eq_getElem (by omega), hje, hcd]
 have h4 := h.1
 rw [h3] at h4
 rw [List.map_append, List.append_assoc, List.map_cons, List.map_nil, <- h4]
 congr 1
 show [_] ++ _ = _
 rw [List.singleton_append]
 congr 1
 simp [ByteArray.data_extract, List.drop_take]
theorem CutI.last {d : UInt8} {s : ByteArray} {acc : List ByteArray} {f : Nat} (h : CutI d s acc f s.size) : acc ++ [s.extract f s.size] = cutD d s := by
 have hl : s.data.toList.length = s.size := Array.length_toList
 have h1 : splitD d (s.data.toList.drop f) = [s.data.toList.drop f] := splitD_none d (fun c hc hcd => by
  obtain ⟨j, hj, hje⟩ := List.getElem_of_mem hc
  rw [List.length_drop] at hj
  refine h.2 (f + j) (by omega) (by omega) ?_
  rw [List.getElem_drop] at hje
  rw [List.getElem?_eq_getElem (by omega), hje, hcd])
 unfold cutD
 rw [<- h.1, h1, List.map_append, List.map_map]
 congr 1
 . exact (List.map_id'' (fun x => rfl) acc).symm
 . simp only [List.map_cons, List.map_nil]
   congr 1
   apply ByteArray.ext
   show (s.extract f s.size).data = (s.data.toList.drop f).toArray
   rw [<- Lib.extract_to_end]
theorem cutD_any (s : ByteArray) (d : UInt8) (w : World) (hs : s.size <= 1000000) :
 Calls Tryz.prog 73 #[.string s, .int .u8 (d.toNat : Int)] w fun e w' => ∃ v, e = .returned v /\ FSl w' v (cutD d s) /\ Below w.heap.size w w' := by
 obtain ⟨i0, hi, hz0, hz1, hz2⟩ := info_parts infoStr
 go_enter Tryz.func73, Tryz.ntmps73
 go_wp2
 go_loopg [5, 6, 7] s.size (fun g z5 z6 z7 wx => ∃ (k f : Nat) (acc : List ByteArray) (v : Value), v = z5 /\ z6 = .int .i64 f /\ z7 = .int .i64 k /\ f <= k /\ acc.length <= k /\ k + g = s.size /\ Hid (CutI d s acc f k) /\ Hid (wx.ownsRow w.heap.size 9 1 v acc.length (acc.map Value.string)) /\ Hid (Below w.heap.size w wx))
 case atStart => exact ⟨0, 0, [], _, rfl, rfl, rfl, Nat.le_refl _, Nat.le_refl _, by omega, lh ⟨by simp, fun j h1 h2 => absurd h2 (by omega)⟩, lh (lit_ownW 9 1 (Below.refl _ w)), lh ((Below.refl _ _).alloc (Nat.le_refl _) _)⟩
 case round =>
  obtain ⟨k, f, acc, v, rfl, rfl, rfl, hfk, hac, hkg, HI, HO, HB⟩ := hrel
  have hf0 : 0 <= (f : Int) := by omega
  have hfk' : (f : Int) <= (k : Int) := by omega
  cases gk with
  | zero =>
   obtain rfl : k = s.size := by omega
   have hk0 : ¬ ((s.size : Int) < (s.size : Int)) := by omega
   have HL := lh (CutI.last HI.out)
   obtain ⟨wo, rfl⟩ : ∃ wo : World, wo = wr := ⟨_, rfl⟩
   go_wp2_with (first | (at_builtin; refine wpList_append_own _ rfl _ _ 74 rfl w.heap.size 9 i0 (.string ByteArray.empty) 1 16 Tryz.underlying74 hi hz0 hz1 hz2 rfl (by decide) _ _ _ rfl (HO.out.alloc _) ⟨wo.heap.size, 0, none⟩ 1 1 [.string (s.extract f s.size)] rfl rfl (one_newB _ _ _) (by simp [Value.oneCell']) (by unfold maxLen; omega) (by omega) (by have := HB.out.size; simp; omega) ?_; intro v' w5 hown' hgrow _; have HO5 := lh hown'; have HB5 := lh ((HB.out.alloc HB.out.size _).grown hgrow (by have := HB.out.size; simp; omega) (fun k hk => (HO.out.lt k hk).1)); clear hown' hgrow))
   try rw [Exit.noGoto_ret]
   go_ret
   exact ⟨_, rfl, by rw [<- HL.out]; exact fsl_own (n := acc.length + 1) (by simpa using HO5.out) (by simp), HB5.out⟩
  | succ g =>
   have hk1 : k < s.size := by omega
   have hk2 : (k : Int) < (s.size : Int) := by omega
   have hk3 : 0 <= (k : Int) := by omega
   obtain ⟨c, hc⟩ : ∃ c, s[k] = c := ⟨_, rfl⟩
   by_cases hd : c = d
   . have hb : ((c.toNat : Int) == (d.toNat : Int)) = true := by rw [hd]; simp
     have HI2 := lh (HI.out.yes hfk hk1 (hc.trans hd))
     have hk4 : (k : Int) <= (s.size : Int) := by omega
     clear hd
     obtain ⟨wo, rfl⟩ : ∃ wo : World, wo = wr := ⟨_, rfl⟩
     go_wp2_with (first | (at_builtin; refine wpList_append_own _ rfl _ _ 74 rfl w.heap.size 9 i0 (.string ByteArray.empty) 1 16 Tryz.underlying74 hi hz0 hz1 hz2 rfl (by decide) _ _ _ rfl (HO.out.alloc _) ⟨wo.heap.size, 0, none⟩ 1 1 [.string (s.extract f k)] rfl rfl (one_newB _ _ _) (by simp [Value.oneCell']) (by unfold maxLen; omega) (by omega) (by have := HB.out.size; simp; omega) ?_; intro v' w5 hown' hgrow _; have HO5 := lh hown'; have HB5 := lh ((HB.out.alloc HB.out.size _).grown hgrow (by have := HB.out.size; simp; omega) (fun k hk => (HO.out.lt k hk).1)); clear hown' hgrow))
     go_roundg g
     case measure => omega
     case rel => exact ⟨k + 1, k + 1, acc ++ [s.extract f k], _, rfl, by go_num, by go_num, Nat.le_refl _, by simp; omega, by omega, HI2, lh (by simpa using HO5.out), HB5⟩
   . have hb : ((c.toNat : Int) == (d.toNat : Int)) = false := by
      rw [beq_eq_false_iff_ne]
      intro e
      exact hd (UInt8.toNat_inj.1 (by omega))
     have HI2 := lh (HI.out.no hk1 (fun e => hd (hc.symm.trans e)))
     clear hd
     obtain ⟨wo, rfl⟩ : ∃ wo : World, wo = wr := ⟨_, rfl⟩
     go_wp2
     go_roundg g
     case measure => omega
     case rel => exact ⟨k + 1, f, acc, _, rfl, rfl, by go_num, by omega, by omega, by omega, HI2, HO, HB⟩
def FdK (bf : Nat) (v : Value) (fs : List ByteArray) (k : Nat) (W : World) : Prop := W.heap[bf]? = some (.cells #[v, (k : Nat)] 175 (0, 0)) /\ FSl W v fs
def FdL (B bf : Nat) (v : Value) : Prop := bf < B /\ ∀ a n c, v = .slice (some a) n c -> a.block < B
theorem FdK.below {B bf : Nat} {v : Value} {fs : List ByteArray} {k : Nat} {W W' : World} (h : FdK bf v fs k W) (hl : FdL B bf v) (hb : Below B W W') : FdK bf v fs k W' := by
 refine ⟨(hb.block _ hl.1).trans h.1, ?_⟩
 obtain ⟨A, c, e, h1, h2⟩ := h.2
 refine ⟨A, c, e, h1, fun h0 => ?_⟩
 obtain ⟨fb, off, C, fr, hA, hh, hc⟩ := h2 h0
 exact ⟨fb, off, C, fr, hA, (hb.block fb (hl.2 _ _ _ (by rw [e, hA]))).trans hh, hc⟩
theorem FSl.not9 {w w' : World} {v : Value} {fs : List ByteArray} {b T : Nat} {C : Array Value} {fr : Nat × Nat} (h : FSl w v fs) (hc : Ch b b w w') (hb : w.heap[b]? = some (.cells C T fr)) (hT : T ≠ 9) : FSl w' v fs := by
 refine h.of_blocks (fun k C' fr' hk => (hc.block k (Array.getElem?_eq_some_iff.1 hk).1 ?_ ?_).trans hk)
 all_goals
  rintro rfl
  rw [hb] at hk
  injection hk with hk
  injection hk with _ e _
  exact hT e
theorem next_r (bf : Nat) (v : Value) (fs : List ByteArray) (k : Nat) (w : World) (h : FdK bf v fs k w) (hl : fs.length <= 1000000) (hk : k <= 1000000) :
 Calls Tryz.prog 109 #[.pointer (some ⟨bf, 0, none⟩)] w fun e w' => e = .returned (.string (fs.getD k ⟨#[]⟩)) /\ FdK bf v fs (k + 1) w' /\ Ch bf bf w w' := by
 obtain ⟨hb, hv⟩ := h
 obtain ⟨A, c, hve, hc, hj⟩ := hv
 have hv' : FSl w v fs := ⟨A, c, hve, hc, hj⟩
 have c0 : w.cell? ⟨bf, 0, none⟩ = some v := cellK hb rfl
 have c1 : w.cell? ⟨bf, 1, none⟩ = some (.int .i64 (k : Nat)) := cellK hb rfl
 have z1 : w.frozen? ⟨bf, 1, none⟩ = false := by simp [World.frozen?, hb]
 have hw1 : (w.setCell ⟨bf, 1, none⟩ (.int .i64 ((k : Int) + 1))).heap[bf]? = some (.cells #[v, .int .i64 ((k : Int) + 1)] 175 (0, 0)) := heap_setCell_same w bf 1 _ 175 _ hb
 have s0 : (w.setCell ⟨bf, 1, none⟩ (.int .i64 ((k : Int) + 1))).cell? ⟨bf, 0, none⟩ = some v := cellK hw1 rfl
 have s1 : (w.setCell ⟨bf, 1, none⟩ (.int .i64 ((k : Int) + 1))).cell? ⟨bf, 1, none⟩ = some (.int .i64 ((k : Int) + 1)) := cellK hw1 rfl
 have HE := lh (show ∀ q, FdK bf v fs (k + 1) ((w.setCell ⟨bf, 1, none⟩ (.int .i64 ((k : Int) + 1))).drewN q) /\ Ch bf bf w ((w.setCell ⟨bf, 1, none⟩ (.int .i64 ((k : Int) + 1))).drewN q) from fun q => by
  have hch : Ch bf bf w ((w.setCell ⟨bf, 1, none⟩ (.int .i64 ((k : Int) + 1))).drewN q) := ⟨rfl, rfl, rfl, by show w.heap.size <= (w.setCell _ _).heap.size; simp [World.setCell], fun i hi ha _ => Below.heap_setCell w ⟨bf, 1, none⟩ _ i ha⟩
  exact ⟨⟨hw1, hv'.not9 hch hb (by decide)⟩, hch⟩)
 obtain ⟨m, hm⟩ : ∃ m : Int, (k : Int) + 1 = m := ⟨_, rfl⟩
 rw [hm] at s0 s1 HE
 have hm1 : m - 1 = (k : Int) := by omega
 have m1 : m <= 1000001 := by omega
 have m0 : 0 <= m := by omega
 have k0 : 0 <= (k : Int) := by omega
 subst hve
 by_cases hlt : k < fs.length
 . obtain ⟨fb, off, C, fr, rfl, hh, hcs⟩ := hj (by omega)
   have hfb : fb ≠ bf := by
    rintro rfl
    rw [hh] at hb
    injection hb with hb
    injection hb with _ e _
    exact absurd e (by decide)
   have s2 : (w.setCell ⟨bf, 1, none⟩ (.int .i64 m)).cell? ⟨fb, off + k, none⟩ = some (.string (fs.getD k ⟨#[]⟩)) := by
    have : (w.setCell ⟨bf, 1, none⟩ (.int .i64 m)).heap[fb]? = some (.cells C 9 fr) := (heap_setCell_other w ⟨bf, 1, none⟩ _ _ hfb).trans hh
    exact cellK this (hcs k hlt)
   have HS2 := lh s2
   clear s2
   have hgt : ¬ (fs.length : Int) < m := by omega
   have HK2 := lh (show (k : Int) < (fs.length : Int) by omega)
   have HKN := lh (show IntKind.i64.wrap (m - 1) = (k : Int) by rw [hm1]; exact IntWalk.i64_in _ (by omega))
   clear hj hv' hb hw1 hcs hh hfb hlt
   go_enter Tryz.func109, Tryz.ntmps109
   go_wp2
   go_region_held3 (fun w' => w'.cell? ⟨bf, 0, none⟩ = some (.slice (some ⟨fb, off, none⟩) fs.length c) /\ w'.cell? ⟨bf, 1, none⟩ = some (.int .i64 m)) (exact ⟨s0, s1⟩) (fail)
   go_wp2
   have b1 := HK2.out
   have b2 := HKN.out
   clear hm hm1
   go_region_held3 (fun w' => w'.cell? ⟨bf, 0, none⟩ = some (.slice (some ⟨fb, off, none⟩) fs.length c) /\ w'.cell? ⟨bf, 1, none⟩ = some (.int .i64 m) /\ w'.cell? ⟨fb, off + k, none⟩ = some (.string (fs.getD k ⟨#[]⟩))) (exact ⟨s0, s1, HS2.out⟩) (fail)
   go_wp2
   go_ret
   exact ⟨rfl, HE.out 2⟩
 . have hgt : (fs.length : Int) < m := by omega
   have HD := lh (show fs.getD k ⟨#[]⟩ = ⟨#[]⟩ by rw [List.getD_eq_getElem?_getD, List.getElem?_eq_none (by omega)]; rfl)
   rw [HD.out]
   clear hj hv' hb hw1
   go_enter Tryz.func109, Tryz.ntmps109
   go_wp2
   go_region_held3 (fun w' => w'.cell? ⟨bf, 0, none⟩ = some (.slice A fs.length c) /\ w'.cell? ⟨bf, 1, none⟩ = some (.int .i64 m)) (exact ⟨s0, s1⟩) (fail)
   go_wp2
   go_ret
   exact ⟨rfl, HE.out 1⟩
theorem FdK.on {bf : Nat} {v : Value} {fs : List ByteArray} {k : Nat} {W W' : World} (h : FdK bf v fs k W) (hb : Below W.heap.size W W') : FdK bf v fs k W' := by
 obtain ⟨h1, h2⟩ := h
 exact ⟨(hb.block _ (Array.getElem?_eq_some_iff.1 h1).1).trans h1, h2.of_blocks (fun j C fr hj => (hb.block _ (Array.getElem?_eq_some_iff.1 hj).1).trans hj)⟩
theorem FdK.set {bf b : Nat} {v : Value} {fs : List ByteArray} {k : Nat} {W : World} {C : Array Value} {T : TypeId} {fr : Nat × Nat} (h : FdK bf v fs k W) (hb : W.heap[b]? = some (.cells C T fr)) (hT : T ≠ 9) (hne : b ≠ bf) (o : Nat) (x : Value) : FdK bf v fs k (W.setCell ⟨b, o, none⟩ x) := by
 obtain ⟨h1, h2⟩ := h
 exact ⟨(heap_setCell_other W ⟨b, o, none⟩ _ _ (Ne.symm hne)).trans h1, h2.not9 (Ch.set1 b b W o x) hb hT⟩
theorem ch_new {bf : Nat} {w W : World} (h : Ch bf bf w W) (o : Nat) (x : Value) : Ch bf bf w (W.setCell ⟨w.heap.size, o, none⟩ x) :=
 ⟨h.os, h.tape, h.output, Nat.le_trans h.size (by simp [World.setCell]), fun i hi ha hb => (Below.heap_setCell W ⟨w.heap.size, o, none⟩ x i (by show i ≠ w.heap.size; omega)).trans (h.block i hi ha hb)⟩
theorem FdK.lt {bf : Nat} {v : Value} {fs : List ByteArray} {k : Nat} {W : World} (h : FdK bf v fs k W) : bf < W.heap.size := by
 obtain ⟨h1, _⟩ := h
 exact (Array.getElem?_eq_some_iff.1 h1).1
theorem getD_sz {fs : List ByteArray} {n : Nat} (h : ∀ s, s ∈ fs -> s.size <= n) (k : Nat) : (fs.getD k ⟨#[]⟩).size <= n := by
 by_cases hk : k < fs.length
 . rw [getD_of _ _ _ hk]
   exact h _ (List.getElem_mem hk)
 . rw [List.getD_eq_getElem?_getD, List.getElem?_eq_none (by omega)]
   exact Nat.zero_le _
theorem number_r (bf : Nat) (v : Value) (fs : List ByteArray) (k : Nat) (w : World) (h : FdK bf v fs k w) (hl : fs.length <= 1000000) (hk : k <= 1000000) (hs : ∀ s, s ∈ fs -> s.size <= 1000000) :
 Calls Tryz.prog 111 #[.pointer (some ⟨bf, 0, none⟩)] w fun e w' => e = .returned (.int .i64 (wholeV (fs.getD k ⟨#[]⟩).data.toList)) /\ FdK bf v fs (k + 1) w' /\ Ch bf bf w w' := by
 have HN := lh (next_r bf v fs k w h hl hk)
 have hsz := getD_sz hs k
 obtain ⟨s, hse⟩ : ∃ s, fs.getD k ⟨#[]⟩ = s := ⟨_, rfl⟩
 rw [hse] at HN hsz ⊢
 have HW := lh (fun W => whole_r s W hsz)
 clear h hs hse hsz
 go_enter Tryz.func111, Tryz.ntmps111
 go_wp2_with (first
  | (go_at_call 109; (with_reducible refine HN.out.mono ?_); rintro e w1 ⟨rfl, hq⟩; have HQ := lh hq; clear hq)
  | (go_at_call 142; (with_reducible refine (HW.out _).mono ?_); rintro e w2 ⟨rfl, rfl⟩))
 go_ret
 exact ⟨rfl, HQ.out⟩
theorem opdQ_r {s : ByteArray} (h : s.data.toList.head? = some 114) : opdQ s = ⟨2, wholeV s.data.toList.tail, 0⟩ := by unfold opdQ; rw [if_pos h]
theorem opdQ_c {s : ByteArray} (h : ¬ s.data.toList.head? = some 114) : opdQ s = ⟨1, 0, wrap32 (wholeV s.data.toList)⟩ := by unfold opdQ; rw [if_neg h]
theorem operand_r (bf : Nat) (v : Value) (fs : List ByteArray) (k : Nat) (w : World) (h : FdK bf v fs k w) (hl : fs.length <= 1000000) (hk : k <= 1000000) (hs : ∀ s, s ∈ fs -> s.size <= 1000000) :
 Calls Tryz.prog 143 #[.pointer (some ⟨bf, 0, none⟩)] w fun e w' => e = .returned (.agg #[(opdQ (fs.getD k ⟨#[]⟩)).k, (opdQ (fs.getD k ⟨#[]⟩)).n, .int .i32 (opdQ (fs.getD k ⟨#[]⟩)).v]) /\ FdK bf v fs (k + 1) w' /\ Ch bf bf w w' := by
 have hlt := h.lt
 have hba : Below w.heap.size w (w.alloc (.cells #[(0:Int), (0:Int), .int .i32 0] 27)) := (Below.refl _ _).alloc (Nat.le_refl _) _
 have HN := lh (next_r bf v fs k (w.alloc (.cells #[(0:Int), (0:Int), .int .i32 0] 27)) (h.on hba) hl hk)
 have hsz := getD_sz hs k
 obtain ⟨s, hse⟩ : ∃ s, fs.getD k ⟨#[]⟩ = s := ⟨_, rfl⟩
 rw [hse] at HN hsz ⊢
 have HZ := lh (show ∀ w1, FdK bf v fs (k + 1) w1 /\ Ch bf bf (w.alloc (.cells #[(0:Int), (0:Int), .int .i32 0] 27)) w1 -> w1.heap[w.heap.size]? = some (.cells #[(0:Int), (0:Int), .int .i32 0] 27 (0, 0)) from fun w1 hq =>
  (hq.2.block w.heap.size (by simp) (by omega) (by omega)).trans (heap_alloc_new w _))
 have HE := lh (fun (w1 w2 : World) (hq : FdK bf v fs (k + 1) w1 /\ Ch bf bf (w.alloc (.cells #[(0:Int), (0:Int), .int .i32 0] 27)) w1) (hb : Below w1.heap.size w1 w2) =>
  show (∀ o, w2.cell? ⟨w.heap.size, o, none⟩ = (#[(0:Int), (0:Int), .int .i32 0] : Array Value)[o]?) /\ (∀ o, w2.frozen? ⟨w.heap.size, o, none⟩ = false) /\ ∀ x0 x1 x2 : Value, FdK bf v fs (k + 1) (((w2.setCell ⟨w.heap.size, 0, none⟩ x0).setCell ⟨w.heap.size, 1, none⟩ x1).setCell ⟨w.heap.size, 2, none⟩ x2) /\ Ch bf bf w (((w2.setCell ⟨w.heap.size, 0, none⟩ x0).setCell ⟨w.heap.size, 1, none⟩ x1).setCell ⟨w.heap.size, 2, none⟩ x2) from by
  have hz := HZ.out w1 hq
  have hz2 := (hb.block _ (Array.getElem?_eq_some_iff.1 hz).1).trans hz
  refine ⟨fun o => by simp [World.cell?, hz2], fun o => by simp [World.frozen?, hz2], fun x0 x1 x2 => ?_⟩
  have hne : w.heap.size ≠ bf := by omega
  have e0 := heap_setCell_same w2 w.heap.size 0 _ 27 x0 hz2
  have e1 := heap_setCell_same _ w.heap.size 1 _ 27 x1 e0
  have f0 := (hq.1.on hb).set hz2 (by decide) hne 0 x0
  have f1 := f0.set e0 (by decide) hne 1 x1
  have f2 := f1.set e1 (by decide) hne 2 x2
  have c0 := ((Ch.of_below (a := bf) (b := bf) hba).trans hq.2).trans (Ch.of_below hb)
  exact ⟨f2, ch_new (ch_new (ch_new c0 0 x0) 1 x1) 2 x2⟩)
 clear HZ hba h hs
 have hlen : s.data.toList.length = s.size := Array.length_toList
 by_cases hr : s.data.toList.head? = some 114
 . have HO := lh (opdQ_r hr)
   rw [HO.out]
   have h0 : 0 < s.size := by
    rcases Nat.eq_zero_or_pos s.size with h0 | h0
    . rw [List.eq_nil_of_length_eq_zero (by omega : s.data.toList.length = 0)] at hr
      cases hr
    . exact h0
   have hne : s ≠ ⟨#[]⟩ := fun e => by rw [e] at h0; exact absurd h0 (by decide)
   have hbe := bs_ne' (l := []) hne
   obtain ⟨c, hc⟩ : ∃ c, s[0] = c := ⟨_, rfl⟩
   have hc114 : c = 114 := by
    rw [List.head?_eq_getElem?, List.getElem?_eq_getElem (by omega)] at hr
    have : s.data.toList[0]'(by omega) = c := hc
    rw [this] at hr
    injection hr
   have hb : ((c.toNat : Int) == 114) = true := by rw [hc114]; rfl
   have HW := lh (fun W => whole_r (s.extract 1 s.size) W (by have : (s.extract 1 s.size).size <= s.size := (by simp [ByteArray.size_extract]); omega))
   rw [Lib.extract_to_end, show s.data.toList.drop 1 = s.data.toList.tail from List.drop_one] at HW
   obtain ⟨n, hn⟩ : ∃ n, wholeV s.data.toList.tail = n := ⟨_, rfl⟩
   rw [hn] at HW ⊢
   have hs1 : (1 : Int) <= (s.size : Int) := by omega
   clear hr hn hc114 HO hlen
   go_enter Tryz.func143, Tryz.ntmps143
   go_wp2_with (first
    | (go_at_call 109; (with_reducible refine HN.out.mono ?_); rintro e w1 ⟨rfl, hq⟩; have HQ := lh hq; clear hq)
    | (go_at_call 142; (with_reducible refine (HW.out _).mono ?_); rintro e w2 ⟨rfl, rfl⟩)
    | (go_at_call 40; (with_reducible refine (Reg_any _ _).mono ?_); rintro e w3 ⟨rfl, hb3⟩; obtain ⟨zk, zf, hz⟩ := HE.out _ _ HQ.out hb3; have HZ := lh hz; clear hz hb3))
   exact bodyPost_ret (v := .agg #[(2:Int), n, .int .i32 0]) (by simp [results, Tryz.results143, go_sem, zk]) rfl ⟨rfl, HZ.out _ _ _⟩
 . have HO := lh (opdQ_c hr)
   rw [HO.out]
   have HW := lh (fun W => whole_r s W hsz)
   obtain ⟨n, hn⟩ : ∃ n, wholeV s.data.toList = n := ⟨_, rfl⟩
   have hn64 : I64 n := by rw [<- hn]; exact wholeV_rng _
   rw [hn] at HW ⊢
   rcases Nat.eq_zero_or_pos s.size with h0 | h0
   . have hE : s = ⟨#[]⟩ := by
      apply ByteArray.ext
      exact Array.eq_empty_of_size_eq_zero h0
     clear hr hn HO hlen h0 hse
     subst hE
     go_enter Tryz.func143, Tryz.ntmps143
     go_wp2_with (first
      | (go_at_call 109; (with_reducible refine HN.out.mono ?_); rintro e w1 ⟨rfl, hq⟩; have HQ := lh hq; clear hq)
      | (go_at_call 142; (with_reducible refine (HW.out _).mono ?_); rintro e w2 ⟨rfl, rfl⟩)
      | (go_at_call 42; (with_reducible refine (Const_any _ _).mono ?_); rintro e w3 ⟨rfl, hb3⟩; obtain ⟨zk, zf, hz⟩ := HE.out _ _ HQ.out hb3; have HZ := lh hz; clear hz hb3))
     exact bodyPost_ret (v := .agg #[(1:Int), (0:Int), .int .i32 (wrap32 n)]) (by simp [results, Tryz.results143, go_sem, zk]) rfl ⟨rfl, HZ.out _ _ _⟩
   . have hne : s ≠ ⟨#[]⟩ := fun e => by rw [e] at h0; exact absurd h0 (by decide)
     have hbe := bs_ne' (l := []) hne
     obtain ⟨c, hc⟩ : ∃ c, s[0] = c := ⟨_, rfl⟩
     have hc114 : c ≠ 114 := by
      rintro rfl
      refine hr ?_
      rw [List.head?_eq_getElem?, List.getElem?_eq_getElem (by omega)]
      exact congrArg some hc
     have hb : ((c.toNat : Int) == 114) = false := by
      rw [beq_eq_false_iff_ne]
      intro e
      exact hc114 (UInt8.toNat_inj.1 (show c.toNat = 114 by omega))
     have h0' : (0 : Int) < (s.size : Int) := by omega
     clear hr hn HO hlen hc114
     go_enter Tryz.func143, Tryz.ntmps143
     go_wp2_with (first
      | (go_at_call 109; (with_reducible refine HN.out.mono ?_); rintro e w1 ⟨rfl, hq⟩; have HQ := lh hq; clear hq)
      | (go_at_call 142; (with_reducible refine (HW.out _).mono ?_); rintro e w2 ⟨rfl, rfl⟩)
      | (go_at_call 42; (with_reducible refine (Const_any _ _).mono ?_); rintro e w3 ⟨rfl, hb3⟩; obtain ⟨zk, zf, hz⟩ := HE.out _ _ HQ.out hb3; have HZ := lh hz; clear hz hb3))
     exact bodyPost_ret (v := .agg #[(1:Int), (0:Int), .int .i32 (wrap32 n)]) (by simp [results, Tryz.results143, go_sem, zk]) rfl ⟨rfl, HZ.out _ _ _⟩
end Go.Proofs.YtkncilgmlkeifaaGreatDoor
