/-
  Package code: the contract of cut: the fields of a line.
-/
import Derived.Test.YtkncilgmlkeifaaGreatDoorRdr
import Derived.Deep.LoopGhost
import Derived.WalkMore
import Derived.WalkSpells
import Derived.Laws.AppendOwn
import Derived.Lib.IndexBytes
set_option linter.unusedVariables false
set_option linter.unusedSimpArgs false
namespace Go.Proofs.YtkncilgmlkeifaaGreatDoor
open Go.ChangeShapes Go.WideShapes Go.ChangeAt Go.RowKit Go.Shelf

/-- A line cut at its blanks. -/
def splitB : List UInt8 → List (List UInt8)
  | [] => [[]]
  | c :: r => if c = 32 then [] :: splitB r else match splitB r with
    | [] => [[c]]
    | x :: xs => (c :: x) :: xs
theorem splitB_ne (l : List UInt8) : splitB l ≠ [] := by
  cases l with
  | nil => simp [splitB]
  | cons c r =>
    unfold splitB
    split
    · simp
    · split <;> simp
theorem splitB_none : ∀ {l : List UInt8}, (∀ c, c ∈ l → c ≠ 32) → splitB l = [l]
  | [], _ => rfl
  | c :: r, h => by
    have h1 : c ≠ 32 := h c (by simp)
    have h2 := splitB_none (l := r) (fun x hx => h x (by simp [hx]))
    rw [splitB, if_neg h1, h2]
theorem splitB_app : ∀ {p : List UInt8} (q : List UInt8), (∀ c, c ∈ p → c ≠ 32) → splitB (p ++ 32 :: q) = p :: splitB q
  | [], q, _ => by simp [splitB]
  | c :: r, q, h => by
    have h1 : c ≠ 32 := h c (by simp)
    have h2 := splitB_app (p := r) q (fun x hx => h x (by simp [hx]))
    rw [List.cons_append, splitB, if_neg h1, h2]
def cutL (s : ByteArray) : List ByteArray := (splitB s.data.toList).map fun l => ⟨l.toArray⟩
theorem one_newB (w : World) (x : Value) (t : TypeId) : ∀ (j : Nat) (u : Value), ([x] : List Value)[j]? = some u → (w.alloc (.cells #[x] t)).cell? ((⟨w.heap.size, 0, none⟩ : Addr).add j) = some u := by
  intro j u hj
  match j, hj with
  | 0, hj =>
    simp at hj
    subst hj
    simp [Addr.add]
theorem infoStr : (Tryz.prog.info? 9).map (fun i => (i.zero, i.size, i.bytes)) = some (some (.string ByteArray.empty), 1, 16) := by kernel_rfl
theorem fsl_own {w : World} {B : Nat} {v : Value} {n : Nat} {fs : List ByteArray} (h : w.ownsRow B 9 1 v n (fs.map Value.string)) (hn : n = fs.length) : FSl w v fs := by
  subst hn
  rcases h.2 with ⟨rfl, h0⟩ | ⟨g, cap, cur, rfl, hb, hg, hc, hm, hs, ht⟩
  · refine ⟨none, 0, by rw [h0], by omega, fun hp => absurd hp (by omega)⟩
  · refine ⟨_, cap, rfl, hc, fun _ => ⟨g, 0, cur, (0, 0), rfl, hg, fun j hj => ?_⟩⟩
    have h1 : (cur.toList.take (fs.length * 1))[j]? = (fs.map Value.string)[j]? := by rw [ht]
    rw [Nat.mul_one, List.getElem?_take_of_lt hj, List.getElem?_map, List.getElem?_eq_getElem hj] at h1
    rw [Nat.zero_add, ← Array.getElem?_toList, h1, List.getD_eq_getElem?_getD, List.getElem?_eq_getElem hj]
    rfl
theorem cut_last {s t : ByteArray} {acc : List ByteArray} (hI : acc.map (·.data.toList) ++ splitB t.data.toList = splitB s.data.toList) (hN : ∀ j (h : j < t.size), t[j] ≠ 32) : acc ++ [t] = cutL s := by
  have h1 : splitB t.data.toList = [t.data.toList] := splitB_none (fun c hc => by
    obtain ⟨j, hj, rfl⟩ := List.getElem_of_mem hc
    exact hN j (by simpa using hj))
  unfold cutL
  rw [← hI, h1, List.map_append, List.map_map, List.map_cons, List.map_nil]
  congr 1
  exact (List.map_id'' (fun x => rfl) acc).symm
theorem cut_next {s t : ByteArray} {acc : List ByteArray} {k : Nat} (hk : k < t.size) (hI : acc.map (·.data.toList) ++ splitB t.data.toList = splitB s.data.toList) (hN : ∀ j (h : j < t.size), j < k → t[j] ≠ 32) (h32 : t[k] = 32) :
    (acc ++ [t.extract 0 k]).map (·.data.toList) ++ splitB (t.extract (k + 1) t.size).data.toList = splitB s.data.toList := by
  have hl : t.data.toList.length = t.size := Array.length_toList
  have e : t.data.toList = t.data.toList.take k ++ 32 :: t.data.toList.drop (k + 1) := by
    have h2 : t.data.toList[k]'(by omega) = 32 := h32
    rw [← h2, List.getElem_cons_drop, List.take_append_drop]
  have h3 : splitB t.data.toList = t.data.toList.take k :: splitB (t.data.toList.drop (k + 1)) := by
    conv => lhs; rw [e]
    refine splitB_app _ (fun c hc => ?_)
    obtain ⟨j, hj, rfl⟩ := List.getElem_of_mem hc
    have hj2 : j < k ∧ j < t.size := by simp at hj; omega
    rw [List.getElem_take]
    exact hN j hj2.2 hj2.1
  rw [List.map_append, List.map_cons, List.map_nil, Lib.extract_data, Lib.extract_to_end, ← hI, h3]
  simp
set_option maxRecDepth 100000 in
set_option maxHeartbeats 4000000 in
theorem cut_any (s : ByteArray) (w : World) (hs : s.size ≤ 1000000) :
    Calls Tryz.prog 104 #[.string s] w fun e w' => ∃ v, e = .returned v ∧ FSl w' v (cutL s) ∧ Below w.heap.size w w' := by
  obtain ⟨i0, hi, hz0, hz1, hz2⟩ := info_parts infoStr
  go_enter Tryz.func104, Tryz.ntmps104
  go_wp2
  go_step3
  go_wp2
  go_step3
  go_wp2
  go_loopg [0, 3] (s.size + 1) (fun g z0 z3 wx => ∃ (t : ByteArray) (acc : List ByteArray) (v : Value), z0 = .string t ∧ v = z3 ∧ t.size + 1 ≤ g ∧ acc.length + t.size ≤ s.size ∧ Hid (acc.map (·.data.toList) ++ splitB t.data.toList = splitB s.data.toList) ∧ Hid (wx.ownsRow w.heap.size 9 1 v acc.length (acc.map Value.string)) ∧ Hid (Below w.heap.size w wx))
  case atStart => exact ⟨s, [], _, rfl, rfl, Nat.le_refl _, by simp, Lib.hid rfl, Lib.hid (World.ownsRow_nil _ _ _ _), Lib.hid (Below.refl _ _)⟩
  case round =>
    obtain ⟨t, acc, v, rfl, rfl, htg, hacc, HI, HO, HB⟩ := hrel
    cases gk with
    | zero => exact absurd htg (by omega)
    | succ g =>
      obtain ⟨wo, rfl⟩ : ∃ wo : World, wo = wr := ⟨_, rfl⟩
      go_wp2
      go_loopg [0, 3, 4, 7] t.size (fun g2 z0 z3 z4 z7 wx => ∃ k : Nat, z0 = .string t ∧ z3 = v ∧ k + g2 = t.size ∧ z7 = .int .i64 k ∧ Hid (∀ j (h : j < t.size), j < k → t[j] ≠ 32) ∧ wo = wx)
      case atStart => exact ⟨0, rfl, rfl, by omega, rfl, Lib.hid (fun j h hj => absurd hj (by omega)), rfl⟩
      case round =>
        obtain ⟨k, rfl, rfl, hkg, rfl, HN, rfl⟩ := hrel
        cases gk with
        | zero =>
          have hk0 : ¬ ((k : Int) < (t.size : Int)) := by omega
          have HL := Lib.hid (cut_last HI.out (fun j h => HN.out j h (by omega)))
          go_wp2_with (first | (at_builtin; refine wpList_append_own _ rfl _ _ 74 rfl w.heap.size 9 i0 (.string ByteArray.empty) 1 16 Tryz.underlying74 hi hz0 hz1 hz2 rfl (by decide) _ _ _ rfl (HO.out.alloc _) ⟨wo.heap.size, 0, none⟩ 1 1 [.string t] rfl rfl (one_newB _ _ _) (by simp [Value.oneCell']) (by unfold maxLen; omega) (by omega) (by have := HB.out.size; simp; omega) ?_; intro v' w5 hown' hgrow _; have HO5 := Lib.hid hown'; have HB5 := Lib.hid ((HB.out.alloc HB.out.size _).grown hgrow (by have := HB.out.size; simp; omega) (fun k hk => (HO.out.lt k hk).1)); clear hown' hgrow))
          try rw [Exit.noGoto_ret]
          go_ret
          exact ⟨_, rfl, by rw [← HL.out]; exact fsl_own (n := acc.length + 1) (by simpa using HO5.out) (by simp), HB5.out⟩
        | succ g2 =>
          have hk1 : k < t.size := by omega
          obtain ⟨c, hc⟩ : ∃ c, t[k] = c := ⟨_, rfl⟩
          by_cases h32 : c = 32
          · have hb : ((c.toNat : Int) == 32) = true := by rw [h32]; rfl
            have HL := Lib.hid (cut_next hk1 HI.out HN.out (hc.trans h32))
            have hk2 : (t.extract (k + 1) t.size).size ≤ t.size - (k + 1) := by simp [ByteArray.size_extract]
            clear h32
            go_wp2_with (first | (at_builtin; refine wpList_append_own _ rfl _ _ 74 rfl w.heap.size 9 i0 (.string ByteArray.empty) 1 16 Tryz.underlying74 hi hz0 hz1 hz2 rfl (by decide) _ _ _ rfl (HO.out.alloc _) ⟨wo.heap.size, 0, none⟩ 1 1 [.string (t.extract 0 k)] rfl rfl (one_newB _ _ _) (by simp [Value.oneCell']) (by unfold maxLen; omega) (by omega) (by have := HB.out.size; simp; omega) ?_; intro v' w5 hown' hgrow _; have HO5 := Lib.hid hown'; have HB5 := Lib.hid ((HB.out.alloc HB.out.size _).grown hgrow (by have := HB.out.size; simp; omega) (fun k hk => (HO.out.lt k hk).1)); clear hown' hgrow))
            go_roundg g
            case measure => omega
            case rel => exact ⟨t.extract (k + 1) t.size, acc ++ [t.extract 0 k], _, rfl, rfl, by omega, by simp; omega, HL, Lib.hid (by simpa using HO5.out), HB5⟩
          · have hb : ((c.toNat : Int) == 32) = false := by
              rw [beq_eq_false_iff_ne]
              intro e
              have h33 : c.toNat = 32 := by omega
              exact h32 (UInt8.toNat_inj.1 h33)
            have HN2 : Hid (∀ j (h : j < t.size), j < k + 1 → t[j] ≠ 32) := Lib.hid (fun j h hj => by
              by_cases e : j = k
              · subst e; rw [hc]; exact h32
              · exact HN.out j h (by omega))
            clear h32
            go_wp2
            go_roundg g2
            case measure => omega
            case rel => exact ⟨k + 1, rfl, rfl, by omega, by go_num, HN2, rfl⟩
end Go.Proofs.YtkncilgmlkeifaaGreatDoor
