import Derived.Test.YtkncilgmlkeifaaGreatDoorLnp
import Derived.Test.YtkncilgmlkeifaaGreatDoorRpa
import Derived.Deep.LoopGhost
import Derived.WalkMore
import Derived.WalkSpells
import Derived.Laws.AppendOwn
import Derived.Lib.IndexBytes
/-
  Package code: the reader: a line, any word, from state to state; the fields of a new line; stores into other boxes.
-/
set_option linter.unusedVariables false
set_option linter.unusedSimpArgs false
namespace Go.Proofs.YtkncilgmlkeifaaGreatDoor
open Go.ChangeShapes Go.WideShapes Go.ChangeAt Go.RowKit Go.Shelf
section
variable {rb n0 n1 : Nat} {g : Nat -> Value} {qs : List ArV} {ls : List LoV} {init : List BlE} {last : Option BlE} {fs : List ByteArray} {w0 W : World}
theorem RM.keep2 {g' : Nat -> Value} {W' : World} (h : RM rb n0 n1 g qs ls init last W) (hr : W'.rowIs rb 166 9 g') (h5 : g' 5 = g 5) (h6 : g' 6 = g 6) (h7 : g' 7 = g 7)
 (hk : Kept (fun T => T ≠ 166 /\ T ≠ 9) W W') (hs : W.heap.size <= W'.heap.size) : RM rb n0 n1 g' qs ls init last W' := by
 refine ⟨hr, ?_, ?_, ?_, ?_, ?_, ?_⟩
 . rw [h5]; exact row_kept h.arr hk (by decide)
 . rw [h6]; exact row_kept h.loops hk (by decide)
 . rw [h7]; exact row_kept h.blocks hk (by decide)
 . exact fun e he => ⟨row_kept (h.old e he).1 hk (by decide), (h.old e he).2⟩
 . exact fun e he => row_kept (h.new e he) hk (by decide)
 . have := h.hn; omega
theorem RM.box {b : Nat} {C : Array Value} {fr : Nat × Nat} (h : RM rb n0 n1 g qs ls init last W) (hb : W.heap[b]? = some (.cells C 9 fr)) (o : Nat) (u : Value) : RM rb n0 n1 g qs ls init last (W.setCell ⟨b, o, none⟩ u) := by
 refine h.keep2 (h.row.setOther (a := ⟨b, o, none⟩) ?_ u) rfl rfl rfl ?_ (by simp [World.setCell])
 . exact fun e => (row_ne h.row hb (by decide)) e.symm
 . intro k C' T fr' hk hT
   refine Below.heap_setCell W ⟨b, o, none⟩ u k ?_
   rintro rfl
   rw [hb] at hk
   injection hk with hk
   injection hk with _ h2 _
   exact hT.2 h2.symm
theorem RM.setF {v : Value} (h : RM rb n0 n1 g qs ls init last W) (hf : FSl W v fs) (hw : Ch rb rb w0 W) (h0 : w0.heap.size <= n0) : RD rb n0 n1 g qs ls init last fs w0 (W.setCell ⟨rb, 8, none⟩ v) := by
 have hn := h.hn
 refine ⟨v, h.keep2 (h.row.set 8 v) (upd_ne _ _ _ _ (by decide)) (upd_ne _ _ _ _ (by decide)) (upd_ne _ _ _ _ (by decide)) ?_ (by simp [World.setCell]), hf.setR h.row (by decide) 8 v, hw.trans (Ch.set1 rb rb W 8 v), h0⟩
 intro k C T fr hk hT
 exact Below.heap_setCell W ⟨rb, 8, none⟩ v k (row_ne h.row hk (fun e => hT.1 e.symm))
end
structure CdV where
 q : List ArV
 l : List LoV
 b : List (List InstV × TermV)
 n : Nat -> Int
def lineV (c : CdV) (fs : List ByteArray) : CdV :=
 if fldV fs = ⟨#[99, 111, 100, 101]⟩ then { c with n := fun j => if j < 5 then atoiV (fs.tail.getD j ⟨#[]⟩).data.toList else c.n j }
 else if fldV fs = ⟨#[97, 114, 114, 97, 121]⟩ then { c with q := c.q ++ [(fldV fs.tail, atoiV (fs.tail.tail.getD 0 ⟨#[]⟩).data.toList, atoiV (fs.tail.tail.getD 1 ⟨#[]⟩).data.toList, atoiV (fs.tail.tail.getD 2 ⟨#[]⟩).data.toList)] }
 else if fldV fs = ⟨#[108, 111, 111, 112]⟩ then { c with l := c.l ++ [(atoiV (fs.tail.getD 0 ⟨#[]⟩).data.toList, atoiV (fs.tail.getD 1 ⟨#[]⟩).data.toList, atoiV (fs.tail.getD 2 ⟨#[]⟩).data.toList)] }
 else if fldV fs = ⟨#[98, 108, 111, 99, 107]⟩ then { c with b := c.b ++ [([], zeroT)] }
 else match c.b.getLast? with
  | none => c
  | some e => { c with b := c.b.dropLast ++ [((stI (fldV fs) fs.tail e.1 12).2, (stT (fldV fs) (stI (fldV fs) fs.tail e.1 12).1 e.2 5).2)] }
def HC (rb n0 : Nat) (c : CdV) (W : World) : Prop := ∃ n1 g init last, RM rb n0 n1 g c.q c.l init last W /\ (last = none -> init = []) /\ (init ++ last.toList).map (·.2) = c.b /\ ∀ j, j < 5 -> g j = .int .i64 (c.n j)
def HCD (rb n0 : Nat) (c : CdV) (fs : List ByteArray) (w0 W : World) : Prop := ∃ n1 g init last, RD rb n0 n1 g c.q c.l init last fs w0 W /\ (last = none -> init = []) /\ (init ++ last.toList).map (·.2) = c.b /\ ∀ j, j < 5 -> g j = .int .i64 (c.n j)
theorem HC.setF {rb n0 : Nat} {c : CdV} {fs : List ByteArray} {w0 W : World} {v : Value} (h : HC rb n0 c W) (hf : FSl W v fs) (hw : Ch rb rb w0 W) (h0 : w0.heap.size <= n0) : HCD rb n0 c fs w0 (W.setCell ⟨rb, 8, none⟩ v) := by
 obtain ⟨n1, g, init, last, h1, h2, h3, h4⟩ := h
 exact ⟨n1, g, init, last, h1.setF hf hw h0, h2, h3, h4⟩
theorem HCD.hc {rb n0 : Nat} {c : CdV} {fs : List ByteArray} {w0 W : World} (h : HCD rb n0 c fs w0 W) : HC rb n0 c W /\ Ch rb rb w0 W := by
 obtain ⟨n1, g, init, last, ⟨v, h1, _, hb, _⟩, h2, h3, h4⟩ := h
 exact ⟨⟨n1, _, init, last, h1, h2, h3, fun j hj => by rw [upd_ne _ _ _ _ (by omega)]; exact h4 j hj⟩, hb⟩
theorem HC.box {rb n0 b : Nat} {c : CdV} {W : World} {C : Array Value} {fr : Nat × Nat} (h : HC rb n0 c W) (hb : W.heap[b]? = some (.cells C 9 fr)) (o : Nat) (u : Value) : HC rb n0 c (W.setCell ⟨b, o, none⟩ u) := by
 obtain ⟨n1, g, init, last, h1, h2, h3, h4⟩ := h
 exact ⟨n1, g, init, last, h1.box hb o u, h2, h3, h4⟩
theorem updN_five (g : Nat -> Value) (fs : List ByteArray) (j : Nat) (hj : j < 5) : updN g (fun j => j) fs 5 j = .int .i64 (atoiV (fs.getD j ⟨#[]⟩).data.toList) := by
 match j, hj with
 | 0, _ => simp [updN, upd]
 | 1, _ => simp [updN, upd]
 | 2, _ => simp [updN, upd]
 | 3, _ => simp [updN, upd]
 | 4, _ => simp [updN, upd]
theorem rline_any (rb n0 : Nat) (c : CdV) (fs : List ByteArray) (w0 W : World) (h : HCD rb n0 c fs w0 W) (hE : EnvX rb w0) (hl : fs.length <= 1000000) (hsz : ∀ s, s ∈ fs -> s.size <= 281474976710656) (hq : c.q.length <= 1000000) (hlo : c.l.length <= 1000000) (hbl : c.b.length <= 1000000) (hbi : ∀ e, e ∈ c.b -> e.1.length <= 1000000) :
 Calls Tryz.prog 106 #[.pointer (some ⟨rb, 0, none⟩)] W fun e w' => (∃ v, e = .returned v) /\ ∃ fs', HCD rb n0 (lineV c fs) fs' w0 w' := by
 obtain ⟨n1, g, init, last, h1, h2, h3, h4⟩ := h
 have hlen : (init ++ last.toList).length = c.b.length := by rw [<- h3, List.length_map]
 by_cases k1 : fldV fs = ⟨#[99, 111, 100, 101]⟩
 . refine (line_code rb n0 n1 g c.q c.l init last fs w0 W h1 hE hl hsz k1).mono ?_
   rintro e w' ⟨he, hd⟩
   refine ⟨he, _, n1, _, init, last, by rw [lineV, if_pos k1]; exact hd, h2, by rw [lineV, if_pos k1]; exact h3, fun j hj => ?_⟩
   rw [lineV, if_pos k1, updN_five g _ j hj]
   simp [hj]
 by_cases k2 : fldV fs = ⟨#[97, 114, 114, 97, 121]⟩
 . refine (line_array rb n0 n1 g c.q c.l init last fs w0 W h1 hE hl hsz hq k2).mono ?_
   rintro e w' ⟨he, v, hd⟩
   refine ⟨he, _, n1, _, init, last, by rw [lineV, if_neg k1, if_pos k2]; exact hd, h2, by rw [lineV, if_neg k1, if_pos k2]; exact h3, fun j hj => ?_⟩
   rw [lineV, if_neg k1, if_pos k2, upd_ne _ _ _ _ (by omega)]
   exact h4 j hj
 by_cases k3 : fldV fs = ⟨#[108, 111, 111, 112]⟩
 . refine (line_loop rb n0 n1 g c.q c.l init last fs w0 W h1 hE hl hsz hlo k3).mono ?_
   rintro e w' ⟨he, v, hd⟩
   refine ⟨he, _, n1, _, init, last, by rw [lineV, if_neg k1, if_neg k2, if_pos k3]; exact hd, h2, by rw [lineV, if_neg k1, if_neg k2, if_pos k3]; exact h3, fun j hj => ?_⟩
   rw [lineV, if_neg k1, if_neg k2, if_pos k3, upd_ne _ _ _ _ (by omega)]
   exact h4 j hj
 by_cases k4 : fldV fs = ⟨#[98, 108, 111, 99, 107]⟩
 . refine (line_block rb n0 n1 g c.q c.l init last fs w0 W h1 hl (by omega) k4).mono ?_
   rintro e w' ⟨he, v, n1', hd⟩
   refine ⟨he, _, n1', _, init ++ last.toList, some (.slice none 0 0, [], zeroT), by rw [lineV, if_neg k1, if_neg k2, if_neg k3, if_pos k4]; exact hd, (fun hh => by cases hh), ?_, fun j hj => ?_⟩
   . rw [lineV, if_neg k1, if_neg k2, if_neg k3, if_pos k4, List.map_append, h3]
     rfl
   . rw [lineV, if_neg k1, if_neg k2, if_neg k3, if_pos k4, upd_ne _ _ _ _ (by omega)]
     exact h4 j hj
 cases last with
 | none =>
  obtain rfl := h2 rfl
  have hb0 : c.b = [] := by rw [<- h3]; rfl
  have hv : lineV c fs = c := by rw [lineV, if_neg k1, if_neg k2, if_neg k3, if_neg k4, hb0]; rfl
  rw [hv]
  refine (line_none rb n0 n1 g c.q c.l fs w0 W h1 hl k1 k2 k3 k4).mono ?_
  rintro e w' ⟨he, hd⟩
  exact ⟨he, _, n1, g, [], none, hd, h2, h3, h4⟩
 | some e =>
  have hb : c.b = init.map (·.2) ++ [e.2] := by rw [<- h3]; simp [Option.toList]
  have hv : lineV c fs = { c with b := init.map (·.2) ++ [((stI (fldV fs) fs.tail e.2.1 12).2, (stT (fldV fs) (stI (fldV fs) fs.tail e.2.1 12).1 e.2.2 5).2)] } := by
   rw [lineV, if_neg k1, if_neg k2, if_neg k3, if_neg k4, hb]
   simp
  rw [hv]
  have hil : init.length <= 1000000 := by
   rw [hb] at hbl
   simp at hbl
   omega
  refine (line_part rb n0 n1 g c.q c.l init fs w0 W e h1 hE hl hsz (hbi e.2 (by rw [hb]; simp)) hil k1 k2 k3 k4).mono ?_
  rintro e1 w' ⟨he, v, hd⟩
  exact ⟨he, _, n1, g, init, some (v, _, _), hd, (fun hh => by cases hh), by simp [Option.toList], h4⟩
def splitB : List UInt8 -> List (List UInt8)
 | [] => [[]]
 | c :: r => if c = 32 then [] :: splitB r else match splitB r with
  | [] => [[c]]
  | x :: xs => (c :: x) :: xs
theorem splitB_ne (l : List UInt8) : splitB l ≠ [] := by
 cases l with
 | nil => simp [splitB]
 | cons c r =>
  unfold splitB
  split
  . simp
  . split <;> simp
theorem splitB_none : ∀ {l : List UInt8}, (∀ c, c ∈ l -> c ≠ 32) -> splitB l = [l]
 | [], _ => rfl
 | c :: r, h => by
  have h1 : c ≠ 32 := h c (by simp)
  have h2 := splitB_none (l := r) (fun x hx => h x (by simp [hx]))
  rw [splitB, if_neg h1, h2]
theorem splitB_app : ∀ {p : List UInt8} (q : List UInt8), (∀ c, c ∈ p -> c ≠ 32) -> splitB (p ++ 32 :: q) = p :: splitB q
 | [], q, _ => by simp [splitB]
 | c :: r, q, h => by
  have h1 : c ≠ 32 := h c (by simp)
  have h2 := splitB_app (p := r) q (fun x hx => h x (by simp [hx]))
  rw [List.cons_append, splitB, if_neg h1, h2]
def cutL (s : ByteArray) : List ByteArray := (splitB s.data.toList).map fun l => ⟨l.toArray⟩
theorem one_newB (w : World) (x : Value) (t : TypeId) : ∀ (j : Nat) (u : Value), ([x] : List Value)[j]? = some u -> (w.alloc (.cells #[x] t)).cell? ((⟨w.heap.size, 0, none⟩ : Addr).add j) = some u := by
 intro j u hj
 match j, hj with
 | 0, hj =>
  simp at hj
  subst hj
  simp [Addr.add]
theorem infoStr : (Tryz.prog.info? 9).map (fun i => (i.zero, i.size, i.bytes)) = some (some (.string ByteArray.empty), 1, 16) := by kernel_rfl
theorem fsl_own {w : World} {B : Nat} {v : Value} {n : Nat} {fs : List ByteArray} (h : w.ownsRow B 9 1 v n (fs.map Value.string)) (hn : n = fs.length) : FSl w v fs := by
 subst hn
 rcases h.2 with ⟨rfl, h0⟩ | ⟨g, cap, cur, rfl, hb, hg, hc, hm, hs, ht⟩
 . refine ⟨none, 0, by rw [h0], by omega, fun hp => absurd hp (by omega)⟩
 . refine ⟨_, cap, rfl, hc, fun _ => ⟨g, 0, cur, (0, 0), rfl, hg, fun j hj => ?_⟩⟩
   have h1 : (cur.toList.take (fs.length * 1))[j]? = (fs.map Value.string)[j]? := by rw [ht]
   rw [Nat.mul_one, List.getElem?_take_of_lt hj, List.getElem?_map, List.getElem?_eq_getElem hj] at h1
   rw [Nat.zero_add, <- Array.getElem?_toList, h1, List.getD_eq_getElem?_getD, List.getElem?_eq_getElem hj]
   rfl
theorem cut_last {s t : ByteArray} {acc : List ByteArray} (hI : acc.map (·.data.toList) ++ splitB t.data.toList = splitB s.data.toList) (hN : ∀ j (h : j < t.size), t[j] ≠ 32) : acc ++ [t] = cutL s := by
 have h1 : splitB t.data.toList = [t.data.toList] := splitB_none (fun c hc => by
  obtain ⟨j, hj, rfl⟩ := List.getElem_of_mem hc
  exact hN j (by simpa using hj))
 unfold cutL
 rw [<- hI, h1, List.map_append, List.map_map, List.map_cons, List.map_nil]
 congr 1
 exact (List.map_id'' (fun x => rfl) acc).symm
theorem cut_next {s t : ByteArray} {acc : List ByteArray} {k : Nat} (hk : k < t.size) (hI : acc.map (·.data.toList) ++ splitB t.data.toList = splitB s.data.toList) (hN : ∀ j (h : j < t.size), j < k -> t[j] ≠ 32) (h32 : t[k] = 32) :
 (acc ++ [t.extract 0 k]).map (·.data.toList) ++ splitB (t.extract (k + 1) t.size).data.toList = splitB s.data.toList := by
 have hl : t.data.toList.length = t.size := Array.length_toList
 have e : t.data.toList = t.data.toList.take k ++ 32 :: t.data.toList.drop (k + 1) := by
  have h2 : t.data.toList[k]'(by omega) = 32 := h32
  rw [<- h2, List.getElem_cons_drop, List.take_append_drop]
 have h3 : splitB t.data.toList = t.data.toList.take k :: splitB (t.data.toList.drop (k + 1)) := by
  conv => lhs; rw [e]
  refine splitB_app _ (fun c hc => ?_)
  obtain ⟨j, hj, rfl⟩ := List.getElem_of_mem hc
  have hj2 : j < k /\ j < t.size := by simp at hj; omega
  rw [List.getElem_take]
  exact hN j hj2.2 hj2.1
 rw [List.map_append, List.map_cons, List.map_nil, Lib.extract_data, Lib.extract_to_end, <- hI, h3]
 simp
set_option maxRecDepth 100000 in
set_option maxHeartbeats 4000000 in
theorem cut_any (s : ByteArray) (w : World) (hs : s.size <= 1000000) :
 Calls Tryz.prog 104 #[.string s] w fun e w' => ∃ v, e = .returned v /\ FSl w' v (cutL s) /\ Below w.heap.size w w' := by
 obtain ⟨i0, hi, hz0, hz1, hz2⟩ := info_parts infoStr
 go_enter Tryz.func104, Tryz.ntmps104
 go_wp2
 go_step3
 go_wp2
 go_step3
 go_wp2
 go_loopg [0, 3] (s.size + 1) (fun g z0 z3 wx => ∃ (t : ByteArray) (acc : List ByteArray) (v : Value), z0 = .string t /\ v = z3 /\ t.size + 1 <= g /\ acc.length + t.size <= s.size /\ Hid (acc.map (·.data.toList) ++ splitB t.data.toList = splitB s.data.toList) /\ Hid (wx.ownsRow w.heap.size 9 1 v acc.length (acc.map Value.string)) /\ Hid (Below w.heap.size w wx))
 case atStart => exact ⟨s, [], _, rfl, rfl, Nat.le_refl _, by simp, lh rfl, lh (World.ownsRow_nil _ _ _ _), lh (Below.refl _ _)⟩
 case round =>
  obtain ⟨t, acc, v, rfl, rfl, htg, hacc, HI, HO, HB⟩ := hrel
  cases gk with
  | zero => exact absurd htg (by omega)
  | succ g =>
   obtain ⟨wo, rfl⟩ : ∃ wo : World, wo = wr := ⟨_, rfl⟩
   go_wp2
   go_loopg [0, 3, 4, 7] t.size (fun g2 z0 z3 z4 z7 wx => ∃ k : Nat, z0 = .string t /\ z3 = v /\ k + g2 = t.size /\ z7 = .int .i64 k /\ Hid (∀ j (h : j < t.size), j < k -> t[j] ≠ 32) /\ wo = wx)
   case atStart => exact ⟨0, rfl, rfl, by omega, rfl, lh (fun j h hj => absurd hj (by omega)), rfl⟩
   case round =>
    obtain ⟨k, rfl, rfl, hkg, rfl, HN, rfl⟩ := hrel
    cases gk with
    | zero =>
     have hk0 : ¬ ((k : Int) < (t.size : Int)) := by omega
     have HL := lh (cut_last HI.out (fun j h => HN.out j h (by omega)))
     go_wp2_with (first | (at_builtin; refine wpList_append_own _ rfl _ _ 74 rfl w.heap.size 9 i0 (.string ByteArray.empty) 1 16 Tryz.underlying74 hi hz0 hz1 hz2 rfl (by decide) _ _ _ rfl (HO.out.alloc _) ⟨wo.heap.size, 0, none⟩ 1 1 [.string t] rfl rfl (one_newB _ _ _) (by simp [Value.oneCell']) (by unfold maxLen; omega) (by omega) (by have := HB.out.size; simp; omega) ?_; intro v' w5 hown' hgrow _; have HO5 := lh hown'; have HB5 := lh ((HB.out.alloc HB.out.size _).grown hgrow (by have := HB.out.size; simp; omega) (fun k hk => (HO.out.lt k hk).1)); clear hown' hgrow))
     try rw [Exit.noGoto_ret]
     go_ret
     exact ⟨_, rfl, by rw [<- HL.out]; exact fsl_own (n := acc.length + 1) (by simpa using HO5.out) (by simp), HB5.out⟩
    | succ g2 =>
     have hk1 : k < t.size := by omega
     obtain ⟨c, hc⟩ : ∃ c, t[k] = c := ⟨_, rfl⟩
     by_cases h32 : c = 32
     . have hb : ((c.toNat : Int) == 32) = true := by rw [h32]; rfl
       have HL := lh (cut_next hk1 HI.out HN.out (hc.trans h32))
       have hk2 : (t.extract (k + 1) t.size).size <= t.size - (k + 1) := by simp [ByteArray.size_extract]
       clear h32
       go_wp2_with (first | (at_builtin; refine wpList_append_own _ rfl _ _ 74 rfl w.heap.size 9 i0 (.string ByteArray.empty) 1 16 Tryz.underlying74 hi hz0 hz1 hz2 rfl (by decide) _ _ _ rfl (HO.out.alloc _) ⟨wo.heap.size, 0, none⟩ 1 1 [.string (t.extract 0 k)] rfl rfl (one_newB _ _ _) (by simp [Value.oneCell']) (by unfold maxLen; omega) (by omega) (by have := HB.out.size; simp; omega) ?_; intro v' w5 hown' hgrow _; have HO5 := lh hown'; have HB5 := lh ((HB.out.alloc HB.out.size _).grown hgrow (by have := HB.out.size; simp; omega) (fun k hk => (HO.out.lt k hk).1)); clear hown' hgrow))
       go_roundg g
       case measure => omega
       case rel => exact ⟨t.extract (k + 1) t.size, acc ++ [t.extract 0 k], _, rfl, rfl, by omega, by simp; omega, HL, lh (by simpa using HO5.out), HB5⟩
     . have hb : ((c.toNat : Int) == 32) = false := by
        rw [beq_eq_false_iff_ne]
        intro e
        have h33 : c.toNat = 32 := by omega
        exact h32 (UInt8.toNat_inj.1 h33)
       have HN2 : Hid (∀ j (h : j < t.size), j < k + 1 -> t[j] ≠ 32) := lh (fun j h hj => by
        by_cases e : j = k
        . subst e; rw [hc]; exact h32
        . exact HN.out j h (by omega))
       clear h32
       go_wp2
       go_roundg g2
       case measure => omega
       case rel => exact ⟨k + 1, rfl, rfl, by omega, by go_num, HN2, rfl⟩
end Go.Proofs.YtkncilgmlkeifaaGreatDoor
