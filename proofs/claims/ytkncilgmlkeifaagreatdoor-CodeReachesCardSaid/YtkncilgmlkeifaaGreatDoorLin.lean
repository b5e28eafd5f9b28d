import Derived.Test.YtkncilgmlkeifaaGreatDoorBld
import Derived.Test.YtkncilgmlkeifaaGreatDoorShelf
import Derived.Test.YtkncilgmlkeifaaGreatDoorForm
import Derived.Lib.ItoaLen
import Derived.Lib.AppendIntMem
import Derived.Deep.RegionWith
import Derived.Deep.RegionHeld3
/-
  Package code: the writer: what it holds; contracts of number, operand, line.
-/
set_option linter.unusedVariables false
set_option linter.unusedSimpArgs false
namespace Go.Proofs.YtkncilgmlkeifaaGreatDoor
open Go.ChangeShapes Go.WideShapes Go.ChangeAt Go.RowKit Go.Shelf

/-- The library's table of powers of ten. -/
def EnvT (w : World) : Prop := Lib.TabIs Tryz.prog w "internal/strconv.uint64pow10" .u64 Lib.pow10Tab
theorem EnvT.on {w w' : World} (h : EnvT w) (hb : Below w.heap.size w w') : EnvT w' := Lib.tabBelow_of_tabIs h w' hb
theorem grown_of_below {w w' : World} (hb : Below w.heap.size w w') (row : Option Nat) : w.grownBy w' row := ⟨hb.os, hb.tape, hb.output, hb.size, fun i hi _ => hb.block i hi⟩
theorem wr_on {T e : TypeId} {B b : Nat} {bs : List Value} {w w' : World} (h : Lib.IsBuilderF T e B b bs w) (hb : Below w.heap.size w w') : Lib.IsBuilderF T e B b bs w' := by
  have k : ∀ p, Lib.BuilderAtF T e B b p bs w → Lib.BuilderAtF T e B b p bs w' := fun p hA => by
    have hlt := hA.lt
    obtain ⟨hB, v, hbk, hown, hne⟩ := hA
    exact ⟨hB, v, (hb.block b hlt).trans hbk, hown.kept (grown_of_below hb none) (by cases hv : v.ownBlock <;> simp), hne⟩
  exact h.elim (fun x => .inl (k _ x)) (fun x => .inr (k _ x))
theorem others_of_below {e : TypeId} {b : Option Nat} {w w' : World} (hb : Below w.heap.size w w') : Lib.OthersKept e b w w' := fun k o hk _ _ => (hb.block k (Array.getElem?_eq_some_iff.1 hk).1).trans hk
/-- The writer in block b holds the bytes l; below w0's heap nothing has turned. -/
structure WS (w0 : World) (b : Nat) (l : List UInt8) (w : World) : Prop where
  wr : Lib.IsBuilderF 102 5 w0.heap.size b (Lib.byteCells l) w
  on : Below w0.heap.size w0 w
theorem WS.step {w0 w w' : World} {b : Nat} {l : List UInt8} (h : WS w0 b l w) (hb : Below w.heap.size w w') : WS w0 b l w' := ⟨wr_on h.wr hb, h.on.trans (hb.mono h.on.size)⟩
theorem WS.drew {w0 w : World} {b : Nat} {l : List UInt8} (h : WS w0 b l w) : WS w0 b l w.drew := ⟨h.wr, h.on.drew⟩
/-- What a call of the writer leaves. -/
structure WQ (w0 : World) (b : Nat) (l : List UInt8) (w w' : World) : Prop where
  ws : WS w0 b l w'
  kept : Lib.OthersKept 5 (some b) w w'
theorem WQ.after {w0 w w1 w' : World} {b : Nat} {l : List UInt8} (h : WQ w0 b l w1 w') (hb : Below w.heap.size w w1) : WQ w0 b l w w' := ⟨h.ws, (others_of_below hb).trans h.kept⟩
theorem WQ.next {w0 w w1 w' : World} {b : Nat} {l l' : List UInt8} (h : WQ w0 b l w w1) (k : WQ w0 b l' w1 w') : WQ w0 b l' w w' := ⟨k.ws, h.kept.trans k.kept⟩
theorem ws_str {w0 w : World} {b : Nat} {l : List UInt8} (s : ByteArray) (h : WS w0 b l w) (hlen : l.length + s.size ≤ 140737488355328) :
    Calls Tryz.prog 83 #[.pointer (some ⟨b, 0, none⟩), .string s] w fun e w' => (∃ v, e = .returned v) ∧ WQ w0 b (l ++ s.data.toList) w w' := by
  refine (wstr_any w0.heap.size b _ s w h.wr (by rw [Lib.byteCells_length]; exact hlen) h.on.size).mono ?_
  rintro e w' ⟨rfl, hA, hb, hk⟩
  refine ⟨⟨_, rfl⟩, ⟨⟨?_, h.on.trans hb⟩, hk⟩⟩
  have e1 : Lib.byteCells (l ++ s.data.toList) = Lib.byteCells l ++ Lib.strCells s := by simp [Lib.byteCells, Lib.strCells]
  rw [e1]
  exact .inr hA
theorem ws_lf {w0 w : World} {b : Nat} {l : List UInt8} (h : WS w0 b l w) (hlen : l.length + 1 ≤ 140737488355328) :
    Calls Tryz.prog 85 #[.pointer (some ⟨b, 0, none⟩), .int .u8 10] w fun e w' => (∃ v, e = .returned v) ∧ WQ w0 b (l ++ [10]) w w' := by
  refine (wbyte_any w0.heap.size b _ 10 w h.wr (by rw [Lib.byteCells_length]; exact hlen) h.on.size).mono ?_
  rintro e w' ⟨rfl, hA, hb, hk⟩
  refine ⟨⟨_, rfl⟩, ⟨⟨?_, h.on.trans hb⟩, hk⟩⟩
  have e1 : Lib.byteCells (l ++ [10]) = Lib.byteCells l ++ [.int .u8 10] := by simp [Lib.byteCells]
  rw [e1]
  exact .inr hA
def I64 (n : Int) : Prop := -9223372036854775808 ≤ n ∧ n ≤ 9223372036854775807
theorem itoa_c {w : World} (n : Int) (hn : I64 n) (hE : EnvT w) :
    Calls Tryz.prog 122 #[.int .i64 n] w fun e w' => e = .returned (.string ⟨(Lib.itoa n).toArray⟩) ∧ Below w.heap.size w w' := by
  refine (Tryz.strconv_Itoa n hn.1 hn.2 w hE).mono ?_
  rintro e w' ⟨rfl, k, os, rfl⟩
  exact ⟨rfl, Lib.below_grow _ _ (Nat.le_refl _) _ _⟩
theorem bapp (p q : Array UInt8) : ((⟨p⟩ : ByteArray) ++ ⟨q⟩ : ByteArray).data.toList = p.toList ++ q.toList := by
  simp [ByteArray.data_append]
theorem bapp_size (p q : Array UInt8) : ((⟨p⟩ : ByteArray) ++ ⟨q⟩ : ByteArray).size = p.size + q.size := by
  show (_ : Array UInt8).size = _
  simp [ByteArray.data_append]
/-- The text of a sum of two strings. -/
theorem ws_sum {w0 w : World} {b : Nat} {l : List UInt8} (p q : Array UInt8) (h : WS w0 b l w) (hlen : l.length + (p.size + q.size) ≤ 140737488355328) :
    Calls Tryz.prog 83 #[.pointer (some ⟨b, 0, none⟩), .string (⟨p⟩ ++ ⟨q⟩)] w fun e w' => (∃ v, e = .returned v) ∧ WQ w0 b (l ++ (p.toList ++ q.toList)) w w' := by
  have H := ws_str (⟨p⟩ ++ ⟨q⟩) h (by rw [bapp_size]; exact hlen)
  rw [bapp] at H
  exact H
set_option maxRecDepth 100000 in
set_option maxHeartbeats 1000000 in
theorem number_any {w0 w : World} {b : Nat} {l : List UInt8} (n : Int) (hn : I64 n) (hE : EnvT w0) (h : WS w0 b l w) (hlen : l.length + 30 ≤ 140737488355328) :
    Calls Tryz.prog 84 #[.pointer (some ⟨b, 0, none⟩), .int .i64 n] w fun e w' => (∃ v, e = .returned v) ∧ WQ w0 b (l ++ 32 :: Lib.itoa n) w w' := by
  have hl := Lib.itoa_length_le n hn.1 hn.2
  have HI := Lib.hid (fun (W : World) (hW : WS w0 b l W) => itoa_c (w := W) n hn (hE.on hW.on))
  have HS := Lib.hid (fun (W : World) (hW : WS w0 b l W) => ws_sum (w := W) #[32] (Lib.itoa n).toArray hW (by simp; omega))
  have HW := Lib.hid h
  clear hn hE h hlen
  go_enter Tryz.func84, Tryz.ntmps84
  go_wp2
  go_region_with (first | (go_at_call 122; (with_reducible refine (HI.out _ HW.out.drew).mono ?_); rintro e w1 ⟨rfl, hb1⟩; have HX := Lib.hid (HW.out.drew.step hb1); have HB1 := Lib.hid ((Below.refl w.heap.size w).drew.trans hb1); clear hb1) | (go_at_call 83; (with_reducible refine (HS.out _ HX.out).mono ?_); rintro e w2 ⟨⟨v, rfl⟩, hq⟩; have HQ := Lib.hid (hq.after HB1.out); clear hq))
  all_goals
    go_wp2
    go_end0
    exact ⟨⟨_, rfl⟩, HQ.out⟩
/-- The text of an operand, behind a blank. -/
def opdT (o : OpdV) : List UInt8 := if o.k = 1 then 32 :: Lib.itoa o.v else 32 :: 114 :: Lib.itoa o.n
set_option maxRecDepth 100000 in
set_option maxHeartbeats 1000000 in
theorem operand_any {w0 w : World} {b : Nat} {l : List UInt8} (k n v : Int) (hn : I64 n) (hv : -2147483648 ≤ v ∧ v ≤ 2147483647) (hE : EnvT w0) (h : WS w0 b l w) (hlen : l.length + 30 ≤ 140737488355328) :
    Calls Tryz.prog 126 #[.pointer (some ⟨b, 0, none⟩), .agg #[.int .i64 k, .int .i64 n, .int .i32 v]] w fun e w' => (∃ v, e = .returned v) ∧ WQ w0 b (l ++ opdT ⟨k, n, v⟩) w w' := by
  have hal : ∀ o, Below w.heap.size w (w.alloc o) := fun o => (Below.refl _ _).alloc (Nat.le_refl _) o
  have HAL := Lib.hid hal
  have HW := Lib.hid h
  unfold opdT
  by_cases hk : k = 1
  · subst hk
    rw [if_pos rfl]
    have HN := Lib.hid (fun (W : World) (hW : WS w0 b l W) => number_any (w := W) v ⟨by omega, by omega⟩ hE hW hlen)
    clear hal hE h hlen hn
    obtain ⟨hv1, hv2⟩ := hv
    go_enter Tryz.func126, Tryz.ntmps126
    go_wp2_with (first | (go_at_call 84; (with_reducible refine (HN.out _ (HW.out.step (HAL.out _))).mono ?_); rintro e w1 ⟨⟨v, rfl⟩, hq⟩; have HQ := Lib.hid (hq.after (HAL.out _)); clear hq))
    exact bodyPost_ret (results_none rfl _ _ _) rfl ⟨⟨_, rfl⟩, HQ.out⟩
  · rw [if_neg hk]
    have hk2 : (k == 1) = false := by simpa using hk
    have hl := Lib.itoa_length_le n hn.1 hn.2
    have HI := Lib.hid (fun (W : World) (hW : WS w0 b l W) => itoa_c (w := W) n hn (hE.on hW.on))
    have HS := Lib.hid (fun (W : World) (hW : WS w0 b l W) => ws_sum (w := W) #[32, 114] (Lib.itoa n).toArray hW (by simp; omega))
    clear hal hE h hlen hn hk
    go_enter Tryz.func126, Tryz.ntmps126
    go_wp2
    go_region_with (first | (go_at_call 122; (with_reducible refine (HI.out _ (HW.out.step (HAL.out _)).drew).mono ?_); rintro e w1 ⟨rfl, hb1⟩; have HX := Lib.hid ((HW.out.step (HAL.out _)).drew.step hb1); have HB1 := Lib.hid ((HAL.out _).drew.trans (hb1.mono (by simp))); clear hb1) | (go_at_call 83; (with_reducible refine (HS.out _ HX.out).mono ?_); rintro e w2 ⟨⟨v, rfl⟩, hq⟩; have HQ := Lib.hid (hq.after HB1.out); clear hq))
    all_goals
      go_wp2
      go_end0
      exact ⟨⟨_, rfl⟩, HQ.out⟩
end Go.Proofs.YtkncilgmlkeifaaGreatDoor
/-
  Package code: the writer: contracts of line, and of the closures in parts.
-/
set_option linter.unusedVariables false
set_option linter.unusedSimpArgs false
namespace Go.Proofs.YtkncilgmlkeifaaGreatDoor
open Go.ChangeShapes Go.WideShapes Go.ChangeAt Go.RowKit Go.Shelf

theorem cell_blk {w : World} {b i : Nat} {C : Array Value} {T : TypeId} {fr : Nat × Nat} {v : Value} (h : w.heap[b]? = some (.cells C T fr)) (hv : C[i]? = some v) : w.cell? ⟨b, i, none⟩ = some v := by simp [World.cell?, h, hv]
/-- A slice of integers in a block that is not the writer's. -/
def RIk (w : World) (b : Nat) (A : Option Addr) (n : Nat) (f : Nat → Int) : Prop :=
  0 < n → ∃ bb off C T fr, A = some ⟨bb, off, none⟩ ∧ bb ≠ b ∧ w.heap[bb]? = some (.cells C T fr) ∧ T ≠ 5 ∧ ∀ j, j < n → C[off + j]? = some (.int .i64 (f j))
theorem kept_blk {w w' : World} {b bb : Nat} {C : Array Value} {T : TypeId} {fr : Nat × Nat} (hk : Lib.OthersKept 5 (some b) w w') (h : w.heap[bb]? = some (.cells C T fr)) (hb : bb ≠ b) (hT : T ≠ 5) : w'.heap[bb]? = some (.cells C T fr) :=
  hk bb _ h (fun e => hb (by injection e)) (fun c fz e => by injection e with _ e2 _; exact hT e2)
theorem RIk.kept {w w' : World} {b : Nat} {A : Option Addr} {n : Nat} {f : Nat → Int} (h : RIk w b A n f) (hk : Lib.OthersKept 5 (some b) w w') : RIk w' b A n f := fun hn => by
  obtain ⟨bb, off, C, T, fr, e, hb, hh, hT, hc⟩ := h hn
  exact ⟨bb, off, C, T, fr, e, hb, kept_blk hk hh hb hT, hT, hc⟩
/-- The text of the first k numbers. -/
def numsT (f : Nat → Int) : Nat → List UInt8
  | 0 => []
  | k + 1 => numsT f k ++ 32 :: Lib.itoa (f k)
theorem numsT_len {f : Nat → Int} {n : Nat} (h : ∀ j, j < n → I64 (f j)) : ∀ k, k ≤ n → (numsT f k).length ≤ k * 30
  | 0, _ => Nat.le_refl _
  | k + 1, hk => by
    have h1 := numsT_len h k (by omega)
    have h2 := Lib.itoa_length_le (f k) (h k (by omega)).1 (h k (by omega)).2
    simp only [numsT, List.length_append, List.length_cons]
    omega
set_option maxRecDepth 100000 in
set_option maxHeartbeats 2000000 in
theorem line_any {w0 w : World} {b : Nat} {l : List UInt8} (words : ByteArray) (A : Option Addr) (n c : Nat) (f : Nat → Int) (hn : n ≤ 1000) (hf : ∀ j, j < n → I64 (f j)) (hR : RIk w b A n f) (hE : EnvT w0) (h : WS w0 b l w) (hlen : l.length + words.size + n * 30 + 100 ≤ 140737488355328) :
    Calls Tryz.prog 48 #[.pointer (some ⟨b, 0, none⟩), .string words, .slice A n c] w fun e w' => (∃ v, e = .returned v) ∧ WQ w0 b (l ++ words.data.toList ++ numsT f n ++ [10]) w w' := by
  have hw : words.data.toList.length = words.size := by rw [Array.length_toList]; rfl
  have HL := Lib.hid (numsT_len hf)
  have HS := Lib.hid (ws_str words h (by omega))
  have HN := Lib.hid (fun (k : Nat) (W : World) (hk : k < n) (hW : WS w0 b (l ++ words.data.toList ++ numsT f k) W) => number_any (w := W) (f k) (hf k hk) hE hW (by
    have := HL.out k (by omega)
    simp only [List.length_append, hw]
    omega))
  have HB := Lib.hid (fun (W : World) (hW : WS w0 b (l ++ words.data.toList ++ numsT f n) W) => ws_lf (w := W) hW (by
    have := HL.out n (by omega)
    simp only [List.length_append, hw]
    omega))
  have HR := Lib.hid hR
  clear hf hR hE h hw HL
  go_enter Tryz.func48, Tryz.ntmps48
  go_wp2_with (first | (go_at_call 83; (with_reducible refine HS.out.mono ?_); rintro e w1 ⟨⟨v, rfl⟩, hq⟩; have HQ := Lib.hid hq; clear hq))
  go_loopw [7, 15] (fun x i wr => ∃ k : Nat, k ≤ n ∧ i = .int .i64 k ∧ Hid (WQ w0 b (l ++ words.data.toList ++ numsT f k) w wr)) (fun _ i _ => n - (intOf i).toNat)
  case atStart => exact ⟨0, Nat.zero_le _, rfl, Lib.hid (by rw [numsT, List.append_nil]; exact HQ.out)⟩
  case round =>
    obtain ⟨k, hk, rfl, HK⟩ := hrel
    by_cases hlt : k < n
    · obtain ⟨bb, off, C, T, fr, rfl, hbb, hh, hT, hc⟩ := (HR.out.kept HK.out.kept) (by omega)
      have m0 := cell_blk hh (hc k hlt)
      clear hh hc hbb hT
      have HX := Lib.hid (HN.out k wr hlt HK.out.ws)
      go_wp2_with (first | (go_at_call 84; (with_reducible refine HX.out.mono ?_); rintro e w2 ⟨⟨v2, rfl⟩, hq⟩; have HQ2 := Lib.hid (HK.out.next hq); clear hq))
      go_roundw
      case rel => exact ⟨k + 1, by omega, by go_num, Lib.hid (by rw [numsT, ← List.append_assoc]; exact HQ2.out)⟩
      case measure => simp [intOf]; omega
    · obtain rfl : k = n := by omega
      have HX := Lib.hid (HB.out wr HK.out.ws)
      go_wp2_with (first | (go_at_call 85; (with_reducible refine HX.out.mono ?_); rintro e w2 ⟨⟨v2, rfl⟩, hq⟩; have HQ2 := Lib.hid (HK.out.next hq); clear hq))
      go_end0
      exact ⟨⟨_, rfl⟩, HQ2.out⟩
set_option maxRecDepth 100000 in
set_option maxHeartbeats 1000000 in
theorem w124_any {w0 w : World} {b : Nat} {l : List UInt8} (cb pb o : Nat) (n : Int) (hc : w.cell? ⟨cb, 0, none⟩ = some (.pointer (some ⟨b, 0, none⟩))) (hp : w.cell? ⟨pb, o, none⟩ = some (.int .i64 n)) (hn : I64 n) (hE : EnvT w0) (h : WS w0 b l w) (hlen : l.length + 30 ≤ 140737488355328) :
    Calls Tryz.prog 124 #[.pointer (some ⟨pb, o, none⟩), .pointer (some ⟨cb, 0, none⟩)] w fun e w' => (∃ v, e = .returned v) ∧ WQ w0 b (l ++ 32 :: Lib.itoa n) w w' := by
  have HN := Lib.hid (number_any (w := w.drew) n hn hE h.drew hlen)
  clear hE h hlen hn
  go_enter Tryz.func124, Tryz.ntmps124
  go_wp2
  go_region_with (first | (go_at_call 84; (with_reducible refine HN.out.mono ?_); rintro e w1 ⟨⟨v, rfl⟩, hq⟩; have HQ := Lib.hid (hq.after ((Below.refl w.heap.size w).drew)); clear hq))
  all_goals
    go_wp2
    go_end0
    exact ⟨⟨_, rfl⟩, HQ.out⟩
set_option maxRecDepth 100000 in
set_option maxHeartbeats 1000000 in
theorem w125_any {w0 w : World} {b : Nat} {l : List UInt8} (cb pb o : Nat) (k n v : Int) (hc : w.cell? ⟨cb, 0, none⟩ = some (.pointer (some ⟨b, 0, none⟩))) (hp : w.cell? ⟨pb, o, none⟩ = some (.int .i64 k)) (hp1 : w.cell? ⟨pb, o + 1, none⟩ = some (.int .i64 n)) (hp2 : w.cell? ⟨pb, o + 2, none⟩ = some (.int .i32 v)) (hn : I64 n) (hv : -2147483648 ≤ v ∧ v ≤ 2147483647) (hE : EnvT w0) (h : WS w0 b l w) (hlen : l.length + 30 ≤ 140737488355328) :
    Calls Tryz.prog 125 #[.pointer (some ⟨pb, o, none⟩), .pointer (some ⟨cb, 0, none⟩)] w fun e w' => (∃ v, e = .returned v) ∧ WQ w0 b (l ++ opdT ⟨k, n, v⟩) w w' := by
  have HN := Lib.hid (operand_any (w := w.drew) k n v hn hv hE h.drew hlen)
  clear hE h hlen hn hv
  go_enter Tryz.func125, Tryz.ntmps125
  go_wp2
  go_region_with (first | (go_at_call 126; (with_reducible refine HN.out.mono ?_); rintro e w1 ⟨⟨v, rfl⟩, hq⟩; have HQ := Lib.hid (hq.after ((Below.refl w.heap.size w).drew)); clear hq))
  all_goals
    go_wp2
    go_end0
    exact ⟨⟨_, rfl⟩, HQ.out⟩
end Go.Proofs.YtkncilgmlkeifaaGreatDoor
