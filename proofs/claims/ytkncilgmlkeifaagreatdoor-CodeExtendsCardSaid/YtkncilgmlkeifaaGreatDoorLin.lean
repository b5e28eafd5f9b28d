/-
  Package code: the writer: contracts of line, and of the closures in parts.
-/
import Derived.Test.YtkncilgmlkeifaaGreatDoorWri
set_option linter.unusedVariables false
set_option linter.unusedSimpArgs false
namespace Go.Proofs.YtkncilgmlkeifaaGreatDoor
open Go.ChangeShapes Go.WideShapes Go.ChangeAt Go.RowKit Go.Shelf

theorem cell_blk {w : World} {b i : Nat} {C : Array Value} {T : TypeId} {fr : Nat × Nat} {v : Value} (h : w.heap[b]? = some (.cells C T fr)) (hv : C[i]? = some v) : w.cell? ⟨b, i, none⟩ = some v := by simp [World.cell?, h, hv]
/-- A slice of integers in a block that is not the writer's. -/
def RIk (w : World) (b : Nat) (A : Option Addr) (n : Nat) (f : Nat → Int) : Prop :=
  0 < n → ∃ bb off C T fr, A = some ⟨bb, off, none⟩ ∧ bb ≠ b ∧ w.heap[bb]? = some (.cells C T fr) ∧ T ≠ 5 ∧ ∀ j, j < n → C[off + j]? = some (.int .i64 (f j))
theorem kept_blk {w w' : World} {b bb : Nat} {C : Array Value} {T : TypeId} {fr : Nat × Nat} (hk : Lib.OthersKept 5 (some b) w w') (h : w.heap[bb]? = some (.cells C T fr)) (hb : bb ≠ b) (hT : T ≠ 5) : w'.heap[bb]? = some (.cells C T fr) :=
  hk bb _ h (fun e => hb (by injection e)) (fun c fz e => by injection e with _ e2 _; exact hT e2)
theorem RIk.kept {w w' : World} {b : Nat} {A : Option Addr} {n : Nat} {f : Nat → Int} (h : RIk w b A n f) (hk : Lib.OthersKept 5 (some b) w w') : RIk w' b A n f := fun hn => by
  obtain ⟨bb, off, C, T, fr, e, hb, hh, hT, hc⟩ := h hn
  exact ⟨bb, off, C, T, fr, e, hb, kept_blk hk hh hb hT, hT, hc⟩
/-- The text of the first k numbers. -/
def numsT (f : Nat → Int) : Nat → List UInt8
  | 0 => []
  | k + 1 => numsT f k ++ 32 :: Lib.itoa (f k)
theorem numsT_len {f : Nat → Int} {n : Nat} (h : ∀ j, j < n → I64 (f j)) : ∀ k, k ≤ n → (numsT f k).length ≤ k * 30
  | 0, _ => Nat.le_refl _
  | k + 1, hk => by
    have h1 := numsT_len h k (by omega)
    have h2 := Lib.itoa_length_le (f k) (h k (by omega)).1 (h k (by omega)).2
    simp only [numsT, List.length_append, List.length_cons]
    omega
set_option maxRecDepth 100000 in
set_option maxHeartbeats 2000000 in
theorem line_any {w0 w : World} {b : Nat} {l : List UInt8} (words : ByteArray) (A : Option Addr) (n c : Nat) (f : Nat → Int) (hn : n ≤ 1000) (hf : ∀ j, j < n → I64 (f j)) (hR : RIk w b A n f) (hE : EnvT w0) (h : WS w0 b l w) (hlen : l.length + words.size + n * 30 + 100 ≤ 140737488355328) :
    Calls Tryz.prog 48 #[.pointer (some ⟨b, 0, none⟩), .string words, .slice A n c] w fun e w' => (∃ v, e = .returned v) ∧ WQ w0 b (l ++ words.data.toList ++ numsT f n ++ [10]) w w' := by
  have hw : words.data.toList.length = words.size := by rw [Array.length_toList]; rfl
  have HL := Lib.hid (numsT_len hf)
  have HS := Lib.hid (ws_str words h (by omega))
  have HN := Lib.hid (fun (k : Nat) (W : World) (hk : k < n) (hW : WS w0 b (l ++ words.data.toList ++ numsT f k) W) => number_any (w := W) (f k) (hf k hk) hE hW (by
    have := HL.out k (by omega)
    simp only [List.length_append, hw]
    omega))
  have HB := Lib.hid (fun (W : World) (hW : WS w0 b (l ++ words.data.toList ++ numsT f n) W) => ws_lf (w := W) hW (by
    have := HL.out n (by omega)
    simp only [List.length_append, hw]
    omega))
  have HR := Lib.hid hR
  clear hf hR hE h hw HL
  go_enter Tryz.func48, Tryz.ntmps48
  go_wp2_with (first | (go_at_call 83; (with_reducible refine HS.out.mono ?_); rintro e w1 ⟨⟨v, rfl⟩, hq⟩; have HQ := Lib.hid hq; clear hq))
  go_loopw [7, 15] (fun x i wr => ∃ k : Nat, k ≤ n ∧ i = .int .i64 k ∧ Hid (WQ w0 b (l ++ words.data.toList ++ numsT f k) w wr)) (fun _ i _ => n - (intOf i).toNat)
  case atStart => exact ⟨0, Nat.zero_le _, rfl, Lib.hid (by rw [numsT, List.append_nil]; exact HQ.out)⟩
  case round =>
    obtain ⟨k, hk, rfl, HK⟩ := hrel
    by_cases hlt : k < n
    · obtain ⟨bb, off, C, T, fr, rfl, hbb, hh, hT, hc⟩ := (HR.out.kept HK.out.kept) (by omega)
      have m0 := cell_blk hh (hc k hlt)
      clear hh hc hbb hT
      have HX := Lib.hid (HN.out k wr hlt HK.out.ws)
      go_wp2_with (first | (go_at_call 84; (with_reducible refine HX.out.mono ?_); rintro e w2 ⟨⟨v2, rfl⟩, hq⟩; have HQ2 := Lib.hid (HK.out.next hq); clear hq))
      go_roundw
      case rel => exact ⟨k + 1, by omega, by go_num, Lib.hid (by rw [numsT, ← List.append_assoc]; exact HQ2.out)⟩
      case measure => simp [intOf]; omega
    · obtain rfl : k = n := by omega
      have HX := Lib.hid (HB.out wr HK.out.ws)
      go_wp2_with (first | (go_at_call 85; (with_reducible refine HX.out.mono ?_); rintro e w2 ⟨⟨v2, rfl⟩, hq⟩; have HQ2 := Lib.hid (HK.out.next hq); clear hq))
      go_end0
      exact ⟨⟨_, rfl⟩, HQ2.out⟩
set_option maxRecDepth 100000 in
set_option maxHeartbeats 1000000 in
theorem w124_any {w0 w : World} {b : Nat} {l : List UInt8} (cb pb o : Nat) (n : Int) (hc : w.cell? ⟨cb, 0, none⟩ = some (.pointer (some ⟨b, 0, none⟩))) (hp : w.cell? ⟨pb, o, none⟩ = some (.int .i64 n)) (hn : I64 n) (hE : EnvT w0) (h : WS w0 b l w) (hlen : l.length + 30 ≤ 140737488355328) :
    Calls Tryz.prog 124 #[.pointer (some ⟨pb, o, none⟩), .pointer (some ⟨cb, 0, none⟩)] w fun e w' => (∃ v, e = .returned v) ∧ WQ w0 b (l ++ 32 :: Lib.itoa n) w w' := by
  have HN := Lib.hid (number_any (w := w.drew) n hn hE h.drew hlen)
  clear hE h hlen hn
  go_enter Tryz.func124, Tryz.ntmps124
  go_wp2
  go_region_with (first | (go_at_call 84; (with_reducible refine HN.out.mono ?_); rintro e w1 ⟨⟨v, rfl⟩, hq⟩; have HQ := Lib.hid (hq.after ((Below.refl w.heap.size w).drew)); clear hq))
  all_goals
    go_wp2
    go_end0
    exact ⟨⟨_, rfl⟩, HQ.out⟩
set_option maxRecDepth 100000 in
set_option maxHeartbeats 1000000 in
theorem w125_any {w0 w : World} {b : Nat} {l : List UInt8} (cb pb o : Nat) (k n v : Int) (hc : w.cell? ⟨cb, 0, none⟩ = some (.pointer (some ⟨b, 0, none⟩))) (hp : w.cell? ⟨pb, o, none⟩ = some (.int .i64 k)) (hp1 : w.cell? ⟨pb, o + 1, none⟩ = some (.int .i64 n)) (hp2 : w.cell? ⟨pb, o + 2, none⟩ = some (.int .i32 v)) (hn : I64 n) (hv : -2147483648 ≤ v ∧ v ≤ 2147483647) (hE : EnvT w0) (h : WS w0 b l w) (hlen : l.length + 30 ≤ 140737488355328) :
    Calls Tryz.prog 125 #[.pointer (some ⟨pb, o, none⟩), .pointer (some ⟨cb, 0, none⟩)] w fun e w' => (∃ v, e = .returned v) ∧ WQ w0 b (l ++ opdT ⟨k, n, v⟩) w w' := by
  have HN := Lib.hid (operand_any (w := w.drew) k n v hn hv hE h.drew hlen)
  clear hE h hlen hn hv
  go_enter Tryz.func125, Tryz.ntmps125
  go_wp2
  go_region_with (first | (go_at_call 126; (with_reducible refine HN.out.mono ?_); rintro e w1 ⟨⟨v, rfl⟩, hq⟩; have HQ := Lib.hid (hq.after ((Below.refl w.heap.size w).drew)); clear hq))
  all_goals
    go_wp2
    go_end0
    exact ⟨⟨_, rfl⟩, HQ.out⟩
end Go.Proofs.YtkncilgmlkeifaaGreatDoor
