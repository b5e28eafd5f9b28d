/-
  Package code: the contract of Text.
-/
import Derived.Test.YtkncilgmlkeifaaGreatDoorBlk
import Derived.Test.YtkncilgmlkeifaaGreatDoorChk
set_option linter.unusedVariables false
set_option linter.unusedSimpArgs false
namespace Go.Proofs.YtkncilgmlkeifaaGreatDoor
open Go.ChangeShapes Go.WideShapes Go.ChangeAt Go.RowKit Go.Shelf

theorem OneK.blk {w wx : World} {T : TypeId} {K : Array Value} (h : OneK w T K wx) : wx.heap[w.heap.size]? = some (.cells K T (0, 0)) := (h.on.block w.heap.size (by omega)).trans (heap_alloc_new _ _)
theorem ws_fresh {w W : World} (h : Below w.heap.size w W) : WS w W.heap.size [] (W.alloc (.cells #[.pointer none, .slice none 0 0] 102)) :=
  ⟨.inl ⟨h.size, _, heap_alloc_new _ _, World.ownsRowF_of (World.ownsRow_nil _ _ _ _), by simp [Value.ownBlock]⟩, h.alloc h.size _⟩
/-- Three, and five, numbers by their index. -/
def f3 (x y z : Int) (j : Nat) : Int := if j = 0 then x else if j = 1 then y else z
def f5 (x y z u v : Int) (j : Nat) : Int := if j = 0 then x else if j = 1 then y else if j = 2 then z else if j = 3 then u else v
theorem rik3 {W : World} {b : Nat} (x y z : Int) (hb : b ≠ W.heap.size) : RIk (W.alloc (.cells #[.int .i64 x, .int .i64 y, .int .i64 z] 3)) b (some ⟨W.heap.size, 0, none⟩) 3 (f3 x y z) :=
  fun _ => ⟨W.heap.size, 0, _, 3, (0, 0), rfl, fun e => hb e.symm, heap_alloc_new _ _, by decide, fun j hj => by
    have hj3 : j = 0 ∨ j = 1 ∨ j = 2 := by omega
    rcases hj3 with rfl | rfl | rfl <;> rfl⟩
theorem rik5 {W : World} {b : Nat} (x y z u v : Int) (hb : b ≠ W.heap.size) : RIk (W.alloc (.cells #[.int .i64 x, .int .i64 y, .int .i64 z, .int .i64 u, .int .i64 v] 3)) b (some ⟨W.heap.size, 0, none⟩) 5 (f5 x y z u v) :=
  fun _ => ⟨W.heap.size, 0, _, 3, (0, 0), rfl, fun e => hb e.symm, heap_alloc_new _ _, by decide, fun j hj => by
    have hj3 : j = 0 ∨ j = 1 ∨ j = 2 ∨ j = 3 ∨ j = 4 := by omega
    rcases hj3 with rfl | rfl | rfl | rfl | rfl <;> rfl⟩
theorem f3_rng {x y z : Int} (hx : I64 x) (hy : I64 y) (hz : I64 z) (j : Nat) : I64 (f3 x y z j) := by
  unfold f3
  repeat' split
  all_goals assumption
theorem f5_rng {x y z u v : Int} (hx : I64 x) (hy : I64 y) (hz : I64 z) (hu : I64 u) (hv : I64 v) (j : Nat) : I64 (f5 x y z u v j) := by
  unfold f5
  repeat' split
  all_goals assumption
def headT (g s r sl p : Int) : List UInt8 := [99, 111, 100, 101] ++ numsT (f5 g s r sl p) 5 ++ [10]
def arrT (nm : ByteArray) (sp ty ln : Int) : List UInt8 := ([97, 114, 114, 97, 121, 32] ++ nm.data.toList) ++ numsT (f3 sp ty ln) 3 ++ [10]
def loopT (hd rg bd : Int) : List UInt8 := [108, 111, 111, 112] ++ numsT (f3 hd rg bd) 3 ++ [10]
def catT (F : Nat → List UInt8) : Nat → List UInt8
  | 0 => []
  | k + 1 => catT F k ++ F k
theorem catT_len {F : Nat → List UInt8} {n m : Nat} (h : ∀ j, j < n → (F j).length ≤ m) : ∀ k, k ≤ n → (catT F k).length ≤ k * m
  | 0, _ => by simp [catT]
  | k + 1, hk => by
    have h1 := catT_len h k (by omega)
    have h2 := h k (by omega)
    simp only [catT, List.length_append, Nat.succ_mul]
    omega
/-- The text of a code. -/
def textT (g s r sl p : Int) (n1 n2 n3 : Nat) (nm : Nat → ByteArray) (sp ty ln hd rg bd : Nat → Int) (IL : Nat → Nat) (I : Nat → Nat → InstV) (T : Nat → TermV) : List UInt8 :=
  headT g s r sl p ++ catT (fun j => arrT (nm j) (sp j) (ty j) (ln j)) n1 ++ catT (fun j => loopT (hd j) (rg j) (bd j)) n2 ++ catT (fun j => blockT (IL j) (I j) (T j)) n3
theorem headT_len {g s r sl p : Int} (h : ∀ j, j < 5 → I64 (f5 g s r sl p j)) : (headT g s r sl p).length ≤ 200 := by
  have := numsT_len h 5 (Nat.le_refl _)
  simp only [headT, List.length_append, List.length_cons, List.length_nil]
  omega
theorem arrT_len {nm : ByteArray} {sp ty ln : Int} (hn : nm.size ≤ 12) (h : ∀ j, j < 3 → I64 (f3 sp ty ln j)) : (arrT nm sp ty ln).length ≤ 200 := by
  have := numsT_len h 3 (Nat.le_refl _)
  have h2 : nm.data.toList.length = nm.size := Array.length_toList
  simp only [arrT, List.length_append, List.length_cons, List.length_nil]
  omega
theorem loopT_len {hd rg bd : Int} (h : ∀ j, j < 3 → I64 (f3 hd rg bd j)) : (loopT hd rg bd).length ≤ 200 := by
  have := numsT_len h 3 (Nat.le_refl _)
  simp only [loopT, List.length_append, List.length_cons, List.length_nil]
  omega
section
variable (g s r sl p : Int) (n1 c1 n2 c2 n3 c3 : Nat) (A1 A2 A3 : Option Addr) (nm : Nat → ByteArray) (sp ty ln : Nat → Int)
variable (hd rg bd : Nat → Int) (IA : Nat → Option Addr) (IL IC : Nat → Nat) (I : Nat → Nat → InstV) (T : Nat → TermV)
/-- All numbers of the code are in their ranges. -/
structure CodeR : Prop where
  head : I64 g ∧ I64 s ∧ I64 r ∧ I64 sl ∧ I64 p
  arr : ∀ j, I64 (sp j) ∧ I64 (ty j) ∧ I64 (ln j)
  loops : ∀ j, I64 (hd j) ∧ I64 (rg j) ∧ I64 (bd j)
  insts : ∀ j k, j < n3 → k < IL j → (I j k).parts.Rng
  terms : ∀ j, j < n3 → (T j).parts.Rng
theorem checkE_ok {g s r sl p : Int} {n1 n2 n3 : Nat} {nm : Nat → ByteArray} {sp ty ln hd rg bd : Nat → Int} {IL : Nat → Nat} {I : Nat → Nat → InstV} {T : Nat → TermV} (h : checkE g s r sl p n1 n2 n3 nm sp ty ln hd rg bd IL I T = 0) :
    n1 ≤ 8 ∧ n2 ≤ 400 ∧ n3 ≤ 400 ∧ ∀ j, j < n1 → (nm j).size ≤ 12 := by
  unfold checkE at h
  split at h
  · rename_i hl
    have hb := limB_bounds hl
    refine ⟨hb.1, hb.2.1, hb.2.2.1, fun j hj => ?_⟩
    unfold limB at hl
    simp only [Bool.and_eq_true, List.all_eq_true] at hl
    have := hl.2.2.2.2.2.2.2 j (by simpa using hj)
    simp only [decide_eq_true_eq] at this
    omega
  · cases h
theorem bappq (p : Array UInt8) (q : ByteArray) : ((⟨p⟩ : ByteArray) ++ q : ByteArray).data.toList = p.toList ++ q.data.toList := by
  simp [ByteArray.data_append]
theorem bappq_size (p : Array UInt8) (q : ByteArray) : ((⟨p⟩ : ByteArray) ++ q : ByteArray).size = p.size + q.size := by
  show (_ : Array UInt8).size = _
  simp [ByteArray.data_append]
/-- The writer's line, its words a sum. -/
theorem line_sum {w0 w : World} {b : Nat} {l : List UInt8} (p : Array UInt8) (q : ByteArray) (A : Option Addr) (n c : Nat) (f : Nat → Int) (hn : n ≤ 1000) (hf : ∀ j, j < n → I64 (f j)) (hR : RIk w b A n f) (hE : EnvT w0) (h : WS w0 b l w) (hlen : l.length + (p.size + q.size) + n * 30 + 100 ≤ 140737488355328) :
    Calls Tryz.prog 48 #[.pointer (some ⟨b, 0, none⟩), .string (⟨p⟩ ++ q), .slice A n c] w fun e w' => (∃ v, e = .returned v) ∧ WQ w0 b (l ++ (p.toList ++ q.data.toList) ++ numsT f n ++ [10]) w w' := by
  have H := line_any (⟨p⟩ ++ q) A n c f hn hf hR hE h (by rw [bappq_size]; exact hlen)
  rw [bappq] at H
  exact H
set_option maxRecDepth 100000 in
set_option maxHeartbeats 8000000 in
theorem Text_err (w : World) (hc : CodeM n1 n2 n3 A1 A2 A3 nm sp ty ln hd rg bd IA IL IC I T w w.heap.size) (hm1 : n1 ≤ 9223372036854775807) (hm2 : n2 ≤ 9223372036854775807) (hm3 : n3 ≤ 9223372036854775807) (hz : checkE g s r sl p n1 n2 n3 nm sp ty ln hd rg bd IL I T ≠ 0) :
    Calls Tryz.prog 15 #[.agg #[.int .i64 g, .int .i64 s, .int .i64 r, .int .i64 sl, .int .i64 p, .slice A1 n1 c1, .slice A2 n2 c2, .slice A3 n3 c3]] w fun e w' => e = .returned (.tuple #[.string ⟨#[]⟩, .int .i64 (checkE g s r sl p n1 n2 n3 nm sp ty ln hd rg bd IL I T)]) ∧ Below w.heap.size w w' := by
  have HC := Lib.hid (fun (W : World) (hW : OneK w 36 #[.int .i64 g, .int .i64 s, .int .i64 r, .int .i64 sl, .int .i64 p, .slice A1 n1 c1, .slice A2 n2 c2, .slice A3 n3 c3] W) => Check_any g s r sl p n1 c1 n2 c2 n3 c3 A1 A2 A3 nm sp ty ln hd rg bd IA IL IC I T W (hc.at hW.below) hm1 hm2 hm3)
  obtain ⟨z, hzz⟩ : ∃ z, checkE g s r sl p n1 n2 n3 nm sp ty ln hd rg bd IL I T = z := ⟨_, rfl⟩
  rw [hzz] at HC hz ⊢
  have hzb : (z != 0) = true := by simpa using hz
  clear hc hzz hz
  have HK0 := Lib.hid (OneK.start (w := w) (T := 36) (K := #[.int .i64 g, .int .i64 s, .int .i64 r, .int .i64 sl, .int .i64 p, .slice A1 n1 c1, .slice A2 n2 c2, .slice A3 n3 c3]))
  go_enter Tryz.func15, Tryz.ntmps15
  go_wp2_with (first | (go_at_call 17; (with_reducible refine (HC.out _ HK0.out).mono ?_); rintro e w1 ⟨rfl, hb1⟩; have HK := Lib.hid (HK0.out.step hb1); clear hb1))
  go_ret2
  exact ⟨rfl, HK.out.below⟩
set_option maxRecDepth 100000 in
set_option maxHeartbeats 16000000 in
theorem Text_ok (w : World) (hc : CodeM n1 n2 n3 A1 A2 A3 nm sp ty ln hd rg bd IA IL IC I T w w.heap.size) (hr : CodeR g s r sl p n3 sp ty ln hd rg bd IL I T) (hE : EnvT w) (hz : checkE g s r sl p n1 n2 n3 nm sp ty ln hd rg bd IL I T = 0) (hm1 : n1 ≤ 9223372036854775807) (hm2 : n2 ≤ 9223372036854775807) (hm3 : n3 ≤ 9223372036854775807) :
    Calls Tryz.prog 15 #[.agg #[.int .i64 g, .int .i64 s, .int .i64 r, .int .i64 sl, .int .i64 p, .slice A1 n1 c1, .slice A2 n2 c2, .slice A3 n3 c3]] w fun e w' => e = .returned (.tuple #[.string ⟨(textT g s r sl p n1 n2 n3 nm sp ty ln hd rg bd IL I T).toArray⟩, .int .i64 0]) ∧ Below w.heap.size w w' := by
  obtain ⟨q1, q2, q3, qn⟩ := checkE_ok hz
  have HC := Lib.hid (fun (W : World) (hW : OneK w 36 #[.int .i64 g, .int .i64 s, .int .i64 r, .int .i64 sl, .int .i64 p, .slice A1 n1 c1, .slice A2 n2 c2, .slice A3 n3 c3] W) => Check_any g s r sl p n1 c1 n2 c2 n3 c3 A1 A2 A3 nm sp ty ln hd rg bd IA IL IC I T W (hc.at hW.below) hm1 hm2 hm3)
  rw [hz] at HC
  have R5 := fun j (_ : j < 5) => f5_rng hr.head.1 hr.head.2.1 hr.head.2.2.1 hr.head.2.2.2.1 hr.head.2.2.2.2 j
  have RA := fun i j (_ : j < 3) => f3_rng (hr.arr i).1 (hr.arr i).2.1 (hr.arr i).2.2 j
  have RL := fun i j (_ : j < 3) => f3_rng (hr.loops i).1 (hr.loops i).2.1 (hr.loops i).2.2 j
  have L0 := headT_len R5
  have L1 : ∀ k, k ≤ n1 → (catT (fun j => arrT (nm j) (sp j) (ty j) (ln j)) k).length ≤ k * 200 := catT_len (fun j hj => arrT_len (qn j hj) (RA j))
  have L2 : ∀ k, k ≤ n2 → (catT (fun j => loopT (hd j) (rg j) (bd j)) k).length ≤ k * 200 := catT_len (fun j hj => loopT_len (RL j))
  have L3 : ∀ k, k ≤ n3 → (catT (fun j => blockT (IL j) (I j) (T j)) k).length ≤ k * 14000000 := catT_len (fun j hj => by
    have h1 := blockT_len (n := IL j) (I := I j) (t := T j) (fun i hi => hr.insts j i hj hi) (hr.terms j hj)
    have h2 := hc.lens j hj
    omega)
  have HL0 := Lib.hid (fun (W : World) (hW : OneK w 36 #[.int .i64 g, .int .i64 s, .int .i64 r, .int .i64 sl, .int .i64 p, .slice A1 n1 c1, .slice A2 n2 c2, .slice A3 n3 c3] W) => line_any (w0 := w) (w := (W.alloc (.cells #[.pointer none, .slice none 0 0] 102)).alloc (.cells #[.int .i64 g, .int .i64 s, .int .i64 r, .int .i64 sl, .int .i64 p] 3)) (b := W.heap.size) (l := []) ⟨#[99, 111, 100, 101]⟩ (some ⟨W.heap.size + 1, 0, none⟩) 5 5 (f5 g s r sl p) (by omega) R5 (by
    have h := rik5 (W := W.alloc (.cells #[.pointer none, .slice none 0 0] 102)) (b := W.heap.size) g s r sl p (by simp)
    rw [World.size_alloc] at h
    exact h) hE ((ws_fresh hW.below).step ((Below.refl _ _).alloc (Nat.le_refl _) _)) (by
    have : (⟨#[99, 111, 100, 101]⟩ : ByteArray).size = 4 := rfl
    simp only [List.length_nil]
    omega))
  have HL1 := Lib.hid (fun (k : Nat) (b : Nat) (W : World) (hk : k < n1) (hbW : b ≠ W.heap.size) (hW : WS w b (headT g s r sl p ++ catT (fun j => arrT (nm j) (sp j) (ty j) (ln j)) k) (W.alloc (.cells #[.int .i64 (sp k), .int .i64 (ty k), .int .i64 (ln k)] 3))) =>
    line_sum #[97, 114, 114, 97, 121, 32] (nm k) (some ⟨W.heap.size, 0, none⟩) 3 3 (f3 (sp k) (ty k) (ln k)) (by omega) (RA k) (rik3 _ _ _ hbW) hE hW (by
      have h1 := L1 k (by omega)
      have h2 := qn k hk
      simp only [List.length_append]
      show _ + (6 + _) + _ + _ ≤ _
      omega))
  have HL2 := Lib.hid (fun (k : Nat) (b : Nat) (W : World) (hk : k < n2) (hbW : b ≠ W.heap.size) (hW : WS w b (headT g s r sl p ++ catT (fun j => arrT (nm j) (sp j) (ty j) (ln j)) n1 ++ catT (fun j => loopT (hd j) (rg j) (bd j)) k) (W.alloc (.cells #[.int .i64 (hd k), .int .i64 (rg k), .int .i64 (bd k)] 3))) =>
    line_any ⟨#[108, 111, 111, 112]⟩ (some ⟨W.heap.size, 0, none⟩) 3 3 (f3 (hd k) (rg k) (bd k)) (by omega) (RL k) (rik3 _ _ _ hbW) hE hW (by
      have h1 := L1 n1 (by omega)
      have h2 := L2 k (by omega)
      have : (⟨#[108, 111, 111, 112]⟩ : ByteArray).size = 4 := rfl
      simp only [List.length_append]
      omega))
  have HL3 := Lib.hid (fun (k : Nat) (b : Nat) (W : World) (hk : k < n3) (hbW : b < W.heap.size) (hW : WS w b (headT g s r sl p ++ catT (fun j => arrT (nm j) (sp j) (ty j) (ln j)) n1 ++ catT (fun j => loopT (hd j) (rg j) (bd j)) n2 ++ catT (fun j => blockT (IL j) (I j) (T j)) k) W) =>
    block_any (IA k) (IL k) (IC k) (I k) (T k) (hc.insts k hk) (hc.lens k hk) hbW (fun j hj => hr.insts k j hk hj) (hr.terms k hk) hE hW (by
      have h1 := L1 n1 (by omega)
      have h2 := L2 n2 (by omega)
      have h3 := L3 k (by omega)
      have h4 := hc.lens k hk
      simp only [List.length_append]
      omega))
  obtain ⟨X, hX⟩ : ∃ X, textT g s r sl p n1 n2 n3 nm sp ty ln hd rg bd IL I T = X := ⟨_, rfl⟩
  have HTX := Lib.hid (fun (b : Nat) (W : World) (hW : WS w b (textT g s r sl p n1 n2 n3 nm sp ty ln hd rg bd IL I T) W) => show Calls Tryz.prog 50 #[.pointer (some ⟨b, 0, none⟩)] W fun e w' => e = .returned (.string ⟨X.toArray⟩) ∧ Below w.heap.size W w' from by
    rw [← hX]
    exact wtext_any w.heap.size b (textT g s r sl p n1 n2 n3 nm sp ty ln hd rg bd IL I T) W hW.wr (by simp [textT, headT]))
  rw [hX]
  clear hX
  have HM := Lib.hid hc
  have HQN := Lib.hid qn
  have HK0 := Lib.hid (OneK.start (w := w) (T := 36) (K := #[.int .i64 g, .int .i64 s, .int .i64 r, .int .i64 sl, .int .i64 p, .slice A1 n1 c1, .slice A2 n2 c2, .slice A3 n3 c3]))
  clear hc hr hE hz R5 RA RL L0 L1 L2 L3 qn
  obtain ⟨F1, hF1⟩ : ∃ F, (fun j => arrT (nm j) (sp j) (ty j) (ln j)) = F := ⟨_, rfl⟩
  obtain ⟨F2, hF2⟩ : ∃ F, (fun j => loopT (hd j) (rg j) (bd j)) = F := ⟨_, rfl⟩
  obtain ⟨F3, hF3⟩ : ∃ F, (fun j => blockT (IL j) (I j) (T j)) = F := ⟨_, rfl⟩
  obtain ⟨H0, hH0⟩ : ∃ H0, headT g s r sl p = H0 := ⟨_, rfl⟩
  have htx : textT g s r sl p n1 n2 n3 nm sp ty ln hd rg bd IL I T = H0 ++ catT F1 n1 ++ catT F2 n2 ++ catT F3 n3 := by rw [← hF1, ← hF2, ← hF3, ← hH0]; rfl
  rw [htx] at HTX
  rw [hF1, hH0] at HL1 HL2 HL3
  rw [hF2] at HL2 HL3
  rw [hF3] at HL3
  have HF1 := Lib.hid (fun k => congrFun hF1 k)
  have HF2 := Lib.hid (fun k => congrFun hF2 k)
  have HF3 := Lib.hid (fun k => congrFun hF3 k)
  have HH0 := Lib.hid hH0
  clear htx hF1 hF2 hF3 hH0
  have HPRE := Lib.hid (fun (W1 : World) (h1 : OneK w 36 #[.int .i64 g, .int .i64 s, .int .i64 r, .int .i64 sl, .int .i64 p, .slice A1 n1 c1, .slice A2 n2 c2, .slice A3 n3 c3] W1) (W : World) (l : List UInt8) (hW : WQ w W1.heap.size l (W1.alloc (.cells #[.pointer none, .slice none 0 0] 102)) W) => And.intro
    (cells_blk (kept_blk hW.kept ((Below.heap_alloc W1 (.cells #[.pointer none, .slice none 0 0] 102) w.heap.size (by have := h1.size; omega)).trans h1.blk) (by have := h1.size; omega) (by decide)))
    (show W1.heap.size < W.heap.size from by
      rcases hW.ws.wr with h | h
      · exact h.lt
      · exact h.lt))
  go_enter Tryz.func15, Tryz.ntmps15
  go_wp2_with (first | (go_at_call 17; (with_reducible refine (HC.out _ HK0.out).mono ?_); rintro e w1 ⟨rfl, hb1⟩; have HK := Lib.hid (HK0.out.step hb1); clear hb1; have ck := HK.out.ck; have hsz := (show w.heap.size < w1.heap.size from by have := HK.out.size; omega)) | (go_at_call 48; (with_reducible refine (HL0.out _ HK.out).mono ?_); rintro e w2 ⟨⟨v2, rfl⟩, hq⟩; have HQ := Lib.hid (show WQ w w1.heap.size (H0 ++ catT F1 0) (w1.alloc (.cells #[.pointer none, .slice none 0 0] 102)) w2 from by rw [← HH0.out, catT, List.append_nil]; exact hq.after ((Below.refl _ _).alloc (Nat.le_refl _) _)); clear hq ck hsz; have cb := (HPRE.out _ HK.out _ _ HQ.out).1))
  go_loopw [7, 32] (fun x i wr => ∃ k : Nat, k ≤ n1 ∧ i = .int .i64 k ∧ Hid (WQ w w1.heap.size (H0 ++ catT F1 k) (w1.alloc (.cells #[.pointer none, .slice none 0 0] 102)) wr)) (fun _ i _ => n1 - (intOf i).toNat)
  case atStart => exact ⟨0, Nat.zero_le _, rfl, HQ⟩
  case round =>
    obtain ⟨k, hk, rfl, HX⟩ := hrel
    clear cb
    by_cases hlt : k < n1
    · obtain ⟨bb, off, hA, hbb, hc⟩ := (HM.out.arr.below HX.out.ws.on) (by omega)
      obtain ⟨m0, m1, m2, m3⟩ := hc k hlt
      have hl := (HPRE.out _ HK.out _ _ HX.out).2
      have hnk := HQN.out k hlt
      clear hbb hc
      subst hA
      have HY := Lib.hid (fun (o : Obj) => HL1.out k w1.heap.size (wr.alloc o) hlt (by rw [World.size_alloc]; omega) ((HX.out.ws.step ((Below.refl _ _).alloc (Nat.le_refl _) _)).step ((Below.refl _ _).alloc (Nat.le_refl _) _)))
      simp only [World.size_alloc] at HY
      clear hl
      go_wp2_with (first | (go_at_call 48; (with_reducible refine (HY.out _).mono ?_); rintro e w2 ⟨⟨v2, rfl⟩, hq⟩; have HZ := Lib.hid (HX.out.next (hq.after (((Below.refl _ _).alloc (Nat.le_refl _) _).alloc (by simp) _))); clear hq))
      go_roundw
      case rel => exact ⟨k + 1, by omega, by go_num, Lib.hid (by rw [catT, ← HF1.out k, arrT]; simpa only [List.append_assoc] using HZ.out)⟩
      case measure => simp [intOf]; omega
    · obtain rfl : n1 = k := by omega
      obtain ⟨wa, rfl⟩ : ∃ wa : World, wa = wr := ⟨_, rfl⟩
      have cb := (HPRE.out _ HK.out _ _ HX.out).1
      go_wp2
      go_loopw [9, 51] (fun x i wr => ∃ k : Nat, k ≤ n2 ∧ i = .int .i64 k ∧ Hid (WQ w w1.heap.size (H0 ++ catT F1 n1 ++ catT F2 k) (w1.alloc (.cells #[.pointer none, .slice none 0 0] 102)) wr)) (fun _ i _ => n2 - (intOf i).toNat)
      case atStart => exact ⟨0, Nat.zero_le _, rfl, Lib.hid (by rw [catT, List.append_nil]; exact HX.out)⟩
      case round =>
        obtain ⟨k, hk, rfl, HX2⟩ := hrel
        clear cb
        by_cases hlt2 : k < n2
        · obtain ⟨bb, off, hA, hbb, hc⟩ := (HM.out.loops.below HX2.out.ws.on) (by omega)
          obtain ⟨m0, m1, m2⟩ := hc k hlt2
          have hl := (HPRE.out _ HK.out _ _ HX2.out).2
          clear hbb hc
          subst hA
          have HY := Lib.hid (fun (o : Obj) => HL2.out k w1.heap.size (wr.alloc o) hlt2 (by rw [World.size_alloc]; omega) ((HX2.out.ws.step ((Below.refl _ _).alloc (Nat.le_refl _) _)).step ((Below.refl _ _).alloc (Nat.le_refl _) _)))
          simp only [World.size_alloc] at HY
          clear hl
          go_wp2_with (first | (go_at_call 48; (with_reducible refine (HY.out _).mono ?_); rintro e w2 ⟨⟨v2, rfl⟩, hq⟩; have HZ := Lib.hid (HX2.out.next (hq.after (((Below.refl _ _).alloc (Nat.le_refl _) _).alloc (by simp) _))); clear hq))
          go_roundw
          case rel => exact ⟨k + 1, by omega, by go_num, Lib.hid (by rw [catT, ← HF2.out k, loopT]; simpa only [List.append_assoc] using HZ.out)⟩
          case measure => simp [intOf]; omega
        · obtain rfl : n2 = k := by omega
          obtain ⟨wb, rfl⟩ : ∃ wb : World, wb = wr := ⟨_, rfl⟩
          have cb := (HPRE.out _ HK.out _ _ HX2.out).1
          go_wp2
          go_loopw [11, 67] (fun x i wr => ∃ k : Nat, k ≤ n3 ∧ i = .int .i64 k ∧ Hid (WQ w w1.heap.size (H0 ++ catT F1 n1 ++ catT F2 n2 ++ catT F3 k) (w1.alloc (.cells #[.pointer none, .slice none 0 0] 102)) wr)) (fun _ i _ => n3 - (intOf i).toNat)
          case atStart => exact ⟨0, Nat.zero_le _, rfl, Lib.hid (by rw [catT, List.append_nil]; exact HX2.out)⟩
          case round =>
            obtain ⟨k, hk, rfl, HX3⟩ := hrel
            clear cb
            by_cases hlt3 : k < n3
            · obtain ⟨bb, off, hA, hbb, hc⟩ := (HM.out.blocks.below HX3.out.ws.on) (by omega)
              obtain ⟨m0, m1, m2, m3, m4, m5, m6, m7, m8, m9, m10, m11, m12, m13⟩ := hc k hlt3
              have hl := (HPRE.out _ HK.out _ _ HX3.out).2
              clear hbb hc
              subst hA
              have HY := Lib.hid (fun (o : Obj) => HL3.out k w1.heap.size (wr.alloc o) hlt3 (by rw [World.size_alloc]; omega) (HX3.out.ws.step ((Below.refl _ _).alloc (Nat.le_refl _) _)))
              clear hl
              go_wp2_with (first | (go_at_call 49; (with_reducible refine (HY.out _).mono ?_); rintro e w2 ⟨⟨v2, rfl⟩, hq⟩; have HZ := Lib.hid (HX3.out.next (hq.after ((Below.refl _ _).alloc (Nat.le_refl _) _))); clear hq))
              go_roundw
              case rel => exact ⟨k + 1, by omega, by go_num, Lib.hid (by rw [catT, ← HF3.out k]; simpa only [List.append_assoc] using HZ.out)⟩
              case measure => simp [intOf]; omega
            · obtain rfl : n3 = k := by omega
              have HT := Lib.hid (HTX.out _ _ HX3.out.ws)
              go_wp2_with (first | (go_at_call 50; (with_reducible refine HT.out.mono ?_); rintro e w2 ⟨rfl, hq⟩; have HZ := Lib.hid (HX3.out.ws.on.trans hq); clear hq))
              go_ret2
              exact ⟨rfl, HZ.out⟩
end
end Go.Proofs.YtkncilgmlkeifaaGreatDoor
