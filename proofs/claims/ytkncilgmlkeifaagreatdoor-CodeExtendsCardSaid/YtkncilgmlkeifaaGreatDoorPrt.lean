/-
  Package code: the writer: the contract of parts.
-/
import Derived.Test.YtkncilgmlkeifaaGreatDoorLin
import Derived.Test.YtkncilgmlkeifaaGreatDoorOth
set_option linter.unusedVariables false
set_option linter.unusedSimpArgs false
namespace Go.Proofs.YtkncilgmlkeifaaGreatDoor
open Go.ChangeShapes Go.WideShapes Go.ChangeAt Go.RowKit Go.Shelf

def I32b (n : Int) : Prop := -2147483648 ≤ n ∧ n ≤ 2147483647
structure OpdV.Rng (o : OpdV) : Prop where
  n : I64 o.n
  v : I32b o.v
/-- The numbers of the parts are in their ranges. -/
structure PartV.Rng (q : PartV) : Prop where
  sub : I64 q.sub
  n : I64 q.n
  d : q.d.Rng
  a : q.a.Rng
  b : q.b.Rng
  c : q.c.Rng
  t0 : I64 q.t0
  t1 : I64 q.t1
/-- The text of the field of step s. -/
def stepT (q : PartV) (s : Nat) : List UInt8 :=
  if s = 0 then 32 :: Lib.itoa q.sub else if s = 1 then 32 :: Lib.itoa q.n else if s = 2 then opdT q.d else if s = 3 then opdT q.a else if s = 4 then opdT q.b else if s = 5 then opdT q.c else if s = 6 then 32 :: Lib.itoa q.t0 else 32 :: Lib.itoa q.t1
/-- The text of the fields of a form, those of the steps below s. -/
def partsT (f : FormV) (q : PartV) : Nat → List UInt8
  | 0 => []
  | s + 1 => partsT f q s ++ if f.want s = true then stepT q s else []
theorem opdT_len {o : OpdV} (h : o.Rng) : (opdT o).length ≤ 23 := by
  unfold opdT
  split
  · have := Lib.itoa_length_le o.v (by have := h.v.1; omega) (by have := h.v.2; omega)
    simp only [List.length_cons]; omega
  · have := Lib.itoa_length_le o.n h.n.1 h.n.2
    simp only [List.length_cons]; omega
theorem num_len {n : Int} (h : I64 n) : (32 :: Lib.itoa n : List UInt8).length ≤ 23 := by
  have := Lib.itoa_length_le n h.1 h.2
  simp only [List.length_cons]; omega
theorem stepT_len {q : PartV} (h : q.Rng) {s : Nat} (hs : s < 8) : (stepT q s).length ≤ 23 := by
  rcases lt8 hs with rfl | rfl | rfl | rfl | rfl | rfl | rfl | rfl
  · exact num_len h.sub
  · exact num_len h.n
  · exact opdT_len h.d
  · exact opdT_len h.a
  · exact opdT_len h.b
  · exact opdT_len h.c
  · exact num_len h.t0
  · exact num_len h.t1
theorem partsT_len (f : FormV) {q : PartV} (h : q.Rng) : ∀ s, s ≤ 8 → (partsT f q s).length ≤ s * 23
  | 0, _ => Nat.le_refl _
  | s + 1, hs => by
    have h1 := partsT_len f h s (by omega)
    have h2 := stepT_len h (s := s) (by omega)
    simp only [partsT, List.length_append]
    split
    · omega
    · simp; omega
theorem cells_blk {w : World} {b : Nat} {C : Array Value} {T : TypeId} {fr : Nat × Nat} (h : w.heap[b]? = some (.cells C T fr)) (o : Nat) : w.cell? ⟨b, o, none⟩ = C[o]? := by simp [World.cell?, h]
set_option maxRecDepth 100000 in
set_option maxHeartbeats 4000000 in
/-- A line of an instruction or an end: the word, the fields of the form, a line feed. -/
theorem parts_any {w0 w : World} {b : Nat} {l : List UInt8} (f : FormV) (q : PartV) (hq : q.Rng) (ht : 0 ≤ f.targets ∧ f.targets ≤ 2) (hb : b < w.heap.size) (hE : EnvT w0) (h : WS w0 b l w) (hlen : l.length + f.word.size + 1000 ≤ 140737488355328) :
    Calls Tryz.prog 86 #[.pointer (some ⟨b, 0, none⟩), f.val, q.val] w fun e w' => (∃ v, e = .returned v) ∧ WQ w0 b (l ++ f.word.toList ++ partsT f q 8 ++ [10]) w w' := by
  obtain ⟨W3, hW3⟩ : ∃ W3 : World, ((w.alloc (.cells #[.pointer (some ⟨b, 0, none⟩)] 139)).alloc (.cells #[.string ⟨f.word⟩, .int .u32 f.subs, .int .i64 f.table, .bool f.d, .bool f.a, .bool f.b, .bool f.c, .int .i64 f.targets] 117)).alloc (.cells q.cells 147) = W3 := ⟨_, rfl⟩
  have hsz : W3.heap.size = w.heap.size + 3 := by rw [← hW3]; simp
  have hbW : Below w.heap.size w W3 := by rw [← hW3]; exact (((Below.refl _ _).alloc (Nat.le_refl _) _).alloc (by simp) _).alloc (by simp; omega) _
  have hb0 : W3.heap[w.heap.size]? = some (.cells #[.pointer (some ⟨b, 0, none⟩)] 139 (0, 0)) := by
    rw [← hW3, Below.heap_alloc _ _ _ (by simp; omega), Below.heap_alloc _ _ _ (by simp)]
    exact heap_alloc_new _ _
  have hb1 : W3.heap[w.heap.size + 1]? = some (.cells #[.string ⟨f.word⟩, .int .u32 f.subs, .int .i64 f.table, .bool f.d, .bool f.a, .bool f.b, .bool f.c, .int .i64 f.targets] 117 (0, 0)) := by
    rw [← hW3, Below.heap_alloc _ _ _ (by simp)]
    have h := heap_alloc_new (w.alloc (.cells #[.pointer (some ⟨b, 0, none⟩)] 139)) (.cells #[.string ⟨f.word⟩, .int .u32 f.subs, .int .i64 f.table, .bool f.d, .bool f.a, .bool f.b, .bool f.c, .int .i64 f.targets] 117)
    rw [World.size_alloc] at h
    exact h
  have hb2 : W3.heap[w.heap.size + 1 + 1]? = some (.cells q.cells 147 (0, 0)) := by
    rw [← hW3]
    have h := heap_alloc_new ((w.alloc (.cells #[.pointer (some ⟨b, 0, none⟩)] 139)).alloc (.cells #[.string ⟨f.word⟩, .int .u32 f.subs, .int .i64 f.table, .bool f.d, .bool f.a, .bool f.b, .bool f.c, .int .i64 f.targets] 117)) (.cells q.cells 147)
    rw [World.size_alloc, World.size_alloc] at h
    exact h
  have hwl : f.word.toList.length = f.word.size := Array.length_toList
  have hS3 : WS w0 b l W3 := h.step hbW
  -- the word
  have H1 := Lib.hid (fun (W : World) (hW : WS w0 b l W) => ws_str (w := W) ⟨f.word⟩ hW (by show l.length + f.word.size ≤ _; omega))
  -- the visit
  have HV := Lib.hid (fun (W : World) (hW : WQ w0 b (l ++ f.word.toList) W3 W) => by
    have k0 := kept_blk hW.kept hb0 (by omega) (by decide)
    have k2 := kept_blk hW.kept hb2 (by omega) (by decide)
    have hszW : w.heap.size + 3 ≤ W.heap.size := by have := (Array.getElem?_eq_some_iff.1 (kept_blk hW.kept hb2 (by omega) (by decide))).1; omega
    have hbox : Below W.heap.size W (W.alloc (.cells #[.string ⟨f.word⟩, .int .u32 f.subs, .int .i64 f.table, .bool f.d, .bool f.a, .bool f.b, .bool f.c, .int .i64 f.targets] 117)) := (Below.refl _ _).alloc (Nat.le_refl _) _
    have kf : (W.alloc (.cells #[.string ⟨f.word⟩, .int .u32 f.subs, .int .i64 f.table, .bool f.d, .bool f.a, .bool f.b, .bool f.c, .int .i64 f.targets] 117)).heap[W.heap.size]? = some (.cells #[.string ⟨f.word⟩, .int .u32 f.subs, .int .i64 f.table, .bool f.d, .bool f.a, .bool f.b, .bool f.c, .int .i64 f.targets] 117 (0, 0)) := heap_alloc_new _ _
    exact show Calls Tryz.prog 123 #[f.val, .pointer (some ⟨w.heap.size + 1 + 1, 0, none⟩), .func (.func 124) #[] #[.pointer (some ⟨w.heap.size, 0, none⟩)], .func (.func 125) #[] #[.pointer (some ⟨w.heap.size, 0, none⟩)]] W fun e w' => (∃ v, e = .returned v) ∧ WQ w0 b (l ++ f.word.toList ++ partsT f q 8) W w' from by
      refine (visit_1 f 124 125 (w.heap.size + 1 + 1) w.heap.size (fun s V => WQ w0 b (l ++ f.word.toList ++ partsT f q s) (W.alloc (.cells #[.string ⟨f.word⟩, .int .u32 f.subs, .int .i64 f.table, .bool f.d, .bool f.a, .bool f.b, .bool f.c, .int .i64 f.targets] 117)) V) W ht (enters_of Tryz.func124 (by kernel_rfl) rfl) (enters_of Tryz.func125 (by kernel_rfl) rfl) ?_ ?_ ?_ ?_ ?_).mono ?_
      · exact ⟨by rw [partsT, List.append_nil]; exact hW.ws.step hbox, Lib.OthersKept.refl _ _ _⟩
      · intro s V hV
        have hb := kept_blk hV.kept kf (by omega) (by decide)
        exact ⟨cell_blk hb rfl, cell_blk hb rfl, cell_blk hb rfl, cell_blk hb rfl, cell_blk hb rfl, cell_blk hb rfl, cell_blk hb rfl⟩
      · intro s V hs hw hV
        refine ⟨?_, hV.kept⟩
        rw [partsT, hw, if_neg (by decide), List.append_nil]
        exact hV.ws
      · intro s V hs hn hw hV
        have c0 := cell_blk (i := 0) (v := .pointer (some ⟨b, 0, none⟩)) (kept_blk hV.kept (hbox.block w.heap.size (by omega) |>.trans k0) (by omega) (by decide)) rfl
        have hp := kept_blk hV.kept (hbox.block (w.heap.size + 1 + 1) (by omega) |>.trans k2) (by omega) (by decide)
        have hpl := partsT_len f hq s (by omega)
        have hl : (l ++ f.word.toList ++ partsT f q s).length + 30 ≤ 140737488355328 := by
          simp only [List.length_append, hwl]
          omega
        have fin : ∀ n : Int, stepT q s = 32 :: Lib.itoa n → ∀ e V', ((∃ v, e = Ending.returned v) ∧ WQ w0 b (l ++ f.word.toList ++ partsT f q s ++ 32 :: Lib.itoa n) V V') → ((∃ v, e = Ending.returned v) ∧ WQ w0 b (l ++ f.word.toList ++ partsT f q (s + 1)) (W.alloc (.cells #[.string ⟨f.word⟩, .int .u32 f.subs, .int .i64 f.table, .bool f.d, .bool f.a, .bool f.b, .bool f.c, .int .i64 f.targets] 117)) V') := by
          intro n hn2 e V' ⟨h1, h2⟩
          refine ⟨h1, ?_⟩
          rw [partsT, if_pos hw, hn2, ← List.append_assoc]
          exact hV.next h2
        rcases lt8 hs with rfl | rfl | rfl | rfl | rfl | rfl | rfl | rfl
        all_goals first | (exfalso; revert hn; decide) | skip
        · exact (w124_any _ _ 0 q.sub c0 (cell_blk hp rfl) hq.sub hE hV.ws hl).mono (fin _ rfl)
        · exact (w124_any _ _ 1 q.n c0 (cell_blk hp rfl) hq.n hE hV.ws hl).mono (fin _ rfl)
        · exact (w124_any _ _ 14 q.t0 c0 (cell_blk hp rfl) hq.t0 hE hV.ws hl).mono (fin _ rfl)
        · exact (w124_any _ _ 15 q.t1 c0 (cell_blk hp rfl) hq.t1 hE hV.ws hl).mono (fin _ rfl)
      · intro s V hs hn hw hV
        have c0 := cell_blk (i := 0) (v := .pointer (some ⟨b, 0, none⟩)) (kept_blk hV.kept (hbox.block w.heap.size (by omega) |>.trans k0) (by omega) (by decide)) rfl
        have hp := kept_blk hV.kept (hbox.block (w.heap.size + 1 + 1) (by omega) |>.trans k2) (by omega) (by decide)
        have hpl := partsT_len f hq s (by omega)
        have hl : (l ++ f.word.toList ++ partsT f q s).length + 30 ≤ 140737488355328 := by
          simp only [List.length_append, hwl]
          omega
        have fin : ∀ o : OpdV, stepT q s = opdT o → ∀ e V', ((∃ v, e = Ending.returned v) ∧ WQ w0 b (l ++ f.word.toList ++ partsT f q s ++ opdT o) V V') → ((∃ v, e = Ending.returned v) ∧ WQ w0 b (l ++ f.word.toList ++ partsT f q (s + 1)) (W.alloc (.cells #[.string ⟨f.word⟩, .int .u32 f.subs, .int .i64 f.table, .bool f.d, .bool f.a, .bool f.b, .bool f.c, .int .i64 f.targets] 117)) V') := by
          intro o hn2 e V' ⟨h1, h2⟩
          refine ⟨h1, ?_⟩
          rw [partsT, if_pos hw, hn2, ← List.append_assoc]
          exact hV.next h2
        rcases lt8 hs with rfl | rfl | rfl | rfl | rfl | rfl | rfl | rfl
        all_goals first | (exfalso; revert hn; decide) | skip
        · exact (w125_any _ _ 2 q.d.k q.d.n q.d.v c0 (cell_blk hp rfl) (cell_blk hp rfl) (cell_blk hp rfl) hq.d.n hq.d.v hE hV.ws hl).mono (fin _ rfl)
        · exact (w125_any _ _ 5 q.a.k q.a.n q.a.v c0 (cell_blk hp rfl) (cell_blk hp rfl) (cell_blk hp rfl) hq.a.n hq.a.v hE hV.ws hl).mono (fin _ rfl)
        · exact (w125_any _ _ 8 q.b.k q.b.n q.b.v c0 (cell_blk hp rfl) (cell_blk hp rfl) (cell_blk hp rfl) hq.b.n hq.b.v hE hV.ws hl).mono (fin _ rfl)
        · exact (w125_any _ _ 11 q.c.k q.c.n q.c.v c0 (cell_blk hp rfl) (cell_blk hp rfl) (cell_blk hp rfl) hq.c.n hq.c.v hE hV.ws hl).mono (fin _ rfl)
      · rintro e V ⟨hv, hV⟩
        exact ⟨hv, hV.after hbox⟩)
  have HK1 := Lib.hid (fun (W : World) (l' : List UInt8) (hW : WQ w0 b l' W3 W) => And.intro (cells_blk (kept_blk hW.kept hb0 (by omega) (by decide))) (cells_blk (kept_blk hW.kept hb1 (by omega) (by decide))))
  have HS3 := Lib.hid hS3
  have HBW := Lib.hid hbW
  have HLF := Lib.hid (fun (W : World) (hW : WS w0 b (l ++ f.word.toList ++ partsT f q 8) W) => ws_lf (w := W) hW (by
    have := partsT_len f hq 8 (by omega)
    simp only [List.length_append, hwl]
    omega))
  subst hW3
  clear hsz hbW hb0 hb1 hb2 hS3 hwl hE h hlen hq ht hb
  obtain ⟨px, hpx⟩ : ∃ px, partsT f q 8 = px := ⟨_, rfl⟩
  rw [hpx] at HV HLF ⊢
  clear hpx
  obtain ⟨word, subs, table, d, a, b', c, targets⟩ := f
  obtain ⟨qs, qn, ⟨qdk, qdn, qdv⟩, ⟨qak, qan, qav⟩, ⟨qbk, qbn, qbv⟩, ⟨qck, qcn, qcv⟩, qt0, qt1⟩ := q
  simp only [FormV.val, PartV.val, PartV.cells] at H1 HV HK1 HS3 HBW HLF ⊢
  go_enter Tryz.func86, Tryz.ntmps86
  go_wp2
  go_region_with (first | (go_at_call 83; (with_reducible refine (H1.out _ HS3.out.drew).mono ?_); rintro e w1 ⟨⟨v, rfl⟩, hq⟩; have HQ := Lib.hid (hq.after ((Below.refl _ _).drew)); clear hq))
  all_goals
    obtain ⟨ck0, ck1⟩ := HK1.out _ _ HQ.out
    go_wp2_with (first | (go_at_call 123; (with_reducible refine (HV.out _ HQ.out).mono ?_); rintro e w2 ⟨⟨v2, rfl⟩, hq⟩; have HQ2 := Lib.hid (HQ.out.next hq); clear hq; obtain ⟨cv0, cv1⟩ := HK1.out _ _ HQ2.out) | (go_at_call 85; (with_reducible refine (HLF.out _ HQ2.out.ws).mono ?_); rintro e w3 ⟨⟨v3, rfl⟩, hq⟩; have HQ3 := Lib.hid ((HQ2.out.next hq).after HBW.out); clear hq))
    go_end0
    exact ⟨⟨_, rfl⟩, HQ3.out⟩
end Go.Proofs.YtkncilgmlkeifaaGreatDoor
