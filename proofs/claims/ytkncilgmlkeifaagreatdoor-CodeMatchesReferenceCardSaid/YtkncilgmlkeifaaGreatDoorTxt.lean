import Derived.Test.YtkncilgmlkeifaaGreatDoorLin
import Derived.Test.YtkncilgmlkeifaaGreatDoorOth
import Derived.Test.YtkncilgmlkeifaaGreatDoorAll
import Derived.Test.YtkncilgmlkeifaaGreatDoorChk
/-
  Package code: the writer: the contract of parts.
-/
set_option linter.unusedVariables false
set_option linter.unusedSimpArgs false
set_option maxRecDepth 100000
set_option maxHeartbeats 16000000
namespace Go.Proofs.YtkncilgmlkeifaaGreatDoor
open Go.ChangeShapes Go.WideShapes Go.ChangeAt Go.RowKit Go.Shelf
def I32b (n : Int) : Prop := -2147483648 <= n /\ n <= 2147483647
structure OpdV.Rng (o : OpdV) : Prop where
 n : I64 o.n
 v : I32b o.v
structure PartV.Rng (q : PartV) : Prop where
 sub : I64 q.sub
 n : I64 q.n
 d : q.d.Rng
 a : q.a.Rng
 b : q.b.Rng
 c : q.c.Rng
 t0 : I64 q.t0
 t1 : I64 q.t1
def stepT (q : PartV) (s : Nat) : List UInt8 :=
 if s = 0 then 32 :: Lib.itoa q.sub else if s = 1 then 32 :: Lib.itoa q.n else if s = 2 then opdT q.d else if s = 3 then opdT q.a else if s = 4 then opdT q.b else if s = 5 then opdT q.c else if s = 6 then 32 :: Lib.itoa q.t0 else 32 :: Lib.itoa q.t1
def partsT (f : FormV) (q : PartV) : Nat -> List UInt8
 | 0 => []
 | s + 1 => partsT f q s ++ if f.want s = true then stepT q s else []
theorem opdT_len {o : OpdV} (h : o.Rng) : (opdT o).length <= 23 := by
 unfold opdT
 split
 . have := Lib.itoa_length_le o.v (by have := h.v.1; omega) (by have := h.v.2; omega)
   simp only [List.length_cons]; omega
 . have := Lib.itoa_length_le o.n h.n.1 h.n.2
   simp only [List.length_cons]; omega
theorem num_len {n : Int} (h : I64 n) : (32 :: Lib.itoa n : List UInt8).length <= 23 := by
 have := Lib.itoa_length_le n h.1 h.2
 simp only [List.length_cons]; omega
theorem stepT_len {q : PartV} (h : q.Rng) {s : Nat} (hs : s < 8) : (stepT q s).length <= 23 := by
 rcases lt8 hs with rfl | rfl | rfl | rfl | rfl | rfl | rfl | rfl
 . exact num_len h.sub
 . exact num_len h.n
 . exact opdT_len h.d
 . exact opdT_len h.a
 . exact opdT_len h.b
 . exact opdT_len h.c
 . exact num_len h.t0
 . exact num_len h.t1
theorem partsT_len (f : FormV) {q : PartV} (h : q.Rng) : ∀ s, s <= 8 -> (partsT f q s).length <= s * 23
 | 0, _ => Nat.le_refl _
 | s + 1, hs => by
  have h1 := partsT_len f h s (by omega)
  have h2 := stepT_len h (s := s) (by omega)
  simp only [partsT, List.length_append]
  split
  . omega
  . simp; omega
theorem cells_blk {w : World} {b : Nat} {C : Array Value} {T : TypeId} {fr : Nat × Nat} (h : w.heap[b]? = some (.cells C T fr)) (o : Nat) : w.cell? ⟨b, o, none⟩ = C[o]? := by simp [World.cell?, h]
theorem parts_any {w0 w : World} {b : Nat} {l : List UInt8} (f : FormV) (q : PartV) (hq : q.Rng) (ht : 0 <= f.targets /\ f.targets <= 2) (hb : b < w.heap.size) (hE : EnvT w0) (h : WS w0 b l w) (hlen : l.length + f.word.size + 1000 <= 140737488355328) :
 Calls Tryz.prog 86 #[.pointer (some ⟨b, 0, none⟩), f.val, q.val] w fun e w' => (∃ v, e = .returned v) /\ WQ w0 b (l ++ f.word.toList ++ partsT f q 8 ++ [10]) w w' := by
 obtain ⟨W3, hW3⟩ : ∃ W3 : World, ((w.alloc (.cells #[.pointer (some ⟨b, 0, none⟩)] 139)).alloc (.cells #[.string ⟨f.word⟩, .int .u32 f.subs, f.table, .bool f.d, .bool f.a, .bool f.b, .bool f.c, f.targets] 117)).alloc (.cells q.cells 147) = W3 := ⟨_, rfl⟩
 have hsz : W3.heap.size = w.heap.size + 3 := by rw [<- hW3]; simp
 have hbW : Below w.heap.size w W3 := by rw [<- hW3]; exact (((Below.refl _ _).alloc (Nat.le_refl _) _).alloc (by simp) _).alloc (by simp; omega) _
 have hb0 : W3.heap[w.heap.size]? = some (.cells #[.pointer (some ⟨b, 0, none⟩)] 139 (0, 0)) := by
  rw [<- hW3, Below.heap_alloc _ _ _ (by simp; omega), Below.heap_alloc _ _ _ (by simp)]
  exact heap_alloc_new _ _
 have hb1 : W3.heap[w.heap.size + 1]? = some (.cells #[.string ⟨f.word⟩, .int .u32 f.subs, f.table, .bool f.d, .bool f.a, .bool f.b, .bool f.c, f.targets] 117 (0, 0)) := by
  rw [<- hW3, Below.heap_alloc _ _ _ (by simp)]
  have h := heap_alloc_new (w.alloc (.cells #[.pointer (some ⟨b, 0, none⟩)] 139)) (.cells #[.string ⟨f.word⟩, .int .u32 f.subs, f.table, .bool f.d, .bool f.a, .bool f.b, .bool f.c, f.targets] 117)
  rw [World.size_alloc] at h
  exact h
 have hb2 : W3.heap[w.heap.size + 1 + 1]? = some (.cells q.cells 147 (0, 0)) := by
  rw [<- hW3]
  have h := heap_alloc_new ((w.alloc (.cells #[.pointer (some ⟨b, 0, none⟩)] 139)).alloc (.cells #[.string ⟨f.word⟩, .int .u32 f.subs, f.table, .bool f.d, .bool f.a, .bool f.b, .bool f.c, f.targets] 117)) (.cells q.cells 147)
  rw [World.size_alloc, World.size_alloc] at h
  exact h
 have hwl : f.word.toList.length = f.word.size := Array.length_toList
 have hS3 : WS w0 b l W3 := h.step hbW
 -- the word
 have H1 := lh (fun (W : World) (hW : WS w0 b l W) => ws_str (w := W) ⟨f.word⟩ hW (by show l.length + f.word.size <= _; omega))
 -- the visit
 have HV := lh (fun (W : World) (hW : WQ w0 b (l ++ f.word.toList) W3 W) => by
  have k0 := kept_blk hW.kept hb0 (by omega) (by decide)
  have k2 := kept_blk hW.kept hb2 (by omega) (by decide)
  have hszW : w.heap.size + 3 <= W.heap.size := by have := (Array.getElem?_eq_some_iff.1 (kept_blk hW.kept hb2 (by omega) (by decide))).1; omega
  have hbox : Below W.heap.size W (W.alloc (.cells #[.string ⟨f.word⟩, .int .u32 f.subs, f.table, .bool f.d, .bool f.a, .bool f.b, .bool f.c, f.targets] 117)) := (Below.refl _ _).alloc (Nat.le_refl _) _
  have kf : (W.alloc (.cells #[.string ⟨f.word⟩, .int .u32 f.subs, f.table, .bool f.d, .bool f.a, .bool f.b, .bool f.c, f.targets] 117)).heap[W.heap.size]? = some (.cells #[.string ⟨f.word⟩, .int .u32 f.subs, f.table, .bool f.d, .bool f.a, .bool f.b, .bool f.c, f.targets] 117 (0, 0)) := heap_alloc_new _ _
  exact show Calls Tryz.prog 123 #[f.val, .pointer (some ⟨w.heap.size + 1 + 1, 0, none⟩), .func (.func 124) #[] #[.pointer (some ⟨w.heap.size, 0, none⟩)], .func (.func 125) #[] #[.pointer (some ⟨w.heap.size, 0, none⟩)]] W fun e w' => (∃ v, e = .returned v) /\ WQ w0 b (l ++ f.word.toList ++ partsT f q 8) W w' from by
   refine (visit_1 f 124 125 (w.heap.size + 1 + 1) w.heap.size (fun s V => WQ w0 b (l ++ f.word.toList ++ partsT f q s) (W.alloc (.cells #[.string ⟨f.word⟩, .int .u32 f.subs, f.table, .bool f.d, .bool f.a, .bool f.b, .bool f.c, f.targets] 117)) V) W ht (enters_of Tryz.func124 (by kernel_rfl) rfl) (enters_of Tryz.func125 (by kernel_rfl) rfl) ?_ ?_ ?_ ?_ ?_).mono ?_
   . exact ⟨by rw [partsT, List.append_nil]; exact hW.ws.step hbox, Lib.OthersKept.refl _ _ _⟩
   . intro s V hV
     have hb := kept_blk hV.kept kf (by omega) (by decide)
     exact ⟨cell_blk hb rfl, cell_blk hb rfl, cell_blk hb rfl, cell_blk hb rfl, cell_blk hb rfl, cell_blk hb rfl, cell_blk hb rfl⟩
   . intro s V hs hw hV
     refine ⟨?_, hV.kept⟩
     rw [partsT, hw, if_neg (by decide), List.append_nil]
     exact hV.ws
   . intro s V hs hn hw hV
     have c0 := cell_blk (i := 0) (v := .pointer (some ⟨b, 0, none⟩)) (kept_blk hV.kept (hbox.block w.heap.size (by omega) |>.trans k0) (by omega) (by decide)) rfl
     have hp := kept_blk hV.kept (hbox.block (w.heap.size + 1 + 1) (by omega) |>.trans k2) (by omega) (by decide)
     have hpl := partsT_len f hq s (by omega)
     have hl : (l ++ f.word.toList ++ partsT f q s).length + 30 <= 140737488355328 := by
      simp only [List.length_append, hwl]
      omega
     have fin : ∀ n : Int, stepT q s = 32 :: Lib.itoa n -> ∀ e V', ((∃ v, e = Ending.returned v) /\ WQ w0 b (l ++ f.word.toList ++ partsT f q s ++ 32 :: Lib.itoa n) V V') -> ((∃ v, e = Ending.returned v) /\ WQ w0 b (l ++ f.word.toList ++ partsT f q (s + 1)) (W.alloc (.cells #[.string ⟨f.word⟩, .int .u32 f.subs, f.table, .bool f.d, .bool f.a, .bool f.b, .bool f.c, f.targets] 117)) V') := by
      intro n hn2 e V' ⟨h1, h2⟩
      refine ⟨h1, ?_⟩
      rw [partsT, if_pos hw, hn2, <- List.append_assoc]
      exact hV.next h2
     rcases lt8 hs with rfl | rfl | rfl | rfl | rfl | rfl | rfl | rfl
     all_goals first | (exfalso; revert hn; decide) | skip
     . exact (w124_any _ _ 0 q.sub c0 (cell_blk hp rfl) hq.sub hE hV.ws hl).mono (fin _ rfl)
     . exact (w124_any _ _ 1 q.n c0 (cell_blk hp rfl) hq.n hE hV.ws hl).mono (fin _ rfl)
     . exact (w124_any _ _ 14 q.t0 c0 (cell_blk hp rfl) hq.t0 hE hV.ws hl).mono (fin _ rfl)
     . exact (w124_any _ _ 15 q.t1 c0 (cell_blk hp rfl) hq.t1 hE hV.ws hl).mono (fin _ rfl)
   . intro s V hs hn hw hV
     have c0 := cell_blk (i := 0) (v := .pointer (some ⟨b, 0, none⟩)) (kept_blk hV.kept (hbox.block w.heap.size (by omega) |>.trans k0) (by omega) (by decide)) rfl
     have hp := kept_blk hV.kept (hbox.block (w.heap.size + 1 + 1) (by omega) |>.trans k2) (by omega) (by decide)
     have hpl := partsT_len f hq s (by omega)
     have hl : (l ++ f.word.toList ++ partsT f q s).length + 30 <= 140737488355328 := by
      simp only [List.length_append, hwl]
      omega
     have fin : ∀ o : OpdV, stepT q s = opdT o -> ∀ e V', ((∃ v, e = Ending.returned v) /\ WQ w0 b (l ++ f.word.toList ++ partsT f q s ++ opdT o) V V') -> ((∃ v, e = Ending.returned v) /\ WQ w0 b (l ++ f.word.toList ++ partsT f q (s + 1)) (W.alloc (.cells #[.string ⟨f.word⟩, .int .u32 f.subs, f.table, .bool f.d, .bool f.a, .bool f.b, .bool f.c, f.targets] 117)) V') := by
      intro o hn2 e V' ⟨h1, h2⟩
      refine ⟨h1, ?_⟩
      rw [partsT, if_pos hw, hn2, <- List.append_assoc]
      exact hV.next h2
     rcases lt8 hs with rfl | rfl | rfl | rfl | rfl | rfl | rfl | rfl
     all_goals first | (exfalso; revert hn; decide) | skip
     . exact (w125_any _ _ 2 q.d.k q.d.n q.d.v c0 (cell_blk hp rfl) (cell_blk hp rfl) (cell_blk hp rfl) hq.d.n hq.d.v hE hV.ws hl).mono (fin _ rfl)
     . exact (w125_any _ _ 5 q.a.k q.a.n q.a.v c0 (cell_blk hp rfl) (cell_blk hp rfl) (cell_blk hp rfl) hq.a.n hq.a.v hE hV.ws hl).mono (fin _ rfl)
     . exact (w125_any _ _ 8 q.b.k q.b.n q.b.v c0 (cell_blk hp rfl) (cell_blk hp rfl) (cell_blk hp rfl) hq.b.n hq.b.v hE hV.ws hl).mono (fin _ rfl)
     . exact (w125_any _ _ 11 q.c.k q.c.n q.c.v c0 (cell_blk hp rfl) (cell_blk hp rfl) (cell_blk hp rfl) hq.c.n hq.c.v hE hV.ws hl).mono (fin _ rfl)
   . rintro e V ⟨hv, hV⟩
     exact ⟨hv, hV.after hbox⟩)
 have HK1 := lh (fun (W : World) (l' : List UInt8) (hW : WQ w0 b l' W3 W) => And.intro (cells_blk (kept_blk hW.kept hb0 (by omega) (by decide))) (cells_blk (kept_blk hW.kept hb1 (by omega) (by decide))))
 have HS3 := lh hS3
 have HBW := lh hbW
 have HLF := lh (fun (W : World) (hW : WS w0 b (l ++ f.word.toList ++ partsT f q 8) W) => ws_lf (w := W) hW (by
  have := partsT_len f hq 8 (by omega)
  simp only [List.length_append, hwl]
  omega))
 subst hW3
 clear hsz hbW hb0 hb1 hb2 hS3 hwl hE h hlen hq ht hb
 obtain ⟨px, hpx⟩ : ∃ px, partsT f q 8 = px := ⟨_, rfl⟩
 rw [hpx] at HV HLF ⊢
 clear hpx
 obtain ⟨word, subs, table, d, a, b', c, targets⟩ := f
 obtain ⟨qs, qn, ⟨qdk, qdn, qdv⟩, ⟨qak, qan, qav⟩, ⟨qbk, qbn, qbv⟩, ⟨qck, qcn, qcv⟩, qt0, qt1⟩ := q
 simp only [FormV.val, PartV.val, PartV.cells] at H1 HV HK1 HS3 HBW HLF ⊢
 go_enter Tryz.func86, Tryz.ntmps86
 go_wp2
 go_region_with (first | (go_at_call 83; (with_reducible refine (H1.out _ HS3.out.drew).mono ?_); rintro e w1 ⟨⟨v, rfl⟩, hq⟩; have HQ := lh (hq.after ((Below.refl _ _).drew)); clear hq))
 all_goals
  obtain ⟨ck0, ck1⟩ := HK1.out _ _ HQ.out
  go_wp2_with (first | (go_at_call 123; (with_reducible refine (HV.out _ HQ.out).mono ?_); rintro e w2 ⟨⟨v2, rfl⟩, hq⟩; have HQ2 := lh (HQ.out.next hq); clear hq; obtain ⟨cv0, cv1⟩ := HK1.out _ _ HQ2.out) | (go_at_call 85; (with_reducible refine (HLF.out _ HQ2.out.ws).mono ?_); rintro e w3 ⟨⟨v3, rfl⟩, hq⟩; have HQ3 := lh ((HQ2.out.next hq).after HBW.out); clear hq))
  go_end0
  exact ⟨⟨_, rfl⟩, HQ3.out⟩
theorem WQ.step {w0 w w1 w2 : World} {b : Nat} {l : List UInt8} (h : WQ w0 b l w w1) (hb : Below w1.heap.size w1 w2) : WQ w0 b l w w2 := ⟨h.ws.step hb, h.kept.trans (others_of_below hb)⟩
theorem WQ.drew {w0 w w1 : World} {b : Nat} {l : List UInt8} (h : WQ w0 b l w w1) : WQ w0 b l w w1.drew := ⟨h.ws.drew, h.kept⟩
def instT (i : InstV) : List UInt8 := (instF i.op).word.toList ++ partsT (instF i.op) i.parts 8 ++ [10]
def endT (t : TermV) : List UInt8 := (endF t.kind).word.toList ++ partsT (endF t.kind) t.parts 8 ++ [10]
def instsT (I : Nat -> InstV) : Nat -> List UInt8
 | 0 => []
 | k + 1 => instsT I k ++ instT (I k)
def blockT (n : Nat) (I : Nat -> InstV) (t : TermV) : List UInt8 := [98, 108, 111, 99, 107, 10] ++ instsT I n ++ endT t
theorem instF_fit (op : Int) : (instF op).word.size <= 10 /\ 0 <= (instF op).targets /\ (instF op).targets <= 2 := by
 cases h : instOK op
 . rw [instF_no h]; decide
 . have h1 : 1 <= op /\ op <= 12 := by simpa [instOK] using h
   have hop : op = 1 \/ op = 2 \/ op = 3 \/ op = 4 \/ op = 5 \/ op = 6 \/ op = 7 \/ op = 8 \/ op = 9 \/ op = 10 \/ op = 11 \/ op = 12 := by omega
   rcases hop with rfl | rfl | rfl | rfl | rfl | rfl | rfl | rfl | rfl | rfl | rfl | rfl <;> decide
theorem endF_fit (op : Int) : (endF op).word.size <= 10 /\ 0 <= (endF op).targets /\ (endF op).targets <= 2 := by
 cases h : endOK op
 . rw [endF_no h]; decide
 . have h1 : 1 <= op /\ op <= 5 := by simpa [endOK] using h
   have hop : op = 1 \/ op = 2 \/ op = 3 \/ op = 4 \/ op = 5 := by omega
   rcases hop with rfl | rfl | rfl | rfl | rfl <;> decide
theorem instT_len {i : InstV} (h : i.parts.Rng) : (instT i).length <= 200 := by
 have h1 := (instF_fit i.op).1
 have h2 := partsT_len (instF i.op) h 8 (by omega)
 have h3 : (instF i.op).word.toList.length = (instF i.op).word.size := Array.length_toList
 simp only [instT, List.length_append, List.length_cons, List.length_nil]
 omega
theorem endT_len {i : TermV} (h : i.parts.Rng) : (endT i).length <= 200 := by
 have h1 := (endF_fit i.kind).1
 have h2 := partsT_len (endF i.kind) h 8 (by omega)
 have h3 : (endF i.kind).word.toList.length = (endF i.kind).word.size := Array.length_toList
 simp only [endT, List.length_append, List.length_cons, List.length_nil]
 omega
theorem instsT_len {I : Nat -> InstV} {n : Nat} (h : ∀ j, j < n -> (I j).parts.Rng) : ∀ k, k <= n -> (instsT I k).length <= k * 200
 | 0, _ => Nat.le_refl _
 | k + 1, hk => by
  have h1 := instsT_len h k (by omega)
  have h2 := instT_len (h k (by omega))
  simp only [instsT, List.length_append]
  omega
theorem blockT_len {I : Nat -> InstV} {n : Nat} {t : TermV} (h : ∀ j, j < n -> (I j).parts.Rng) (ht : t.parts.Rng) : (blockT n I t).length <= n * 200 + 206 := by
 have h1 := instsT_len h n (Nat.le_refl _)
 have h2 := endT_len ht
 simp only [blockT, List.length_append, List.length_cons, List.length_nil]
 omega
theorem block_any {w0 w : World} {b : Nat} {l : List UInt8} (IA : Option Addr) (IL IC : Nat) (I : Nat -> InstV) (t : TermV) (hI : RIn w0 w0.heap.size IA IL I) (hIL : IL <= 65536) (hb : b < w.heap.size) (hrI : ∀ j, j < IL -> (I j).parts.Rng) (hrt : t.parts.Rng) (hE : EnvT w0) (h : WS w0 b l w) (hlen : l.length + IL * 200 + 5000 <= 140737488355328) :
 Calls Tryz.prog 49 #[.pointer (some ⟨b, 0, none⟩), .agg #[.slice IA IL IC, t.kind, t.sub, t.d.k, t.d.n, .int .i32 t.d.v, t.a.k, t.a.n, .int .i32 t.a.v, t.b.k, t.b.n, .int .i32 t.b.v, t.t0, t.t1]] w fun e w' => (∃ v, e = .returned v) /\ WQ w0 b (l ++ blockT IL I t) w w' := by
 have HBX := lh (show Below w.heap.size w (w.alloc (.cells #[.slice IA IL IC, t.kind, t.sub, t.d.k, t.d.n, .int .i32 t.d.v, t.a.k, t.a.n, .int .i32 t.a.v, t.b.k, t.b.n, .int .i32 t.b.v, t.t0, t.t1] 55)) from (Below.refl _ _).alloc (Nat.le_refl _) _)
 have HB0 := lh (show (w.alloc (.cells #[.slice IA IL IC, t.kind, t.sub, t.d.k, t.d.n, .int .i32 t.d.v, t.a.k, t.a.n, .int .i32 t.a.v, t.b.k, t.b.n, .int .i32 t.b.v, t.t0, t.t1] 55)).heap[w.heap.size]? = some (.cells #[.slice IA IL IC, t.kind, t.sub, t.d.k, t.d.n, .int .i32 t.d.v, t.a.k, t.a.n, .int .i32 t.a.v, t.b.k, t.b.n, .int .i32 t.b.v, t.t0, t.t1] 55 (0, 0)) from heap_alloc_new _ _)
 have HL := lh (line_any (w := w.alloc (.cells #[.slice IA IL IC, t.kind, t.sub, t.d.k, t.d.n, .int .i32 t.d.v, t.a.k, t.a.n, .int .i32 t.a.v, t.b.k, t.b.n, .int .i32 t.b.v, t.t0, t.t1] 55)) ⟨#[98, 108, 111, 99, 107]⟩ none 0 0 (fun _ => 0) (by omega) (fun j hj => absurd hj (by omega)) (fun hn => absurd hn (by omega)) hE (h.step HBX.out) (by
  have : (⟨#[98, 108, 111, 99, 107]⟩ : ByteArray).size = 5 := rfl
  omega))
 have HP := lh (fun (k : Nat) (W : World) (hk : k < IL) (hbW : b < W.heap.size) (hW : WS w0 b (l ++ [98, 108, 111, 99, 107, 10] ++ instsT I k) W) => parts_any (w := W) (instF (I k).op) (I k).parts (hrI k hk) (instF_fit _).2 hbW hE hW (by
  have h1 := instsT_len hrI k (by omega)
  have h2 := (instF_fit (I k).op).1
  simp only [List.length_append, List.length_cons, List.length_nil]
  omega))
 have HT := lh (fun (W : World) (hbW : b < W.heap.size) (hW : WS w0 b (l ++ [98, 108, 111, 99, 107, 10] ++ instsT I IL) W) => parts_any (w := W) (endF t.kind) t.parts hrt (endF_fit _).2 hbW hE hW (by
  have h1 := instsT_len hrI IL (by omega)
  have h2 := (endF_fit t.kind).1
  simp only [List.length_append, List.length_cons, List.length_nil]
  omega))
 have HIN := lh hI
 have HF := lh (fun (op : Int) (W : World) => instForm_any op W)
 have HG := lh (fun (i : InstV) (W : World) => instParts_any i W)
 have HF2 := lh (fun (W : World) => endForm_any t.kind W)
 have HG2 := lh (fun (W : World) => endParts_any t W)
 have HLT := lh hb
 clear hI hrI hrt hE h hlen hb
 simp only [TermV.val] at HG2
 go_enter Tryz.func49, Tryz.ntmps49
 go_wp2_with (first | (go_at_call 48; (with_reducible refine HL.out.mono ?_); rintro e w1 ⟨⟨v, rfl⟩, hq⟩; have HQ := lh (show WQ w0 b (l ++ [98, 108, 111, 99, 107, 10] ++ instsT I 0) (w.alloc (.cells #[.slice IA IL IC, t.kind, t.sub, t.d.k, t.d.n, .int .i32 t.d.v, t.a.k, t.a.n, .int .i32 t.a.v, t.b.k, t.b.n, .int .i32 t.b.v, t.t0, t.t1] 55)) w1 from by simpa [numsT, instsT] using hq); clear hq; have cb := cells_blk (kept_blk HQ.out.kept HB0.out (by have := HLT.out; omega) (by decide))))
 go_loopw [5, 11] (fun x i wr => ∃ k : Nat, k <= IL /\ i = .int .i64 k /\ Hid (WQ w0 b (l ++ [98, 108, 111, 99, 107, 10] ++ instsT I k) (w.alloc (.cells #[.slice IA IL IC, t.kind, t.sub, t.d.k, t.d.n, .int .i32 t.d.v, t.a.k, t.a.n, .int .i32 t.a.v, t.b.k, t.b.n, .int .i32 t.b.v, t.t0, t.t1] 55)) wr)) (fun _ i _ => IL - (intOf i).toNat)
 case atStart => exact ⟨0, Nat.zero_le _, rfl, HQ⟩
 case round =>
  obtain ⟨k, hk, rfl, HK⟩ := hrel
  clear cb
  by_cases hlt : k < IL
  . obtain ⟨bb, off, rfl, hbb, hc⟩ := (HIN.out.below HK.out.ws.on) (by omega)
    obtain ⟨m0, m1, m2, m3, _, _, _, _, _, _, _, _, _, _, _⟩ := hc k hlt
    clear hbb hc
    have HFk := lh (fun W => HF.out (I k).op W)
    have HGk := lh (fun W => HG.out (I k) W)
    have HPk := lh (fun (W : World) hbW hW => HP.out k W hlt hbW hW)
    have HXB := lh (show (wr.alloc (.cells #[(I k).op, (I k).sub, (I k).n, (I k).d.k, (I k).d.n, .int .i32 (I k).d.v, (I k).a.k, (I k).a.n, .int .i32 (I k).a.v, (I k).b.k, (I k).b.n, .int .i32 (I k).b.v, (I k).c.k, (I k).c.n, .int .i32 (I k).c.v] 61)).drew.heap[wr.heap.size]? = some (.cells #[(I k).op, (I k).sub, (I k).n, (I k).d.k, (I k).d.n, .int .i32 (I k).d.v, (I k).a.k, (I k).a.n, .int .i32 (I k).a.v, (I k).b.k, (I k).b.n, .int .i32 (I k).b.v, (I k).c.k, (I k).c.n, .int .i32 (I k).c.v] 61 (0, 0)) from heap_alloc_new _ _)
    have HX := lh ((HK.out.step ((Below.refl wr.heap.size wr).alloc (Nat.le_refl _) (.cells #[(I k).op, (I k).sub, (I k).n, (I k).d.k, (I k).d.n, .int .i32 (I k).d.v, (I k).a.k, (I k).a.n, .int .i32 (I k).a.v, (I k).b.k, (I k).b.n, .int .i32 (I k).b.v, (I k).c.k, (I k).c.n, .int .i32 (I k).c.v] 61))).drew)
    have HLT2 := lh (show b < (wr.alloc (.cells #[(I k).op, (I k).sub, (I k).n, (I k).d.k, (I k).d.n, .int .i32 (I k).d.v, (I k).a.k, (I k).a.n, .int .i32 (I k).a.v, (I k).b.k, (I k).b.n, .int .i32 (I k).b.v, (I k).c.k, (I k).c.n, .int .i32 (I k).c.v] 61)).drew.heap.size from by
     have h1 := (Array.getElem?_eq_some_iff.1 (kept_blk HK.out.kept HB0.out (by have := HLT.out; omega) (by decide))).1
     have h2 := HLT.out
     show b < (wr.alloc _).heap.size
     rw [World.size_alloc]
     omega)
    have HWR := lh (show b < wr.heap.size from by
     have h1 := (Array.getElem?_eq_some_iff.1 (kept_blk HK.out.kept HB0.out (by have := HLT.out; omega) (by decide))).1
     have h2 := HLT.out
     omega)
    obtain ⟨ff, hff⟩ : ∃ ff, instF (I k).op = ff := ⟨_, rfl⟩
    obtain ⟨pp, hpp⟩ : ∃ pp, (I k).parts = pp := ⟨_, rfl⟩
    have HIT := lh (show instT (I k) = ff.word.toList ++ partsT ff pp 8 ++ [10] from by rw [<- hff, <- hpp]; rfl)
    rw [hff] at HFk HPk
    rw [hpp] at HGk HPk
    clear hff hpp
    obtain ⟨fw, fs, ft, fd, fa, fb, fc, fg⟩ := ff
    obtain ⟨rs, rn, ⟨rdk, rdn, rdv⟩, ⟨rak, ran, rav⟩, ⟨rbk, rbn, rbv⟩, ⟨rck, rcn, rcv⟩, rt0, rt1⟩ := pp
    simp only [FormV.val, PartV.val, InstV.val] at HFk HGk HPk
    go_wp2
    go_region_held3 (fun w' => (∀ o : Nat, w'.cell? ⟨wr.heap.size, o, none⟩ = (#[(I k).op, (I k).sub, (I k).n, (I k).d.k, (I k).d.n, .int .i32 (I k).d.v, (I k).a.k, (I k).a.n, .int .i32 (I k).a.v, (I k).b.k, (I k).b.n, .int .i32 (I k).b.v, (I k).c.k, (I k).c.n, .int .i32 (I k).c.v] : Array Value)[o]?) /\ True) (exact ⟨cells_blk HXB.out, trivial⟩)
     (first
      | ((first | go_at_call 87 | go_at_call 88); (with_reducible first | refine (HFk.out _).mono ?_ | refine (HGk.out _).mono ?_); rintro e w1 ⟨rfl, hb1⟩; have HX2 := lh (HX.out.step hb1); have HXB2 := lh ((hb1.block _ (Array.getElem?_eq_some_iff.1 HXB.out).1).trans HXB.out); have HLT3 := lh (Nat.lt_of_lt_of_le HLT2.out hb1.size); clear HX HXB HLT2 hb1; have HX := HX2; have HXB := HXB2; have HLT2 := HLT3; clear HX2 HXB2 HLT3)
      | (go_at_call 86; (with_reducible refine (HPk.out _ HLT2.out HX.out.ws).mono ?_); rintro e w1 ⟨⟨v1, rfl⟩, hq⟩; have HXB2 := lh (kept_blk hq.kept HXB.out (by have := HWR.out; omega) (by decide)); have HZ := lh (HX.out.next hq); clear HXB hq; have HXB := HXB2; clear HXB2))
    all_goals
     go_wp2
     go_roundw
     case rel => exact ⟨k + 1, by omega, by go_num, lh (by rw [instsT, HIT.out, <- List.append_assoc, <- List.append_assoc, <- List.append_assoc]; exact HZ.out)⟩
     case measure => simp [intOf]; omega
  . obtain rfl : IL = k := by omega
    have HX := lh HK.out.drew
    have HXB := lh (show wr.drew.heap[w.heap.size]? = some (.cells #[.slice IA IL IC, t.kind, t.sub, t.d.k, t.d.n, .int .i32 t.d.v, t.a.k, t.a.n, .int .i32 t.a.v, t.b.k, t.b.n, .int .i32 t.b.v, t.t0, t.t1] 55 (0, 0)) from kept_blk HK.out.kept HB0.out (by have := HLT.out; omega) (by decide))
    have cb := cells_blk (w := wr) (fr := (0, 0)) HXB.out
    have HLT2 := lh (show b < wr.drew.heap.size from by
     have h1 := (Array.getElem?_eq_some_iff.1 HXB.out).1
     have h2 := HLT.out
     omega)
    obtain ⟨ff, hff⟩ : ∃ ff, endF t.kind = ff := ⟨_, rfl⟩
    obtain ⟨pp, hpp⟩ : ∃ pp, t.parts = pp := ⟨_, rfl⟩
    have HIT := lh (show endT t = ff.word.toList ++ partsT ff pp 8 ++ [10] from by rw [<- hff, <- hpp]; rfl)
    rw [hff] at HF2 HT
    rw [hpp] at HG2 HT
    clear hff hpp
    obtain ⟨fw, fs, ft, fd, fa, fb, fc, fg⟩ := ff
    obtain ⟨rs, rn, ⟨rdk, rdn, rdv⟩, ⟨rak, ran, rav⟩, ⟨rbk, rbn, rbv⟩, ⟨rck, rcn, rcv⟩, rt0, rt1⟩ := pp
    simp only [FormV.val, PartV.val] at HF2 HG2 HT
    go_wp2
    go_region_held3 (fun w' => (∀ o : Nat, w'.cell? ⟨w.heap.size, o, none⟩ = (#[.slice IA IL IC, t.kind, t.sub, t.d.k, t.d.n, .int .i32 t.d.v, t.a.k, t.a.n, .int .i32 t.a.v, t.b.k, t.b.n, .int .i32 t.b.v, t.t0, t.t1] : Array Value)[o]?) /\ True) (exact ⟨cells_blk HXB.out, trivial⟩)
     (first
      | ((first | go_at_call 58 | go_at_call 89); (with_reducible first | refine (HF2.out _).mono ?_ | refine (HG2.out _).mono ?_); rintro e w1 ⟨rfl, hb1⟩; have HX2 := lh (HX.out.step hb1); have HXB2 := lh ((hb1.block _ (Array.getElem?_eq_some_iff.1 HXB.out).1).trans HXB.out); have HLT3 := lh (Nat.lt_of_lt_of_le HLT2.out hb1.size); clear HX HXB HLT2 hb1; have HX := HX2; have HXB := HXB2; have HLT2 := HLT3; clear HX2 HXB2 HLT3)
      | (go_at_call 86; (with_reducible refine (HT.out _ HLT2.out HX.out.ws).mono ?_); rintro e w1 ⟨⟨v1, rfl⟩, hq⟩; have HXB2 := lh (kept_blk hq.kept HXB.out (by have := HLT.out; omega) (by decide)); have HZ := lh ((HX.out.next hq).after HBX.out); clear HXB hq; have HXB := HXB2; clear HXB2))
    all_goals
     go_wp2
     go_end0
     exact ⟨⟨_, rfl⟩, by rw [blockT, HIT.out]; simpa only [List.append_assoc] using HZ.out⟩
theorem OneK.blk {w wx : World} {T : TypeId} {K : Array Value} (h : OneK w T K wx) : wx.heap[w.heap.size]? = some (.cells K T (0, 0)) := (h.on.block w.heap.size (by omega)).trans (heap_alloc_new _ _)
theorem ws_fresh {w W : World} (h : Below w.heap.size w W) : WS w W.heap.size [] (W.alloc (.cells #[.pointer none, .slice none 0 0] 102)) :=
 ⟨.inl ⟨h.size, _, heap_alloc_new _ _, World.ownsRowF_of (World.ownsRow_nil _ _ _ _), by simp [Value.ownBlock]⟩, h.alloc h.size _⟩
def f3 (x y z : Int) (j : Nat) : Int := if j = 0 then x else if j = 1 then y else z
def f5 (x y z u v : Int) (j : Nat) : Int := if j = 0 then x else if j = 1 then y else if j = 2 then z else if j = 3 then u else v
theorem rik3 {W : World} {b : Nat} (x y z : Int) (hb : b ≠ W.heap.size) : RIk (W.alloc (.cells #[x, y, z] 3)) b (some ⟨W.heap.size, 0, none⟩) 3 (f3 x y z) :=
 fun _ => ⟨W.heap.size, 0, _, 3, (0, 0), rfl, fun e => hb e.symm, heap_alloc_new _ _, by decide, fun j hj => by
  have hj3 : j = 0 \/ j = 1 \/ j = 2 := by omega
  rcases hj3 with rfl | rfl | rfl <;> rfl⟩
theorem rik5 {W : World} {b : Nat} (x y z u v : Int) (hb : b ≠ W.heap.size) : RIk (W.alloc (.cells #[x, y, z, u, v] 3)) b (some ⟨W.heap.size, 0, none⟩) 5 (f5 x y z u v) :=
 fun _ => ⟨W.heap.size, 0, _, 3, (0, 0), rfl, fun e => hb e.symm, heap_alloc_new _ _, by decide, fun j hj => by
  have hj3 : j = 0 \/ j = 1 \/ j = 2 \/ j = 3 \/ j = 4 := by omega
  rcases hj3 with rfl | rfl | rfl | rfl | rfl <;> rfl⟩
theorem f3_rng {x y z : Int} (hx : I64 x) (hy : I64 y) (hz : I64 z) (j : Nat) : I64 (f3 x y z j) := by
 unfold f3
 repeat' split
 all_goals assumption
theorem f5_rng {x y z u v : Int} (hx : I64 x) (hy : I64 y) (hz : I64 z) (hu : I64 u) (hv : I64 v) (j : Nat) : I64 (f5 x y z u v j) := by
 unfold f5
 repeat' split
 all_goals assumption
def headT (g s r sl p : Int) : List UInt8 := [99, 111, 100, 101] ++ numsT (f5 g s r sl p) 5 ++ [10]
def arrT (nm : ByteArray) (sp ty ln : Int) : List UInt8 := ([97, 114, 114, 97, 121, 32] ++ nm.data.toList) ++ numsT (f3 sp ty ln) 3 ++ [10]
def loopT (hd rg bd : Int) : List UInt8 := [108, 111, 111, 112] ++ numsT (f3 hd rg bd) 3 ++ [10]
def catT (F : Nat -> List UInt8) : Nat -> List UInt8
 | 0 => []
 | k + 1 => catT F k ++ F k
theorem catT_len {F : Nat -> List UInt8} {n m : Nat} (h : ∀ j, j < n -> (F j).length <= m) : ∀ k, k <= n -> (catT F k).length <= k * m
 | 0, _ => by simp [catT]
 | k + 1, hk => by
  have h1 := catT_len h k (by omega)
  have h2 := h k (by omega)
  simp only [catT, List.length_append, Nat.succ_mul]
  omega
def textT (g s r sl p : Int) (n1 n2 n3 : Nat) (nm : Nat -> ByteArray) (sp ty ln hd rg bd : Nat -> Int) (IL : Nat -> Nat) (I : Nat -> Nat -> InstV) (T : Nat -> TermV) : List UInt8 :=
 headT g s r sl p ++ catT (fun j => arrT (nm j) (sp j) (ty j) (ln j)) n1 ++ catT (fun j => loopT (hd j) (rg j) (bd j)) n2 ++ catT (fun j => blockT (IL j) (I j) (T j)) n3
theorem headT_len {g s r sl p : Int} (h : ∀ j, j < 5 -> I64 (f5 g s r sl p j)) : (headT g s r sl p).length <= 200 := by
 have := numsT_len h 5 (Nat.le_refl _)
 simp only [headT, List.length_append, List.length_cons, List.length_nil]
 omega
theorem arrT_len {nm : ByteArray} {sp ty ln : Int} (hn : nm.size <= 12) (h : ∀ j, j < 3 -> I64 (f3 sp ty ln j)) : (arrT nm sp ty ln).length <= 200 := by
 have := numsT_len h 3 (Nat.le_refl _)
 have h2 : nm.data.toList.length = nm.size := Array.length_toList
 simp only [arrT, List.length_append, List.length_cons, List.length_nil]
 omega
theorem loopT_len {hd rg bd : Int} (h : ∀ j, j < 3 -> I64 (f3 hd rg bd j)) : (loopT hd rg bd).length <= 200 := by
 have := numsT_len h 3 (Nat.le_refl _)
 simp only [loopT, List.length_append, List.length_cons, List.length_nil]
 omega
section
variable (g s r sl p : Int) (n1 c1 n2 c2 n3 c3 : Nat) (A1 A2 A3 : Option Addr) (nm : Nat -> ByteArray) (sp ty ln : Nat -> Int)
variable (hd rg bd : Nat -> Int) (IA : Nat -> Option Addr) (IL IC : Nat -> Nat) (I : Nat -> Nat -> InstV) (T : Nat -> TermV)
structure CodeR : Prop where
 head : I64 g /\ I64 s /\ I64 r /\ I64 sl /\ I64 p
 arr : ∀ j, I64 (sp j) /\ I64 (ty j) /\ I64 (ln j)
 loops : ∀ j, I64 (hd j) /\ I64 (rg j) /\ I64 (bd j)
 insts : ∀ j k, j < n3 -> k < IL j -> (I j k).parts.Rng
 terms : ∀ j, j < n3 -> (T j).parts.Rng
theorem checkE_ok {g s r sl p : Int} {n1 n2 n3 : Nat} {nm : Nat -> ByteArray} {sp ty ln hd rg bd : Nat -> Int} {IL : Nat -> Nat} {I : Nat -> Nat -> InstV} {T : Nat -> TermV} (h : checkE g s r sl p n1 n2 n3 nm sp ty ln hd rg bd IL I T = 0) :
 n1 <= 8 /\ n2 <= 400 /\ n3 <= 400 /\ ∀ j, j < n1 -> (nm j).size <= 12 := by
 unfold checkE at h
 split at h
 . rename_i hl
   have hb := limB_bounds hl
   refine ⟨hb.1, hb.2.1, hb.2.2.1, fun j hj => ?_⟩
   unfold limB at hl
   simp only [Bool.and_eq_true, List.all_eq_true] at hl
   have := hl.2.2.2.2.2.2.2 j (by simpa using hj)
   simp only [decide_eq_true_eq] at this
   omega
 . cases h
theorem bappq (p : Array UInt8) (q : ByteArray) : ((⟨p⟩ : ByteArray) ++ q : ByteArray).data.toList = p.toList ++ q.data.toList := by
 simp [ByteArray.data_append]
theorem bappq_size (p : Array UInt8) (q : ByteArray) : ((⟨p⟩ : ByteArray) ++ q : ByteArray).size = p.size + q.size := by
 show (_ : Array UInt8).size = _
 simp [ByteArray.data_append]
theorem line_sum {w0 w : World} {b : Nat} {l : List UInt8} (p : Array UInt8) (q : ByteArray) (A : Option Addr) (n c : Nat) (f : Nat -> Int) (hn : n <= 1000) (hf : ∀ j, j < n -> I64 (f j)) (hR : RIk w b A n f) (hE : EnvT w0) (h : WS w0 b l w) (hlen : l.length + (p.size + q.size) + n * 30 + 100 <= 140737488355328) :
 Calls Tryz.prog 48 #[.pointer (some ⟨b, 0, none⟩), .string (⟨p⟩ ++ q), .slice A n c] w fun e w' => (∃ v, e = .returned v) /\ WQ w0 b (l ++ (p.toList ++ q.data.toList) ++ numsT f n ++ [10]) w w' := by
 have H := line_any (⟨p⟩ ++ q) A n c f hn hf hR hE h (by rw [bappq_size]; exact hlen)
 rw [bappq] at H
 exact H
theorem Text_err (w : World) (hc : CodeM n1 n2 n3 A1 A2 A3 nm sp ty ln hd rg bd IA IL IC I T w w.heap.size) (hm1 : n1 <= 9223372036854775807) (hm2 : n2 <= 9223372036854775807) (hm3 : n3 <= 9223372036854775807) (hz : checkE g s r sl p n1 n2 n3 nm sp ty ln hd rg bd IL I T ≠ 0) :
 Calls Tryz.prog 15 #[.agg #[g, s, r, sl, p, .slice A1 n1 c1, .slice A2 n2 c2, .slice A3 n3 c3]] w fun e w' => e = .returned (.tuple #[.string ⟨#[]⟩, (checkE g s r sl p n1 n2 n3 nm sp ty ln hd rg bd IL I T)]) /\ Below w.heap.size w w' := by
 have HC := lh (fun (W : World) (hW : OneK w 36 #[g, s, r, sl, p, .slice A1 n1 c1, .slice A2 n2 c2, .slice A3 n3 c3] W) => Check_any g s r sl p n1 c1 n2 c2 n3 c3 A1 A2 A3 nm sp ty ln hd rg bd IA IL IC I T W (hc.at hW.below) hm1 hm2 hm3)
 obtain ⟨z, hzz⟩ : ∃ z, checkE g s r sl p n1 n2 n3 nm sp ty ln hd rg bd IL I T = z := ⟨_, rfl⟩
 rw [hzz] at HC hz ⊢
 have hzb : (z != 0) = true := by simpa using hz
 clear hc hzz hz
 have HK0 := lh (OneK.start (w := w) (T := 36) (K := #[g, s, r, sl, p, .slice A1 n1 c1, .slice A2 n2 c2, .slice A3 n3 c3]))
 go_enter Tryz.func15, Tryz.ntmps15
 go_wp2_with (first | (go_at_call 17; (with_reducible refine (HC.out _ HK0.out).mono ?_); rintro e w1 ⟨rfl, hb1⟩; have HK := lh (HK0.out.step hb1); clear hb1))
 go_ret2
 exact ⟨rfl, HK.out.below⟩
theorem Text_ok (w : World) (hc : CodeM n1 n2 n3 A1 A2 A3 nm sp ty ln hd rg bd IA IL IC I T w w.heap.size) (hr : CodeR g s r sl p n3 sp ty ln hd rg bd IL I T) (hE : EnvT w) (hz : checkE g s r sl p n1 n2 n3 nm sp ty ln hd rg bd IL I T = 0) (hm1 : n1 <= 9223372036854775807) (hm2 : n2 <= 9223372036854775807) (hm3 : n3 <= 9223372036854775807) :
 Calls Tryz.prog 15 #[.agg #[g, s, r, sl, p, .slice A1 n1 c1, .slice A2 n2 c2, .slice A3 n3 c3]] w fun e w' => e = .returned (.tuple #[.string ⟨(textT g s r sl p n1 n2 n3 nm sp ty ln hd rg bd IL I T).toArray⟩, (0:Int)]) /\ Below w.heap.size w w' := by
 obtain ⟨q1, q2, q3, qn⟩ := checkE_ok hz
 have HC := lh (fun (W : World) (hW : OneK w 36 #[g, s, r, sl, p, .slice A1 n1 c1, .slice A2 n2 c2, .slice A3 n3 c3] W) => Check_any g s r sl p n1 c1 n2 c2 n3 c3 A1 A2 A3 nm sp ty ln hd rg bd IA IL IC I T W (hc.at hW.below) hm1 hm2 hm3)
 rw [hz] at HC
 have R5 := fun j (_ : j < 5) => f5_rng hr.head.1 hr.head.2.1 hr.head.2.2.1 hr.head.2.2.2.1 hr.head.2.2.2.2 j
 have RA := fun i j (_ : j < 3) => f3_rng (hr.arr i).1 (hr.arr i).2.1 (hr.arr i).2.2 j
 have RL := fun i j (_ : j < 3) => f3_rng (hr.loops i).1 (hr.loops i).2.1 (hr.loops i).2.2 j
 have L0 := headT_len R5
 have L1 : ∀ k, k <= n1 -> (catT (fun j => arrT (nm j) (sp j) (ty j) (ln j)) k).length <= k * 200 := catT_len (fun j hj => arrT_len (qn j hj) (RA j))
 have L2 : ∀ k, k <= n2 -> (catT (fun j => loopT (hd j) (rg j) (bd j)) k).length <= k * 200 := catT_len (fun j hj => loopT_len (RL j))
 have L3 : ∀ k, k <= n3 -> (catT (fun j => blockT (IL j) (I j) (T j)) k).length <= k * 14000000 := catT_len (fun j hj => by
  have h1 := blockT_len (n := IL j) (I := I j) (t := T j) (fun i hi => hr.insts j i hj hi) (hr.terms j hj)
  have h2 := hc.lens j hj
  omega)
 have HL0 := lh (fun (W : World) (hW : OneK w 36 #[g, s, r, sl, p, .slice A1 n1 c1, .slice A2 n2 c2, .slice A3 n3 c3] W) => line_any (w0 := w) (w := (W.alloc (.cells #[.pointer none, .slice none 0 0] 102)).alloc (.cells #[g, s, r, sl, p] 3)) (b := W.heap.size) (l := []) ⟨#[99, 111, 100, 101]⟩ (some ⟨W.heap.size + 1, 0, none⟩) 5 5 (f5 g s r sl p) (by omega) R5 (by
  have h := rik5 (W := W.alloc (.cells #[.pointer none, .slice none 0 0] 102)) (b := W.heap.size) g s r sl p (by simp)
  rw [World.size_alloc] at h
  exact h) hE ((ws_fresh hW.below).step ((Below.refl _ _).alloc (Nat.le_refl _) _)) (by
  have : (⟨#[99, 111, 100, 101]⟩ : ByteArray).size = 4 := rfl
  simp only [List.length_nil]
  omega))
 have HL1 := lh (fun (k : Nat) (b : Nat) (W : World) (hk : k < n1) (hbW : b ≠ W.heap.size) (hW : WS w b (headT g s r sl p ++ catT (fun j => arrT (nm j) (sp j) (ty j) (ln j)) k) (W.alloc (.cells #[(sp k), (ty k), (ln k)] 3))) =>
  line_sum #[97, 114, 114, 97, 121, 32] (nm k) (some ⟨W.heap.size, 0, none⟩) 3 3 (f3 (sp k) (ty k) (ln k)) (by omega) (RA k) (rik3 _ _ _ hbW) hE hW (by
   have h1 := L1 k (by omega)
   have h2 := qn k hk
   simp only [List.length_append]
   show _ + (6 + _) + _ + _ <= _
   omega))
 have HL2 := lh (fun (k : Nat) (b : Nat) (W : World) (hk : k < n2) (hbW : b ≠ W.heap.size) (hW : WS w b (headT g s r sl p ++ catT (fun j => arrT (nm j) (sp j) (ty j) (ln j)) n1 ++ catT (fun j => loopT (hd j) (rg j) (bd j)) k) (W.alloc (.cells #[(hd k), (rg k), (bd k)] 3))) =>
  line_any ⟨#[108, 111, 111, 112]⟩ (some ⟨W.heap.size, 0, none⟩) 3 3 (f3 (hd k) (rg k) (bd k)) (by omega) (RL k) (rik3 _ _ _ hbW) hE hW (by
   have h1 := L1 n1 (by omega)
   have h2 := L2 k (by omega)
   have : (⟨#[108, 111, 111, 112]⟩ : ByteArray).size = 4 := rfl
   simp only [List.length_append]
   omega))
 have HL3 := lh (fun (k : Nat) (b : Nat) (W : World) (hk : k < n3) (hbW : b < W.heap.size) (hW : WS w b (headT g s r sl p ++ catT (fun j => arrT (nm j) (sp j) (ty j) (ln j)) n1 ++ catT (fun j => loopT (hd j) (rg j) (bd j)) n2 ++ catT (fun j => blockT (IL j) (I j) (T j)) k) W) =>
  block_any (IA k) (IL k) (IC k) (I k) (T k) (hc.insts k hk) (hc.lens k hk) hbW (fun j hj => hr.insts k j hk hj) (hr.terms k hk) hE hW (by
   have h1 := L1 n1 (by omega)
   have h2 := L2 n2 (by omega)
   have h3 := L3 k (by omega)
   have h4 := hc.lens k hk
   simp only [List.length_append]
   omega))
 obtain ⟨X, hX⟩ : ∃ X, textT g s r sl p n1 n2 n3 nm sp ty ln hd rg bd IL I T = X := ⟨_, rfl⟩
 have HTX := lh (fun (b : Nat) (W : World) (hW : WS w b (textT g s r sl p n1 n2 n3 nm sp ty ln hd rg bd IL I T) W) => show Calls Tryz.prog 50 #[.pointer (some ⟨b, 0, none⟩)] W fun e w' => e = .returned (.string ⟨X.toArray⟩) /\ Below w.heap.size W w' from by
  rw [<- hX]
  exact wtext_any w.heap.size b (textT g s r sl p n1 n2 n3 nm sp ty ln hd rg bd IL I T) W hW.wr (by simp [textT, headT]))
 rw [hX]
 clear hX
 have HM := lh hc
 have HQN := lh qn
 have HK0 := lh (OneK.start (w := w) (T := 36) (K := #[g, s, r, sl, p, .slice A1 n1 c1, .slice A2 n2 c2, .slice A3 n3 c3]))
 clear hc hr hE hz R5 RA RL L0 L1 L2 L3 qn
 obtain ⟨F1, hF1⟩ : ∃ F, (fun j => arrT (nm j) (sp j) (ty j) (ln j)) = F := ⟨_, rfl⟩
 obtain ⟨F2, hF2⟩ : ∃ F, (fun j => loopT (hd j) (rg j) (bd j)) = F := ⟨_, rfl⟩
 obtain ⟨F3, hF3⟩ : ∃ F, (fun j => blockT (IL j) (I j) (T j)) = F := ⟨_, rfl⟩
 obtain ⟨H0, hH0⟩ : ∃ H0, headT g s r sl p = H0 := ⟨_, rfl⟩
 have htx : textT g s r sl p n1 n2 n3 nm sp ty ln hd rg bd IL I T = H0 ++ catT F1 n1 ++ catT F2 n2 ++ catT F3 n3 := by rw [<- hF1, <- hF2, <- hF3, <- hH0]; rfl
 rw [htx] at HTX
 rw [hF1, hH0] at HL1 HL2 HL3
 rw [hF2] at HL2 HL3
 rw [hF3] at HL3
 have HF1 := lh (fun k => congrFun hF1 k)
 have HF2 := lh (fun k => congrFun hF2 k)
 have HF3 := lh (fun k => congrFun hF3 k)
 have HH0 := lh hH0
 clear htx hF1 hF2 hF3 hH0
 have HPRE := lh (fun (W1 : World) (h1 : OneK w 36 #[g, s, r, sl, p, .slice A1 n1 c1, .slice A2 n2 c2, .slice A3 n3 c3] W1) (W : World) (l : List UInt8) (hW : WQ w W1.heap.size l (W1.alloc (.cells #[.pointer none, .slice none 0 0] 102)) W) => And.intro
  (cells_blk (kept_blk hW.kept ((Below.heap_alloc W1 (.cells #[.pointer none, .slice none 0 0] 102) w.heap.size (by have := h1.size; omega)).trans h1.blk) (by have := h1.size; omega) (by decide)))
  (show W1.heap.size < W.heap.size from by
   rcases hW.ws.wr with h | h
   . exact h.lt
   . exact h.lt))
 go_enter Tryz.func15, Tryz.ntmps15
 go_wp2_with (first | (go_at_call 17; (with_reducible refine (HC.out _ HK0.out).mono ?_); rintro e w1 ⟨rfl, hb1⟩; have HK := lh (HK0.out.step hb1); clear hb1; have ck := HK.out.ck; have hsz := (show w.heap.size < w1.heap.size from by have := HK.out.size; omega)) | (go_at_call 48; (with_reducible refine (HL0.out _ HK.out).mono ?_); rintro e w2 ⟨⟨v2, rfl⟩, hq⟩; have HQ := lh (show WQ w w1.heap.size (H0 ++ catT F1 0) (w1.alloc (.cells #[.pointer none, .slice none 0 0] 102)) w2 from by rw [<- HH0.out, catT, List.append_nil]; exact hq.after ((Below.refl _ _).alloc (Nat.le_refl _) _)); clear hq ck hsz; have cb := (HPRE.out _ HK.out _ _ HQ.out).1))
 go_loopw [7, 32] (fun x i wr => ∃ k : Nat, k <= n1 /\ i = .int .i64 k /\ Hid (WQ w w1.heap.size (H0 ++ catT F1 k) (w1.alloc (.cells #[.pointer none, .slice none 0 0] 102)) wr)) (fun _ i _ => n1 - (intOf i).toNat)
 case atStart => exact ⟨0, Nat.zero_le _, rfl, HQ⟩
 case round =>
  obtain ⟨k, hk, rfl, HX⟩ := hrel
  clear cb
  by_cases hlt : k < n1
  . obtain ⟨bb, off, hA, hbb, hc⟩ := (HM.out.arr.below HX.out.ws.on) (by omega)
    obtain ⟨m0, m1, m2, m3⟩ := hc k hlt
    have hl := (HPRE.out _ HK.out _ _ HX.out).2
    have hnk := HQN.out k hlt
    clear hbb hc
    subst hA
    have HY := lh (fun (o : Obj) => HL1.out k w1.heap.size (wr.alloc o) hlt (by rw [World.size_alloc]; omega) ((HX.out.ws.step ((Below.refl _ _).alloc (Nat.le_refl _) _)).step ((Below.refl _ _).alloc (Nat.le_refl _) _)))
    simp only [World.size_alloc] at HY
    clear hl
    go_wp2_with (first | (go_at_call 48; (with_reducible refine (HY.out _).mono ?_); rintro e w2 ⟨⟨v2, rfl⟩, hq⟩; have HZ := lh (HX.out.next (hq.after (((Below.refl _ _).alloc (Nat.le_refl _) _).alloc (by simp) _))); clear hq))
    go_roundw
    case rel => exact ⟨k + 1, by omega, by go_num, lh (by rw [catT, <- HF1.out k, arrT]; simpa only [List.append_assoc] using HZ.out)⟩
    case measure => simp [intOf]; omega
  . obtain rfl : n1 = k := by omega
    obtain ⟨wa, rfl⟩ : ∃ wa : World, wa = wr := ⟨_, rfl⟩
    have cb := (HPRE.out _ HK.out _ _ HX.out).1
    go_wp2
    go_loopw [9, 51] (fun x i wr => ∃ k : Nat, k <= n2 /\ i = .int .i64 k /\ Hid (WQ w w1.heap.size (H0 ++ catT F1 n1 ++ catT F2 k) (w1.alloc (.cells #[.pointer none, .slice none 0 0] 102)) wr)) (fun _ i _ => n2 - (intOf i).toNat)
    case atStart => exact ⟨0, Nat.zero_le _, rfl, lh (by rw [catT, List.append_nil]; exact HX.out)⟩
    case round =>
     obtain ⟨k, hk, rfl, HX2⟩ := hrel
     clear cb
     by_cases hlt2 : k < n2
     . obtain ⟨bb, off, hA, hbb, hc⟩ := (HM.out.loops.below HX2.out.ws.on) (by omega)
       obtain ⟨m0, m1, m2⟩ := hc k hlt2
       have hl := (HPRE.out _ HK.out _ _ HX2.out).2
       clear hbb hc
       subst hA
       have HY := lh (fun (o : Obj) => HL2.out k w1.heap.size (wr.alloc o) hlt2 (by rw [World.size_alloc]; omega) ((HX2.out.ws.step ((Below.refl _ _).alloc (Nat.le_refl _) _)).step ((Below.refl _ _).alloc (Nat.le_refl _) _)))
       simp only [World.size_alloc] at HY
       clear hl
       go_wp2_with (first | (go_at_call 48; (with_reducible refine (HY.out _).mono ?_); rintro e w2 ⟨⟨v2, rfl⟩, hq⟩; have HZ := lh (HX2.out.next (hq.after (((Below.refl _ _).alloc (Nat.le_refl _) _).alloc (by simp) _))); clear hq))
       go_roundw
       case rel => exact ⟨k + 1, by omega, by go_num, lh (by rw [catT, <- HF2.out k, loopT]; simpa only [List.append_assoc] using HZ.out)⟩
       case measure => simp [intOf]; omega
     . obtain rfl : n2 = k := by omega
       obtain ⟨wb, rfl⟩ : ∃ wb : World, wb = wr := ⟨_, rfl⟩
       have cb := (HPRE.out _ HK.out _ _ HX2.out).1
       go_wp2
       go_loopw [11, 67] (fun x i wr => ∃ k : Nat, k <= n3 /\ i = .int .i64 k /\ Hid (WQ w w1.heap.size (H0 ++ catT F1 n1 ++ catT F2 n2 ++ catT F3 k) (w1.alloc (.cells #[.pointer none, .slice none 0 0] 102)) wr)) (fun _ i _ => n3 - (intOf i).toNat)
       case atStart => exact ⟨0, Nat.zero_le _, rfl, lh (by rw [catT, List.append_nil]; exact HX2.out)⟩
       case round =>
        obtain ⟨k, hk, rfl, HX3⟩ := hrel
        clear cb
        by_cases hlt3 : k < n3
        . obtain ⟨bb, off, hA, hbb, hc⟩ := (HM.out.blocks.below HX3.out.ws.on) (by omega)
          obtain ⟨m0, m1, m2, m3, _, _, _, _, _, _, _, _, _, _⟩ := hc k hlt3
          have hl := (HPRE.out _ HK.out _ _ HX3.out).2
          clear hbb hc
          subst hA
          have HY := lh (fun (o : Obj) => HL3.out k w1.heap.size (wr.alloc o) hlt3 (by rw [World.size_alloc]; omega) (HX3.out.ws.step ((Below.refl _ _).alloc (Nat.le_refl _) _)))
          clear hl
          go_wp2_with (first | (go_at_call 49; (with_reducible refine (HY.out _).mono ?_); rintro e w2 ⟨⟨v2, rfl⟩, hq⟩; have HZ := lh (HX3.out.next (hq.after ((Below.refl _ _).alloc (Nat.le_refl _) _))); clear hq))
          go_roundw
          case rel => exact ⟨k + 1, by omega, by go_num, lh (by rw [catT, <- HF3.out k]; simpa only [List.append_assoc] using HZ.out)⟩
          case measure => simp [intOf]; omega
        . obtain rfl : n3 = k := by omega
          have HT := lh (HTX.out _ _ HX3.out.ws)
          go_wp2_with (first | (go_at_call 50; (with_reducible refine HT.out.mono ?_); rintro e w2 ⟨rfl, hq⟩; have HZ := lh (HX3.out.ws.on.trans hq); clear hq))
          go_ret2
          exact ⟨rfl, HZ.out⟩
end
end Go.Proofs.YtkncilgmlkeifaaGreatDoor
