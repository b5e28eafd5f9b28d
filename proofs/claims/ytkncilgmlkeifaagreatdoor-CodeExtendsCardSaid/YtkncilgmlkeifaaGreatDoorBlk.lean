/-
  Package code: the writer: the contract of block.
-/
import Derived.Test.YtkncilgmlkeifaaGreatDoorPrt
import Derived.Test.YtkncilgmlkeifaaGreatDoorAll
import Derived.Test.YtkncilgmlkeifaaGreatDoorIns
set_option linter.unusedVariables false
set_option linter.unusedSimpArgs false
namespace Go.Proofs.YtkncilgmlkeifaaGreatDoor
open Go.ChangeShapes Go.WideShapes Go.ChangeAt Go.RowKit Go.Shelf

theorem WQ.step {w0 w w1 w2 : World} {b : Nat} {l : List UInt8} (h : WQ w0 b l w w1) (hb : Below w1.heap.size w1 w2) : WQ w0 b l w w2 := ⟨h.ws.step hb, h.kept.trans (others_of_below hb)⟩
theorem WQ.drew {w0 w w1 : World} {b : Nat} {l : List UInt8} (h : WQ w0 b l w w1) : WQ w0 b l w w1.drew := ⟨h.ws.drew, h.kept⟩
def instT (i : InstV) : List UInt8 := (instF i.op).word.toList ++ partsT (instF i.op) i.parts 8 ++ [10]
def endT (t : TermV) : List UInt8 := (endF t.kind).word.toList ++ partsT (endF t.kind) t.parts 8 ++ [10]
def instsT (I : Nat → InstV) : Nat → List UInt8
  | 0 => []
  | k + 1 => instsT I k ++ instT (I k)
def blockT (n : Nat) (I : Nat → InstV) (t : TermV) : List UInt8 := [98, 108, 111, 99, 107, 10] ++ instsT I n ++ endT t
theorem instF_fit (op : Int) : (instF op).word.size ≤ 10 ∧ 0 ≤ (instF op).targets ∧ (instF op).targets ≤ 2 := by
  cases h : instOK op
  · rw [instF_no h]; decide
  · have h1 : 1 ≤ op ∧ op ≤ 12 := by simpa [instOK] using h
    have hop : op = 1 ∨ op = 2 ∨ op = 3 ∨ op = 4 ∨ op = 5 ∨ op = 6 ∨ op = 7 ∨ op = 8 ∨ op = 9 ∨ op = 10 ∨ op = 11 ∨ op = 12 := by omega
    rcases hop with rfl | rfl | rfl | rfl | rfl | rfl | rfl | rfl | rfl | rfl | rfl | rfl <;> decide
theorem endF_fit (op : Int) : (endF op).word.size ≤ 10 ∧ 0 ≤ (endF op).targets ∧ (endF op).targets ≤ 2 := by
  cases h : endOK op
  · rw [endF_no h]; decide
  · have h1 : 1 ≤ op ∧ op ≤ 5 := by simpa [endOK] using h
    have hop : op = 1 ∨ op = 2 ∨ op = 3 ∨ op = 4 ∨ op = 5 := by omega
    rcases hop with rfl | rfl | rfl | rfl | rfl <;> decide
theorem instT_len {i : InstV} (h : i.parts.Rng) : (instT i).length ≤ 200 := by
  have h1 := (instF_fit i.op).1
  have h2 := partsT_len (instF i.op) h 8 (by omega)
  have h3 : (instF i.op).word.toList.length = (instF i.op).word.size := Array.length_toList
  simp only [instT, List.length_append, List.length_cons, List.length_nil]
  omega
theorem endT_len {i : TermV} (h : i.parts.Rng) : (endT i).length ≤ 200 := by
  have h1 := (endF_fit i.kind).1
  have h2 := partsT_len (endF i.kind) h 8 (by omega)
  have h3 : (endF i.kind).word.toList.length = (endF i.kind).word.size := Array.length_toList
  simp only [endT, List.length_append, List.length_cons, List.length_nil]
  omega
theorem instsT_len {I : Nat → InstV} {n : Nat} (h : ∀ j, j < n → (I j).parts.Rng) : ∀ k, k ≤ n → (instsT I k).length ≤ k * 200
  | 0, _ => Nat.le_refl _
  | k + 1, hk => by
    have h1 := instsT_len h k (by omega)
    have h2 := instT_len (h k (by omega))
    simp only [instsT, List.length_append]
    omega
theorem blockT_len {I : Nat → InstV} {n : Nat} {t : TermV} (h : ∀ j, j < n → (I j).parts.Rng) (ht : t.parts.Rng) : (blockT n I t).length ≤ n * 200 + 206 := by
  have h1 := instsT_len h n (Nat.le_refl _)
  have h2 := endT_len ht
  simp only [blockT, List.length_append, List.length_cons, List.length_nil]
  omega
set_option maxRecDepth 100000 in
set_option maxHeartbeats 8000000 in
theorem block_any {w0 w : World} {b : Nat} {l : List UInt8} (IA : Option Addr) (IL IC : Nat) (I : Nat → InstV) (t : TermV) (hI : RIn w0 w0.heap.size IA IL I) (hIL : IL ≤ 65536) (hb : b < w.heap.size) (hrI : ∀ j, j < IL → (I j).parts.Rng) (hrt : t.parts.Rng) (hE : EnvT w0) (h : WS w0 b l w) (hlen : l.length + IL * 200 + 5000 ≤ 140737488355328) :
    Calls Tryz.prog 49 #[.pointer (some ⟨b, 0, none⟩), .agg #[.slice IA IL IC, .int .i64 t.kind, .int .i64 t.sub, .int .i64 t.d.k, .int .i64 t.d.n, .int .i32 t.d.v, .int .i64 t.a.k, .int .i64 t.a.n, .int .i32 t.a.v, .int .i64 t.b.k, .int .i64 t.b.n, .int .i32 t.b.v, .int .i64 t.t0, .int .i64 t.t1]] w fun e w' => (∃ v, e = .returned v) ∧ WQ w0 b (l ++ blockT IL I t) w w' := by
  have HBX := Lib.hid (show Below w.heap.size w (w.alloc (.cells #[.slice IA IL IC, .int .i64 t.kind, .int .i64 t.sub, .int .i64 t.d.k, .int .i64 t.d.n, .int .i32 t.d.v, .int .i64 t.a.k, .int .i64 t.a.n, .int .i32 t.a.v, .int .i64 t.b.k, .int .i64 t.b.n, .int .i32 t.b.v, .int .i64 t.t0, .int .i64 t.t1] 55)) from (Below.refl _ _).alloc (Nat.le_refl _) _)
  have HB0 := Lib.hid (show (w.alloc (.cells #[.slice IA IL IC, .int .i64 t.kind, .int .i64 t.sub, .int .i64 t.d.k, .int .i64 t.d.n, .int .i32 t.d.v, .int .i64 t.a.k, .int .i64 t.a.n, .int .i32 t.a.v, .int .i64 t.b.k, .int .i64 t.b.n, .int .i32 t.b.v, .int .i64 t.t0, .int .i64 t.t1] 55)).heap[w.heap.size]? = some (.cells #[.slice IA IL IC, .int .i64 t.kind, .int .i64 t.sub, .int .i64 t.d.k, .int .i64 t.d.n, .int .i32 t.d.v, .int .i64 t.a.k, .int .i64 t.a.n, .int .i32 t.a.v, .int .i64 t.b.k, .int .i64 t.b.n, .int .i32 t.b.v, .int .i64 t.t0, .int .i64 t.t1] 55 (0, 0)) from heap_alloc_new _ _)
  have HL := Lib.hid (line_any (w := w.alloc (.cells #[.slice IA IL IC, .int .i64 t.kind, .int .i64 t.sub, .int .i64 t.d.k, .int .i64 t.d.n, .int .i32 t.d.v, .int .i64 t.a.k, .int .i64 t.a.n, .int .i32 t.a.v, .int .i64 t.b.k, .int .i64 t.b.n, .int .i32 t.b.v, .int .i64 t.t0, .int .i64 t.t1] 55)) ⟨#[98, 108, 111, 99, 107]⟩ none 0 0 (fun _ => 0) (by omega) (fun j hj => absurd hj (by omega)) (fun hn => absurd hn (by omega)) hE (h.step HBX.out) (by
    have : (⟨#[98, 108, 111, 99, 107]⟩ : ByteArray).size = 5 := rfl
    omega))
  have HP := Lib.hid (fun (k : Nat) (W : World) (hk : k < IL) (hbW : b < W.heap.size) (hW : WS w0 b (l ++ [98, 108, 111, 99, 107, 10] ++ instsT I k) W) => parts_any (w := W) (instF (I k).op) (I k).parts (hrI k hk) (instF_fit _).2 hbW hE hW (by
    have h1 := instsT_len hrI k (by omega)
    have h2 := (instF_fit (I k).op).1
    simp only [List.length_append, List.length_cons, List.length_nil]
    omega))
  have HT := Lib.hid (fun (W : World) (hbW : b < W.heap.size) (hW : WS w0 b (l ++ [98, 108, 111, 99, 107, 10] ++ instsT I IL) W) => parts_any (w := W) (endF t.kind) t.parts hrt (endF_fit _).2 hbW hE hW (by
    have h1 := instsT_len hrI IL (by omega)
    have h2 := (endF_fit t.kind).1
    simp only [List.length_append, List.length_cons, List.length_nil]
    omega))
  have HIN := Lib.hid hI
  have HF := Lib.hid (fun (op : Int) (W : World) => instForm_any op W)
  have HG := Lib.hid (fun (i : InstV) (W : World) => instParts_any i W)
  have HF2 := Lib.hid (fun (W : World) => endForm_any t.kind W)
  have HG2 := Lib.hid (fun (W : World) => endParts_any t W)
  have HLT := Lib.hid hb
  clear hI hrI hrt hE h hlen hb
  simp only [TermV.val] at HG2
  go_enter Tryz.func49, Tryz.ntmps49
  go_wp2_with (first | (go_at_call 48; (with_reducible refine HL.out.mono ?_); rintro e w1 ⟨⟨v, rfl⟩, hq⟩; have HQ := Lib.hid (show WQ w0 b (l ++ [98, 108, 111, 99, 107, 10] ++ instsT I 0) (w.alloc (.cells #[.slice IA IL IC, .int .i64 t.kind, .int .i64 t.sub, .int .i64 t.d.k, .int .i64 t.d.n, .int .i32 t.d.v, .int .i64 t.a.k, .int .i64 t.a.n, .int .i32 t.a.v, .int .i64 t.b.k, .int .i64 t.b.n, .int .i32 t.b.v, .int .i64 t.t0, .int .i64 t.t1] 55)) w1 from by simpa [numsT, instsT] using hq); clear hq; have cb := cells_blk (kept_blk HQ.out.kept HB0.out (by have := HLT.out; omega) (by decide))))
  go_loopw [5, 11] (fun x i wr => ∃ k : Nat, k ≤ IL ∧ i = .int .i64 k ∧ Hid (WQ w0 b (l ++ [98, 108, 111, 99, 107, 10] ++ instsT I k) (w.alloc (.cells #[.slice IA IL IC, .int .i64 t.kind, .int .i64 t.sub, .int .i64 t.d.k, .int .i64 t.d.n, .int .i32 t.d.v, .int .i64 t.a.k, .int .i64 t.a.n, .int .i32 t.a.v, .int .i64 t.b.k, .int .i64 t.b.n, .int .i32 t.b.v, .int .i64 t.t0, .int .i64 t.t1] 55)) wr)) (fun _ i _ => IL - (intOf i).toNat)
  case atStart => exact ⟨0, Nat.zero_le _, rfl, HQ⟩
  case round =>
    obtain ⟨k, hk, rfl, HK⟩ := hrel
    clear cb
    by_cases hlt : k < IL
    · obtain ⟨bb, off, rfl, hbb, hc⟩ := (HIN.out.below HK.out.ws.on) (by omega)
      obtain ⟨m0, m1, m2, m3, m4, m5, m6, m7, m8, m9, m10, m11, m12, m13, m14⟩ := hc k hlt
      clear hbb hc
      have HFk := Lib.hid (fun W => HF.out (I k).op W)
      have HGk := Lib.hid (fun W => HG.out (I k) W)
      have HPk := Lib.hid (fun (W : World) hbW hW => HP.out k W hlt hbW hW)
      have HXB := Lib.hid (show (wr.alloc (.cells #[.int .i64 (I k).op, .int .i64 (I k).sub, .int .i64 (I k).n, .int .i64 (I k).d.k, .int .i64 (I k).d.n, .int .i32 (I k).d.v, .int .i64 (I k).a.k, .int .i64 (I k).a.n, .int .i32 (I k).a.v, .int .i64 (I k).b.k, .int .i64 (I k).b.n, .int .i32 (I k).b.v, .int .i64 (I k).c.k, .int .i64 (I k).c.n, .int .i32 (I k).c.v] 61)).drew.heap[wr.heap.size]? = some (.cells #[.int .i64 (I k).op, .int .i64 (I k).sub, .int .i64 (I k).n, .int .i64 (I k).d.k, .int .i64 (I k).d.n, .int .i32 (I k).d.v, .int .i64 (I k).a.k, .int .i64 (I k).a.n, .int .i32 (I k).a.v, .int .i64 (I k).b.k, .int .i64 (I k).b.n, .int .i32 (I k).b.v, .int .i64 (I k).c.k, .int .i64 (I k).c.n, .int .i32 (I k).c.v] 61 (0, 0)) from heap_alloc_new _ _)
      have HX := Lib.hid ((HK.out.step ((Below.refl wr.heap.size wr).alloc (Nat.le_refl _) (.cells #[.int .i64 (I k).op, .int .i64 (I k).sub, .int .i64 (I k).n, .int .i64 (I k).d.k, .int .i64 (I k).d.n, .int .i32 (I k).d.v, .int .i64 (I k).a.k, .int .i64 (I k).a.n, .int .i32 (I k).a.v, .int .i64 (I k).b.k, .int .i64 (I k).b.n, .int .i32 (I k).b.v, .int .i64 (I k).c.k, .int .i64 (I k).c.n, .int .i32 (I k).c.v] 61))).drew)
      have HLT2 := Lib.hid (show b < (wr.alloc (.cells #[.int .i64 (I k).op, .int .i64 (I k).sub, .int .i64 (I k).n, .int .i64 (I k).d.k, .int .i64 (I k).d.n, .int .i32 (I k).d.v, .int .i64 (I k).a.k, .int .i64 (I k).a.n, .int .i32 (I k).a.v, .int .i64 (I k).b.k, .int .i64 (I k).b.n, .int .i32 (I k).b.v, .int .i64 (I k).c.k, .int .i64 (I k).c.n, .int .i32 (I k).c.v] 61)).drew.heap.size from by
        have h1 := (Array.getElem?_eq_some_iff.1 (kept_blk HK.out.kept HB0.out (by have := HLT.out; omega) (by decide))).1
        have h2 := HLT.out
        show b < (wr.alloc _).heap.size
        rw [World.size_alloc]
        omega)
      have HWR := Lib.hid (show b < wr.heap.size from by
        have h1 := (Array.getElem?_eq_some_iff.1 (kept_blk HK.out.kept HB0.out (by have := HLT.out; omega) (by decide))).1
        have h2 := HLT.out
        omega)
      obtain ⟨ff, hff⟩ : ∃ ff, instF (I k).op = ff := ⟨_, rfl⟩
      obtain ⟨pp, hpp⟩ : ∃ pp, (I k).parts = pp := ⟨_, rfl⟩
      have HIT := Lib.hid (show instT (I k) = ff.word.toList ++ partsT ff pp 8 ++ [10] from by rw [← hff, ← hpp]; rfl)
      rw [hff] at HFk HPk
      rw [hpp] at HGk HPk
      clear hff hpp
      obtain ⟨fw, fs, ft, fd, fa, fb, fc, fg⟩ := ff
      obtain ⟨rs, rn, ⟨rdk, rdn, rdv⟩, ⟨rak, ran, rav⟩, ⟨rbk, rbn, rbv⟩, ⟨rck, rcn, rcv⟩, rt0, rt1⟩ := pp
      simp only [FormV.val, PartV.val, InstV.val] at HFk HGk HPk
      go_wp2
      go_region_held3 (fun w' => (∀ o : Nat, w'.cell? ⟨wr.heap.size, o, none⟩ = (#[.int .i64 (I k).op, .int .i64 (I k).sub, .int .i64 (I k).n, .int .i64 (I k).d.k, .int .i64 (I k).d.n, .int .i32 (I k).d.v, .int .i64 (I k).a.k, .int .i64 (I k).a.n, .int .i32 (I k).a.v, .int .i64 (I k).b.k, .int .i64 (I k).b.n, .int .i32 (I k).b.v, .int .i64 (I k).c.k, .int .i64 (I k).c.n, .int .i32 (I k).c.v] : Array Value)[o]?) ∧ True) (exact ⟨cells_blk HXB.out, trivial⟩)
        (first
          | (go_at_call 87; (with_reducible refine (HFk.out _).mono ?_); rintro e w1 ⟨rfl, hb1⟩; have HX2 := Lib.hid (HX.out.step hb1); have HXB2 := Lib.hid ((hb1.block _ (Array.getElem?_eq_some_iff.1 HXB.out).1).trans HXB.out); have HLT3 := Lib.hid (Nat.lt_of_lt_of_le HLT2.out hb1.size); clear HX HXB HLT2 hb1; have HX := HX2; have HXB := HXB2; have HLT2 := HLT3; clear HX2 HXB2 HLT3)
          | (go_at_call 88; (with_reducible refine (HGk.out _).mono ?_); rintro e w1 ⟨rfl, hb1⟩; have HX2 := Lib.hid (HX.out.step hb1); have HXB2 := Lib.hid ((hb1.block _ (Array.getElem?_eq_some_iff.1 HXB.out).1).trans HXB.out); have HLT3 := Lib.hid (Nat.lt_of_lt_of_le HLT2.out hb1.size); clear HX HXB HLT2 hb1; have HX := HX2; have HXB := HXB2; have HLT2 := HLT3; clear HX2 HXB2 HLT3)
          | (go_at_call 86; (with_reducible refine (HPk.out _ HLT2.out HX.out.ws).mono ?_); rintro e w1 ⟨⟨v1, rfl⟩, hq⟩; have HXB2 := Lib.hid (kept_blk hq.kept HXB.out (by have := HWR.out; omega) (by decide)); have HZ := Lib.hid (HX.out.next hq); clear HXB hq; have HXB := HXB2; clear HXB2))
      all_goals
        go_wp2
        go_roundw
        case rel => exact ⟨k + 1, by omega, by go_num, Lib.hid (by rw [instsT, HIT.out, ← List.append_assoc, ← List.append_assoc, ← List.append_assoc]; exact HZ.out)⟩
        case measure => simp [intOf]; omega
    · obtain rfl : IL = k := by omega
      have HX := Lib.hid HK.out.drew
      have HXB := Lib.hid (show wr.drew.heap[w.heap.size]? = some (.cells #[.slice IA IL IC, .int .i64 t.kind, .int .i64 t.sub, .int .i64 t.d.k, .int .i64 t.d.n, .int .i32 t.d.v, .int .i64 t.a.k, .int .i64 t.a.n, .int .i32 t.a.v, .int .i64 t.b.k, .int .i64 t.b.n, .int .i32 t.b.v, .int .i64 t.t0, .int .i64 t.t1] 55 (0, 0)) from kept_blk HK.out.kept HB0.out (by have := HLT.out; omega) (by decide))
      have cb := cells_blk (w := wr) (fr := (0, 0)) HXB.out
      have HLT2 := Lib.hid (show b < wr.drew.heap.size from by
        have h1 := (Array.getElem?_eq_some_iff.1 HXB.out).1
        have h2 := HLT.out
        omega)
      obtain ⟨ff, hff⟩ : ∃ ff, endF t.kind = ff := ⟨_, rfl⟩
      obtain ⟨pp, hpp⟩ : ∃ pp, t.parts = pp := ⟨_, rfl⟩
      have HIT := Lib.hid (show endT t = ff.word.toList ++ partsT ff pp 8 ++ [10] from by rw [← hff, ← hpp]; rfl)
      rw [hff] at HF2 HT
      rw [hpp] at HG2 HT
      clear hff hpp
      obtain ⟨fw, fs, ft, fd, fa, fb, fc, fg⟩ := ff
      obtain ⟨rs, rn, ⟨rdk, rdn, rdv⟩, ⟨rak, ran, rav⟩, ⟨rbk, rbn, rbv⟩, ⟨rck, rcn, rcv⟩, rt0, rt1⟩ := pp
      simp only [FormV.val, PartV.val] at HF2 HG2 HT
      go_wp2
      go_region_held3 (fun w' => (∀ o : Nat, w'.cell? ⟨w.heap.size, o, none⟩ = (#[.slice IA IL IC, .int .i64 t.kind, .int .i64 t.sub, .int .i64 t.d.k, .int .i64 t.d.n, .int .i32 t.d.v, .int .i64 t.a.k, .int .i64 t.a.n, .int .i32 t.a.v, .int .i64 t.b.k, .int .i64 t.b.n, .int .i32 t.b.v, .int .i64 t.t0, .int .i64 t.t1] : Array Value)[o]?) ∧ True) (exact ⟨cells_blk HXB.out, trivial⟩)
        (first
          | (go_at_call 58; (with_reducible refine (HF2.out _).mono ?_); rintro e w1 ⟨rfl, hb1⟩; have HX2 := Lib.hid (HX.out.step hb1); have HXB2 := Lib.hid ((hb1.block _ (Array.getElem?_eq_some_iff.1 HXB.out).1).trans HXB.out); have HLT3 := Lib.hid (Nat.lt_of_lt_of_le HLT2.out hb1.size); clear HX HXB HLT2 hb1; have HX := HX2; have HXB := HXB2; have HLT2 := HLT3; clear HX2 HXB2 HLT3)
          | (go_at_call 89; (with_reducible refine (HG2.out _).mono ?_); rintro e w1 ⟨rfl, hb1⟩; have HX2 := Lib.hid (HX.out.step hb1); have HXB2 := Lib.hid ((hb1.block _ (Array.getElem?_eq_some_iff.1 HXB.out).1).trans HXB.out); have HLT3 := Lib.hid (Nat.lt_of_lt_of_le HLT2.out hb1.size); clear HX HXB HLT2 hb1; have HX := HX2; have HXB := HXB2; have HLT2 := HLT3; clear HX2 HXB2 HLT3)
          | (go_at_call 86; (with_reducible refine (HT.out _ HLT2.out HX.out.ws).mono ?_); rintro e w1 ⟨⟨v1, rfl⟩, hq⟩; have HXB2 := Lib.hid (kept_blk hq.kept HXB.out (by have := HLT.out; omega) (by decide)); have HZ := Lib.hid ((HX.out.next hq).after HBX.out); clear HXB hq; have HXB := HXB2; clear HXB2))
      all_goals
        go_wp2
        go_end0
        exact ⟨⟨_, rfl⟩, by rw [blockT, HIT.out]; simpa only [List.append_assoc] using HZ.out⟩
end Go.Proofs.YtkncilgmlkeifaaGreatDoor
