import Derived.Test.YtkncilgmlkeifaaGreatDoorLnw
import Derived.Test.YtkncilgmlkeifaaGreatDoorPar
import Derived.Test.YtkncilgmlkeifaaGreatDoorWrt
/-
  The reference's reader: what ParseIn keeps from line to line.
-/
set_option linter.unusedVariables false
set_option linter.unusedSimpArgs false
namespace Go.Proofs.YtkncilgmlkeifaaGreatDoor
open Go.ChangeShapes Go.WideShapes Go.ChangeAt Go.RowKit Go.Shelf
theorem below_set2 {B : Nat} {w W : World} (h : Below B w W) (p : Addr) (x : Value) : Below B (w.setCell p x) (W.setCell p x) := by
 refine ⟨h.os, h.tape, h.output, by simpa [World.setCell] using h.size, fun i hi => ?_⟩
 have hb := h.block i hi
 simp only [World.setCell, Array.getElem?_modify]
 split
 . rw [hb]
 . exact hb
theorem RcD.set2 {w0 W : World} {n0 n1 b : Nat} {c : CdV} {v5 v6 v7 : Value} {init : List BlE} {last : Option BlE} {C : Array Value} {fr : Nat × Nat} (h : RcD w0 n0 n1 c v5 v6 v7 init last W) (hb : W.heap[b]? = some (.cells C 36 fr)) (j : Nat) (x : Value) :
 RcD (w0.setCell ⟨b, j, none⟩ x) n0 n1 c v5 v6 v7 init last (W.setCell ⟨b, j, none⟩ x) := by
 have ks := K36.set hb j x
 have e1 : (w0.setCell ⟨b, j, none⟩ x).heap.size = w0.heap.size := by simp [World.setCell]
 have e2 : (W.setCell ⟨b, j, none⟩ x).heap.size = W.heap.size := by simp [World.setCell]
 refine ⟨h.rc.k36 ks, h.map, h.emp, h.old, fun e he => row_kept (h.new e he) ks.1 (by decide), by rw [e1]; exact below_set2 h.below _ _, ?_⟩
 rw [e1, e2]
 exact h.hn
theorem lineQ_B (c : CdV) (s : ByteArray) : lineQ c (cutD 32 s) = lineQ c ((splitB s.data.toList).map bA) := by rw [cutD_B]
structure PiK (w : World) (B b b2 : Nat) (lv : Value) (L : List ByteArray) (R : Array Value) (c : CdV) (v5 v6 v7 : Value) (W : World) : Prop where
 ex : ∃ (w0 : World) (n0 n1 : Nat) (init : List BlE) (last : Option BlE), w0.heap.size = B /\ RcD w0 n0 n1 c v5 v6 v7 init last W /\ w0.heap[b]? = some (.cells #[(c.n 0), (c.n 1), (c.n 2), (c.n 3), (c.n 4), v5, v6, v7] 36 (0, 0)) /\ w0.heap[b2]? = some (.cells R 77 (0, 0)) /\ FSl w0 lv L /\ Below w.heap.size w w0
 hb : w.heap.size <= b /\ b < B /\ b2 < B
section
variable {w W : World} {B b b2 : Nat} {lv : Value} {L : List ByteArray} {R : Array Value} {c : CdV} {v5 v6 v7 : Value}
theorem PiK.box (h : PiK w B b b2 lv L R c v5 v6 v7 W) : W.heap[b]? = some (.cells #[(c.n 0), (c.n 1), (c.n 2), (c.n 3), (c.n 4), v5, v6, v7] 36 (0, 0)) := by
 obtain ⟨⟨w0, n0, n1, init, last, e, hr, h1, h2, h3, h4⟩, hb⟩ := h
 exact (hr.below.block b (by omega)).trans h1
theorem PiK.res (h : PiK w B b b2 lv L R c v5 v6 v7 W) : W.heap[b2]? = some (.cells R 77 (0, 0)) := by
 obtain ⟨⟨w0, n0, n1, init, last, e, hr, h1, h2, h3, h4⟩, hb⟩ := h
 exact (hr.below.block b2 (by omega)).trans h2
theorem PiK.lines (h : PiK w B b b2 lv L R c v5 v6 v7 W) : FSl W lv L := by
 obtain ⟨⟨w0, n0, n1, init, last, e, hr, h1, h2, h3, h4⟩, hb⟩ := h
 exact h3.of_blocks (fun i C fr hi => (hr.below.block i (Array.getElem?_eq_some_iff.1 hi).1).trans hi)
theorem PiK.below (h : PiK w B b b2 lv L R c v5 v6 v7 W) : Below w.heap.size w W := by
 obtain ⟨⟨w0, n0, n1, init, last, e, hr, h1, h2, h3, h4⟩, hb⟩ := h
 exact h4.trans (hr.below.mono h4.size)
structure PiL (w : World) (B b b2 : Nat) (lv : Value) (L : List ByteArray) (R X : Array Value) (c : CdV) (v5 v6 v7 : Value) (W : World) : Prop where
 ex : ∃ (w0 : World) (n0 n1 : Nat) (init : List BlE) (last : Option BlE), w0.heap.size = B /\ RcD w0 n0 n1 c v5 v6 v7 init last W /\ w0.heap[b]? = some (.cells X 36 (0, 0)) /\ w0.heap[b2]? = some (.cells R 77 (0, 0)) /\ FSl w0 lv L /\ Below w.heap.size w w0
 hb : w.heap.size <= b /\ b < B /\ b2 < B
theorem PiL.set {X : Array Value} (h : PiL w B b b2 lv L R X c v5 v6 v7 W) (j : Nat) (x : Value) : PiL w B b b2 lv L R (X.setIfInBounds j x) c v5 v6 v7 (W.setCell ⟨b, j, none⟩ x) := by
 obtain ⟨⟨w0, n0, n1, init, last, e, hr, h1, h2, h3, h4⟩, hb⟩ := h
 have hW := (hr.below.block b (by omega)).trans h1
 have ks := K36.set h1 j x
 exact ⟨⟨_, n0, n1, init, last, by simp [World.setCell, e], hr.set2 hW j x, heap_setCell_same w0 b j _ 36 x h1, (ks.1 _ _ _ _ h2 (by decide)).trans h2, h3.of_blocks (fun i C fr hi => (ks.1 i C 9 fr hi (by decide)).trans hi), h4.setCell (p := ⟨b, j, none⟩) hb.1 x⟩, hb⟩
theorem PiL.done {X : Array Value} (h : PiL w B b b2 lv L R X c v5 v6 v7 W) (hX : X = (#[(c.n 0), (c.n 1), (c.n 2), (c.n 3), (c.n 4), v5, v6, v7] : Array Value)) : PiK w B b b2 lv L R c v5 v6 v7 W := by
 subst hX
 exact ⟨h.ex, h.hb⟩
theorem PiL.box {X : Array Value} (h : PiL w B b b2 lv L R X c v5 v6 v7 W) : W.heap[b]? = some (.cells X 36 (0, 0)) := by
 obtain ⟨⟨w0, n0, n1, init, last, e, hr, h1, h2, h3, h4⟩, hb⟩ := h
 exact (hr.below.block b (by omega)).trans h1
theorem PiK.call (h : PiK w B b b2 lv L R c v5 v6 v7 W) (s : ByteArray) (hs : s.size <= 100000) (hsm : Small c 1000000) :
 Calls Tryz.prog 74 #[.agg #[(c.n 0), (c.n 1), (c.n 2), (c.n 3), (c.n 4), v5, v6, v7], .string s] W fun e w' => ∃ (u5 u6 u7 : Value), e = .returned (.agg #[.int .i64 ((lineQ c (cutD 32 s)).n 0), .int .i64 ((lineQ c (cutD 32 s)).n 1), .int .i64 ((lineQ c (cutD 32 s)).n 2), .int .i64 ((lineQ c (cutD 32 s)).n 3), .int .i64 ((lineQ c (cutD 32 s)).n 4), u5, u6, u7]) /\ PiL w B b b2 lv L R #[(c.n 0), (c.n 1), (c.n 2), (c.n 3), (c.n 4), v5, v6, v7] (lineQ c (cutD 32 s)) u5 u6 u7 w' := by
 obtain ⟨⟨w0, n0, n1, init, last, e, hr, h1, h2, h3, h4⟩, hb⟩ := h
 refine (refline_any w0 W n0 n1 c v5 v6 v7 init last s hr hs hsm).mono ?_
 rintro e' w' ⟨u5, u6, u7, he, init', last', n1', hr'⟩
 exact ⟨u5, u6, u7, he, ⟨⟨w0, n0, n1', init', last', e, hr', h1, h2, h3, h4⟩, hb⟩⟩
end
theorem cutD_getD (s : ByteArray) {k : Nat} (h : k < (splitD 10 s.data.toList).length) : (cutD 10 s).getD k ⟨#[]⟩ = bA (splitD 10 s.data.toList)[k] := by
 unfold cutD
 rw [getD_of _ _ _ (by rw [List.length_map]; exact h), List.getElem_map]
theorem cutD_len (s : ByteArray) : (cutD 10 s).length = (splitD 10 s.data.toList).length := by
 unfold cutD
 rw [List.length_map]
theorem readQk_line (s : ByteArray) {k : Nat} (h : k < (cutD 10 s).length) : lineQ (readQk s.data.toList k) (cutD 32 ((cutD 10 s).getD k ⟨#[]⟩)) = readQk s.data.toList (k + 1) := by
 rw [cutD_len] at h
 rw [readQk_succ _ h, lineQ_B, cutD_getD s h]
 simp [bA]
theorem splitD_size (d : UInt8) : ∀ (l : List UInt8) (x : List UInt8), x ∈ splitD d l -> x.length <= l.length
 | [], x, h => by simp [splitD] at h; simp [h]
 | c :: l, x, h => by
  have ih := splitD_size d l
  unfold splitD at h
  split at h
  . rcases List.mem_cons.1 h with rfl | h
    . simp
    . have := ih x h
      simp
      omega
  . split at h
    . rename_i e
      simp at h
      subst h
      simp
    . rename_i y ys e
      rcases List.mem_cons.1 h with rfl | h
      . have := ih y (by rw [e]; simp)
        simp
        omega
      . have := ih x (by rw [e]; simp [h])
        simp
        omega
theorem cutD_size (s : ByteArray) {k : Nat} (h : k < (cutD 10 s).length) : ((cutD 10 s).getD k ⟨#[]⟩).size <= s.size := by
 rw [cutD_len] at h
 rw [cutD_getD s h]
 have h1 := splitD_size 10 s.data.toList _ (List.getElem_mem h)
 have e : s.data.toList.length = s.size := Array.length_toList
 have h2 : (bA (splitD 10 s.data.toList)[k]).size = ((splitD 10 s.data.toList)[k]).length := by simp [bA, ByteArray.size]
 omega
section
variable {w W W' w0 : World} {B b b2 n0 n1 : Nat} {lv : Value} {L : List ByteArray} {R : Array Value} {c : CdV} {v5 v6 v7 : Value} {init : List BlE} {last : Option BlE}
theorem RcD.on (h : RcD w0 n0 n1 c v5 v6 v7 init last W) (hb : Below W.heap.size W W') : RcD w0 n0 n1 c v5 v6 v7 init last W' := by
 have k := below_kept (S := fun _ => True) hb
 exact ⟨⟨row_kept h.rc.arr k trivial, row_kept h.rc.loops k trivial, row_kept h.rc.blocks k trivial, fun e he => row_kept (h.rc.insts e he) k trivial⟩, h.map, h.emp, h.old, fun e he => row_kept (h.new e he) k trivial, h.below.trans (hb.mono h.below.size), ⟨h.hn.1, h.hn.2.1, Nat.le_trans h.hn.2.2 hb.size⟩⟩
theorem PiK.on (h : PiK w B b b2 lv L R c v5 v6 v7 W) (hb : Below W.heap.size W W') : PiK w B b b2 lv L R c v5 v6 v7 W' := by
 obtain ⟨⟨w0, n0, n1, init, last, e, hr, h1, h2, h3, h4⟩, hbb⟩ := h
 exact ⟨⟨w0, n0, n1, init, last, e, hr.on hb, h1, h2, h3, h4⟩, hbb⟩
theorem PiL.set8 {a0 a1 a2 a3 a4 a5 a6 a7 : Value} (h : PiL w B b b2 lv L R #[a0, a1, a2, a3, a4, a5, a6, a7] c v5 v6 v7 W) : PiK w B b b2 lv L R c v5 v6 v7 (W.setCells b 0 (#[(c.n 0), (c.n 1), (c.n 2), (c.n 3), (c.n 4), v5, v6, v7] : Array Value).toList) := by
 have h8 := ((((((((h.set 0 (.int .i64 (c.n 0))).set 1 (.int .i64 (c.n 1))).set 2 (.int .i64 (c.n 2))).set 3 (.int .i64 (c.n 3))).set 4 (.int .i64 (c.n 4))).set 5 v5).set 6 v6).set 7 v7).done (by simp)
 simp only [World.setCells, Nat.zero_add, Nat.reduceAdd]
 exact h8
theorem PiL.one {X : Array Value} (h : PiL w B b b2 lv L R X c v5 v6 v7 W) : v5.oneCell' = true /\ v6.oneCell' = true /\ v7.oneCell' = true := by
 obtain ⟨⟨w0, n0, n1, init, last, e, hr, h1, h2, h3, h4⟩, hb⟩ := h
 obtain ⟨A5, q5, e5, _⟩ := rar_of hr.rc.arr
 obtain ⟨A6, q6, e6, _⟩ := rlo_of hr.rc.loops
 obtain ⟨A7, q7, e7, _⟩ := rbl_of hr.rc.blocks (fun e he => by obtain ⟨A, c, hv, _⟩ := rin_of (hr.rc.insts e he); exact ⟨A, c, hv⟩)
 rw [e5, e6, e7]
 exact ⟨rfl, rfl, rfl⟩
theorem pik_start {w w1 : World} {v : Value} {L : List ByteArray} {R : Array Value} (hb : Below (w.alloc (.cells R 77)).heap.size (w.alloc (.cells R 77)) w1) (hv : FSl w1 v L) :
 PiK w (w1.heap.size + 1) w1.heap.size w.heap.size v L R cd0 (.slice none 0 0) (.slice none 0 0) (.slice none 0 0) (w1.alloc (.cells #[(0:Int), (0:Int), (0:Int), (0:Int), (0:Int), .slice none 0 0, .slice none 0 0, .slice none 0 0] 36)) := by
 have hs := hb.size
 simp only [World.size_alloc] at hs
 have hA : Below w1.heap.size w1 (w1.alloc (.cells #[(0:Int), (0:Int), (0:Int), (0:Int), (0:Int), .slice none 0 0, .slice none 0 0, .slice none 0 0] 36)) := bo _
 refine ⟨⟨w1.alloc (.cells #[(0:Int), (0:Int), (0:Int), (0:Int), (0:Int), .slice none 0 0, .slice none 0 0, .slice none 0 0] 36), (w1.alloc (.cells #[(0:Int), (0:Int), (0:Int), (0:Int), (0:Int), .slice none 0 0, .slice none 0 0, .slice none 0 0] 36)).heap.size, (w1.alloc (.cells #[(0:Int), (0:Int), (0:Int), (0:Int), (0:Int), .slice none 0 0, .slice none 0 0, .slice none 0 0] 36)).heap.size, [], none, by simp, ⟨⟨World.ownsRow_nil _ _ _ _, World.ownsRow_nil _ _ _ _, World.ownsRow_nil _ _ _ _, fun e he => nomatch he⟩, rfl, fun _ => rfl, fun e he => (nomatch he), fun e he => (nomatch he), Below.refl _ _, ⟨Nat.le_refl _, Nat.le_refl _, Nat.le_refl _⟩⟩, heap_alloc_new _ _, ?_, ?_, ?_⟩, ⟨by omega, by omega, by omega⟩⟩
 . exact (hA.block _ (by omega)).trans ((hb.block _ (by simp)).trans (heap_alloc_new _ _))
 . exact hv.of_blocks (fun i C fr hi => (hA.block i (Array.getElem?_eq_some_iff.1 hi).1).trans hi)
 . exact (((Below.refl w.heap.size w).alloc (Nat.le_refl _) _).trans (hb.mono (by simp))).trans (hA.mono (by omega))
end
theorem fldV_size {fs : List ByteArray} {n : Nat} (h : ∀ s, s ∈ fs -> s.size <= n) : (fldV fs).size <= n := getD_sz h 0
theorem lineQ_nsz {c : CdV} {fs : List ByteArray} {n : Nat} (h : ∀ a, a ∈ c.q -> a.1.size <= n) (hs : ∀ s, s ∈ fs -> s.size <= n) : ∀ a, a ∈ (lineQ c fs).q -> a.1.size <= n := by
 intro a ha
 unfold lineQ at ha
 split at ha
 . exact h a ha
 split at ha
 . rcases List.mem_append.1 ha with ha | ha
   . exact h a ha
   . rw [List.mem_singleton] at ha
     subst ha
     exact fldV_size (fun s hm => hs s (List.mem_of_mem_tail hm))
 split at ha
 . exact h a ha
 split at ha
 . exact h a ha
 split at ha
 . exact h a ha
 . split at ha
   . exact h a ha
   . split at ha
     . exact h a ha
     . exact h a ha
theorem readQk_nsz (s : ByteArray) : ∀ k, k <= (cutD 10 s).length -> ∀ a, a ∈ (readQk s.data.toList k).q -> a.1.size <= s.size
 | 0, _ => fun a ha => by simp [readQk, cd0] at ha
 | k + 1, hk => by
  rw [<- readQk_line s (by omega)]
  refine lineQ_nsz (readQk_nsz s k (by omega)) (fun f hf => ?_)
  rw [cutD_B] at hf
  obtain ⟨x, hx, rfl⟩ := List.mem_map.1 hf
  have h1 := (splitB_size ((cutD 10 s).getD k ⟨#[]⟩).data.toList).2 x hx
  have e : ((cutD 10 s).getD k ⟨#[]⟩).data.toList.length = ((cutD 10 s).getD k ⟨#[]⟩).size := Array.length_toList
  have h2 : (bA x).size = x.length := by simp [bA, ByteArray.size]
  have h3 := cutD_size s (k := k) (by omega)
  omega
theorem PiK.cdk {w W : World} {B b b2 : Nat} {lv : Value} {L : List ByteArray} {R : Array Value} {c : CdV} {v5 v6 v7 : Value} (h : PiK w B b b2 lv L R c v5 v6 v7 W) (hq : ∀ a, a ∈ c.q -> a.1.size <= 65536) (hs : Small c 65536) :
 ∃ a : CdA, v5 = .slice a.a1 c.q.length a.c1 /\ v6 = .slice a.a2 c.l.length a.c2 /\ v7 = .slice a.a3 c.b.length a.c3 /\ CdK c a W := by
 obtain ⟨⟨w0, n0, n1, init, last, e, hr, h1, h2, h3, h4⟩, hb⟩ := h
 have hm := hr.map
 obtain ⟨a, e5, e6, e7, hk⟩ := hr.rc.cdk c.n (fun x hx => by have := hq x hx; omega) (fun x hx => hs.i x.2 (by rw [<- hm]; exact List.mem_map_of_mem hx))
 rw [hm] at hk
 have hl : (init ++ last.toList).length = c.b.length := by rw [<- hm, List.length_map]
 rw [hl] at e7
 exact ⟨a, e5, e6, e7, hk⟩
theorem there8 {W : World} {b : Nat} {u0 u1 u2 u3 u4 u5 u6 u7 : Value} (h : W.heap[b]? = some (.cells #[u0, u1, u2, u3, u4, u5, u6, u7] 36 (0, 0))) : W.there b 0 8 := fun j hj => by
 have rf := frozen_of_row W b (0 + j) _ _ h
 refine ⟨?_, rf⟩
 have : j = 0 \/ j = 1 \/ j = 2 \/ j = 3 \/ j = 4 \/ j = 5 \/ j = 6 \/ j = 7 := by omega
 rcases this with rfl | rfl | rfl | rfl | rfl | rfl | rfl | rfl <;> simp [World.cell?, h]
theorem PiK.setR {w W : World} {B b b2 : Nat} {lv : Value} {L : List ByteArray} {R : Array Value} {c : CdV} {v5 v6 v7 : Value} (h : PiK w B b b2 lv L R c v5 v6 v7 W) (hw : w.heap.size <= b2) (o : Nat) (x : Value) : PiK w B b b2 lv L (R.setIfInBounds o x) c v5 v6 v7 (W.setCell ⟨b2, o, none⟩ x) := by
 have hW := h.res
 obtain ⟨⟨w0, n0, n1, init, last, e, hr, h1, h2, h3, h4⟩, hb⟩ := h
 have kp : ∀ {V : World}, V.heap[b2]? = some (.cells R 77 (0, 0)) -> Kept (. ≠ 77) V (V.setCell ⟨b2, o, none⟩ x) := fun {V} hV i C' T' fr hi hT => heap_setCell_other V ⟨b2, o, none⟩ i x (fun e => by
  subst e
  rw [hV] at hi
  injection hi with hi
  injection hi with _ e _
  exact hT e.symm)
 have k0 := kp h2
 have k1 := kp hW
 have e1 : (w0.setCell ⟨b2, o, none⟩ x).heap.size = w0.heap.size := by simp [World.setCell]
 have e2 : (W.setCell ⟨b2, o, none⟩ x).heap.size = W.heap.size := by simp [World.setCell]
 have hn := hr.hn
 refine ⟨⟨w0.setCell ⟨b2, o, none⟩ x, n0, n1, init, last, e1.trans e, ⟨⟨row_kept hr.rc.arr k1 (by decide), row_kept hr.rc.loops k1 (by decide), row_kept hr.rc.blocks k1 (by decide), fun e he => row_kept (hr.rc.insts e he) k1 (by decide)⟩, hr.map, hr.emp, hr.old, fun e he => row_kept (hr.new e he) k1 (by decide), by rw [e1]; exact below_set2 hr.below _ _, by rw [e1, e2]; exact hn⟩, (k0 _ _ _ _ h1 (by decide)).trans h1, heap_setCell_same w0 b2 o _ 77 x h2, h3.of_blocks (fun i C fr hi => (k0 i C 9 fr hi (by decide)).trans hi), h4.setCell (p := ⟨b2, o, none⟩) hw x⟩, hb⟩
def inC (s : ByteArray) : CdV := if parseQB s = true then readQ s.data.toList else cd0
def inE (s : ByteArray) : Int := if parseQB s = true then 0 else 3
set_option maxRecDepth 100000 in
set_option maxHeartbeats 8000000 in
theorem ParseIn_any (s : ByteArray) (hs : s.size <= 65535) (w : World) :
 Calls Tryz.prog 37 #[.string s] w fun e w' => ∃ a : CdA, e = .returned (.agg #[((inC s).n 0), ((inC s).n 1), ((inC s).n 2), ((inC s).n 3), ((inC s).n 4), .slice a.a1 (inC s).q.length a.c1, .slice a.a2 (inC s).l.length a.c2, .slice a.a3 (inC s).b.length a.c3, (inE s)]) /\ CdK (inC s) a w' /\ Below w.heap.size w w' := by
 have HC := lh (fun V => show Calls Tryz.prog 73 #[.string s, .int .u8 10] V (fun e w' => ∃ v, e = .returned v /\ FSl w' v (cutD 10 s) /\ Below V.heap.size V w') from cutD_any s 10 V (by omega))
 go_enter Tryz.func37, Tryz.ntmps37
 go_upto_region 5 with (go_at_call 73; (with_reducible refine (HC.out _).mono ?_); rintro e w1 ⟨v, rfl, hv, hb1⟩; have HP := lh (pik_start hb1 hv); clear hv hb1)
 have hll : (cutD 10 s).length <= 65536 := by
  rw [cutD_len]
  have := splitD_len 10 s.data.toList
  have e : s.data.toList.length = s.size := Array.length_toList
  omega
 have HQ := lh (fun k (hk : k < (cutD 10 s).length) => readQk_line s hk)
 have HSZ := lh (fun k (hk : k < (cutD 10 s).length) => cutD_size s hk)
 have HSM := lh (fun k (hk : k <= (cutD 10 s).length) => (readQk_ok s.data.toList k (by rw [<- cutD_len]; exact hk)).2)
 have HNM := lh (readQk_nsz s (cutD 10 s).length (Nat.le_refl _))
 have HOK := lh (readQk_ok s.data.toList (cutD 10 s).length (Nat.le_of_eq (cutD_len s)))
 have HALL := lh (show readQk s.data.toList (cutD 10 s).length = readQ s.data.toList by rw [cutD_len]; exact readQk_all _)
 obtain ⟨L, hL⟩ : ∃ L, cutD 10 s = L := ⟨_, rfl⟩
 rw [hL] at HP hll HQ HSZ HSM HNM HOK HALL
 obtain ⟨A, cc, rfl, -⟩ := HP.out.lines
 generalize w1.alloc (.cells #[(0:Int), (0:Int), (0:Int), (0:Int), (0:Int), .slice none 0 0, .slice none 0 0, .slice none 0 0] 36) = V at HP ⊢
 generalize w1.heap.size + 1 = B at HP
 generalize w1.heap.size = b at HP ⊢
 obtain ⟨b2, hb2⟩ : ∃ b2, w.heap.size = b2 := ⟨_, rfl⟩
 rw [hb2] at HP ⊢
 obtain ⟨R, hR⟩ : ∃ R : Array Value, (#[(0:Int), (0:Int), (0:Int), (0:Int), (0:Int), .slice none 0 0, .slice none 0 0, .slice none 0 0, (0:Int)] : Array Value) = R := ⟨_, rfl⟩
 rw [hR] at HP
 go_wp2
 go_loopg [5] L.length (fun g z5 wx => ∃ (k : Nat) (v5 v6 v7 : Value), z5 = .int .i64 k /\ k + g = L.length /\ Hid (PiK w B b b2 (.slice A L.length cc) L R (readQk s.data.toList k) v5 v6 v7 wx))
 case atStart => exact ⟨0, _, _, _, rfl, by omega, HP⟩
 case round =>
  clear HP
  obtain ⟨k, v5, v6, v7, rfl, hkg, HP⟩ := hrel
  cases gk with
  | zero =>
   obtain rfl : k = L.length := by omega
   subst hR
   have hw2 : w.heap.size <= b2 := by omega
   have hlt0 : ¬ ((L.length : Int) < (L.length : Int)) := by omega
   rw [HALL.out] at HP HNM HOK
   have hok := HOK.out.1
   have hsm : Small (readQ s.data.toList) 65536 := by
    obtain ⟨q1, q2, q3, q4⟩ := HOK.out.2
    exact ⟨by omega, by omega, by omega, fun e he => Nat.le_trans (q4 e he) (by omega)⟩
   obtain ⟨a, rfl, rfl, rfl, hk⟩ := HP.out.cdk (fun x hx => by have := HNM.out x hx; omega) hsm
   obtain ⟨C1, hC1⟩ : ∃ C1, readQ s.data.toList = C1 := ⟨_, rfl⟩
   have HIN := lh (show inC s = if chkC C1 = 0 /\ (⟨(txtC C1).toArray⟩ : ByteArray) = s then C1 else cd0 by unfold inC parseQB; rw [hC1]; simp)
   have HPB := lh (show inE s = if chkC C1 = 0 /\ (⟨(txtC C1).toArray⟩ : ByteArray) = s then 0 else 3 by unfold inE parseQB; rw [hC1]; simp)
   have hnm := HNM.out
   rw [hC1] at HP hk hok hsm hnm
   have HCD := lh (fun (lv : Value) (R' : Array Value) (W' : World) (h : PiK w B b b2 lv L R' C1 (.slice a.a1 C1.q.length a.c1) (.slice a.a2 C1.l.length a.c2) (.slice a.a3 C1.b.length a.c3) W') => h.cdk (fun x hx => by have := hnm x hx; omega) hsm)
   have HK := lh hk
   have HT := lh (fun V (hV : Below wr.heap.size wr V) => TextIn_c C1 a V (hk.on hV).mem ⟨hsm.q, hsm.l, hsm.b⟩ hok.rng)
   unfold cdval at HT
   have kb : ∀ o, wr.cell? ⟨b, o, none⟩ = (#[(C1.n 0), (C1.n 1), (C1.n 2), (C1.n 3), (C1.n 4), .slice a.a1 C1.q.length a.c1, .slice a.a2 C1.l.length a.c2, .slice a.a3 C1.b.length a.c3] : Array Value)[o]? := fun o => by
    have := HP.out.box
    simp only [World.cell?, this]
    simp
   clear hk hsm hok hnm HALL HOK HNM HQ HSZ HSM
   by_cases hz : chkC C1 = 0
   . rw [if_pos hz, hz] at HT
     obtain ⟨tx, htx⟩ : ∃ tx, (⟨(txtC C1).toArray⟩ : ByteArray) = tx := ⟨_, rfl⟩
     rw [htx] at HT HIN HPB
     by_cases hs2 : tx = s
     . subst hs2
       go_upto_region 10 with (go_at_call 16; (with_reducible refine (HT.out _ (Below.refl _ _)).mono ?_); rintro e w5 ⟨rfl, hb5⟩; have HB5 := lh hb5; clear hb5)
       have HR := lh ((HP.out.on HB5.out).on (bo (.cells #[.string tx, (0:Int)] 45)))
       have HKK := lh ((HK.out.on HB5.out).on (bo (.cells #[.string tx, (0:Int)] 45)))
       have kb2 : ∀ o, (w5.alloc (.cells #[.string tx, (0:Int)] 45)).cell? ⟨b, o, none⟩ = (#[(C1.n 0), (C1.n 1), (C1.n 2), (C1.n 3), (C1.n 4), .slice a.a1 C1.q.length a.c1, .slice a.a2 C1.l.length a.c2, .slice a.a3 C1.b.length a.c3] : Array Value)[o]? := fun o => by
        have := HR.out.box
        simp only [World.cell?, this]
        simp
       have kr : ∀ o, (w5.alloc (.cells #[.string tx, (0:Int)] 45)).cell? ⟨b2, o, none⟩ = (#[(0:Int), (0:Int), (0:Int), (0:Int), (0:Int), .slice none 0 0, .slice none 0 0, .slice none 0 0, (0:Int)] : Array Value)[o]? := fun o => by
        have := HR.out.res
        simp only [World.cell?, this]
        simp
       have zr : ∀ o, (w5.alloc (.cells #[.string tx, (0:Int)] 45)).frozen? ⟨b2, o, none⟩ = false := fun o => by
        have := HR.out.res
        simp [World.frozen?, this]
       go_wp2
       have e1 : inC tx = C1 := by rw [HIN.out, if_pos ⟨hz, trivial⟩]
       have e2 : inE tx = 0 := by rw [HPB.out, if_pos ⟨hz, trivial⟩]
       have H8 := (((((((((HR.out.setR hw2 0 (.int .i64 (C1.n 0))).setR hw2 1 (.int .i64 (C1.n 1))).setR hw2 2 (.int .i64 (C1.n 2))).setR hw2 3 (.int .i64 (C1.n 3))).setR hw2 4 (.int .i64 (C1.n 4))).setR hw2 5 (.slice a.a1 C1.q.length a.c1)).setR hw2 6 (.slice a.a2 C1.l.length a.c2)).setR hw2 7 (.slice a.a3 C1.b.length a.c3)).setR hw2 8 (.int .i64 0))
       obtain ⟨a', q5, q6, q7, hk'⟩ := HCD.out _ _ _ H8
       have H9 := H8.below
       exact bodyPost_ret (v := .agg #[(C1.n 0), (C1.n 1), (C1.n 2), (C1.n 3), (C1.n 4), .slice a.a1 C1.q.length a.c1, .slice a.a2 C1.l.length a.c2, .slice a.a3 C1.b.length a.c3, (0:Int)]) (by simp [results, Tryz.results37, go_sem, kr]) rfl ⟨a', by rw [e1, e2, <- q5, <- q6, <- q7], by rw [e1]; exact hk', by first | exact H9 | (rw [hb2] at H9; exact H9)⟩
     . have hs3 : (tx.toList == s.toList) = false := by
        rw [beq_eq_false_iff_ne]
        intro e
        rw [ByteArray.toList_eq, ByteArray.toList_eq] at e
        exact hs2 (ByteArray.ext (Array.toList_inj.1 e))
       go_upto_region 10 with (go_at_call 16; (with_reducible refine (HT.out _ (Below.refl _ _)).mono ?_); rintro e w5 ⟨rfl, hb5⟩; have HB5 := lh hb5; clear hb5)
       have HR := lh ((HP.out.on HB5.out).on (bo (.cells #[.string tx, (0:Int)] 45)))
       have HKK := lh ((HK.out.on HB5.out).on (bo (.cells #[.string tx, (0:Int)] 45)))
       have kb2 : ∀ o, (w5.alloc (.cells #[.string tx, (0:Int)] 45)).cell? ⟨b, o, none⟩ = (#[(C1.n 0), (C1.n 1), (C1.n 2), (C1.n 3), (C1.n 4), .slice a.a1 C1.q.length a.c1, .slice a.a2 C1.l.length a.c2, .slice a.a3 C1.b.length a.c3] : Array Value)[o]? := fun o => by
        have := HR.out.box
        simp only [World.cell?, this]
        simp
       have kr : ∀ o, (w5.alloc (.cells #[.string tx, (0:Int)] 45)).cell? ⟨b2, o, none⟩ = (#[(0:Int), (0:Int), (0:Int), (0:Int), (0:Int), .slice none 0 0, .slice none 0 0, .slice none 0 0, (0:Int)] : Array Value)[o]? := fun o => by
        have := HR.out.res
        simp only [World.cell?, this]
        simp
       have zr : ∀ o, (w5.alloc (.cells #[.string tx, (0:Int)] 45)).frozen? ⟨b2, o, none⟩ = false := fun o => by
        have := HR.out.res
        simp [World.frozen?, this]
       go_wp2
       have e1 : inC s = cd0 := by rw [HIN.out, if_neg (fun h => hs2 h.2)]
       have e2 : inE s = 3 := by rw [HPB.out, if_neg (fun h => hs2 h.2)]
       have H9 := (((((((((HR.out.setR hw2 0 (.int .i64 0)).setR hw2 1 (.int .i64 0)).setR hw2 2 (.int .i64 0)).setR hw2 3 (.int .i64 0)).setR hw2 4 (.int .i64 0)).setR hw2 5 (.slice none 0 0)).setR hw2 6 (.slice none 0 0)).setR hw2 7 (.slice none 0 0)).setR hw2 8 (.int .i64 3)).below
       exact bodyPost_ret (v := .agg #[(0:Int), (0:Int), (0:Int), (0:Int), (0:Int), .slice none 0 0, .slice none 0 0, .slice none 0 0, (3:Int)]) (by simp [results, Tryz.results37, go_sem, kr]) rfl ⟨noAd, by rw [e1, e2]; rfl, by rw [e1]; exact cd0_mem _, by first | exact H9 | (rw [hb2] at H9; exact H9)⟩
   . rw [if_neg hz] at HT
     obtain ⟨ez, hez⟩ : ∃ ez, chkC C1 = ez := ⟨_, rfl⟩
     rw [hez] at HT hz
     go_upto_region 10 with (go_at_call 16; (with_reducible refine (HT.out _ (Below.refl _ _)).mono ?_); rintro e w5 ⟨rfl, hb5⟩; have HB5 := lh hb5; clear hb5)
     have HR := lh ((HP.out.on HB5.out).on (bo (.cells #[.string ⟨#[]⟩, ez] 45)))
     have HKK := lh ((HK.out.on HB5.out).on (bo (.cells #[.string ⟨#[]⟩, ez] 45)))
     have kb2 : ∀ o, (w5.alloc (.cells #[.string ⟨#[]⟩, ez] 45)).cell? ⟨b, o, none⟩ = (#[(C1.n 0), (C1.n 1), (C1.n 2), (C1.n 3), (C1.n 4), .slice a.a1 C1.q.length a.c1, .slice a.a2 C1.l.length a.c2, .slice a.a3 C1.b.length a.c3] : Array Value)[o]? := fun o => by
      have := HR.out.box
      simp only [World.cell?, this]
      simp
     have kr : ∀ o, (w5.alloc (.cells #[.string ⟨#[]⟩, ez] 45)).cell? ⟨b2, o, none⟩ = (#[(0:Int), (0:Int), (0:Int), (0:Int), (0:Int), .slice none 0 0, .slice none 0 0, .slice none 0 0, (0:Int)] : Array Value)[o]? := fun o => by
      have := HR.out.res
      simp only [World.cell?, this]
      simp
     have zr : ∀ o, (w5.alloc (.cells #[.string ⟨#[]⟩, ez] 45)).frozen? ⟨b2, o, none⟩ = false := fun o => by
      have := HR.out.res
      simp [World.frozen?, this]
     go_wp2
     have e1 : inC s = cd0 := by rw [HIN.out, if_neg (fun h => hz (hez ▸ h.1))]
     have e2 : inE s = 3 := by rw [HPB.out, if_neg (fun h => hz (hez ▸ h.1))]
     have H9 := (((((((((HR.out.setR hw2 0 (.int .i64 0)).setR hw2 1 (.int .i64 0)).setR hw2 2 (.int .i64 0)).setR hw2 3 (.int .i64 0)).setR hw2 4 (.int .i64 0)).setR hw2 5 (.slice none 0 0)).setR hw2 6 (.slice none 0 0)).setR hw2 7 (.slice none 0 0)).setR hw2 8 (.int .i64 3)).below
     exact bodyPost_ret (v := .agg #[(0:Int), (0:Int), (0:Int), (0:Int), (0:Int), .slice none 0 0, .slice none 0 0, .slice none 0 0, (3:Int)]) (by simp [results, Tryz.results37, go_sem, kr]) rfl ⟨noAd, by rw [e1, e2]; rfl, by rw [e1]; exact cd0_mem _, by first | exact H9 | (rw [hb2] at H9; exact H9)⟩
  | succ g =>
   have hk1 : k < L.length := by omega
   have hk2 : (k : Int) < (L.length : Int) := by omega
   have hk3 : 0 <= (k : Int) := by omega
   have hlq := HQ.out k hk1
   have hln := HSZ.out k hk1
   have hsm : Small (readQk s.data.toList k) 1000000 := by
    obtain ⟨q1, q2, q3, q4⟩ := HSM.out k (by omega)
    exact ⟨by omega, by omega, by omega, fun e he => Nat.le_trans (q4 e he) (by omega)⟩
   obtain ⟨ln, hlne⟩ : ∃ ln, L.getD k ⟨#[]⟩ = ln := ⟨_, rfl⟩
   rw [hlne] at hlq hln
   replace hln : ln.size <= 100000 := by omega
   obtain ⟨C1, hC1⟩ : ∃ C1, readQk s.data.toList k = C1 := ⟨_, rfl⟩
   obtain ⟨C2, hC2⟩ : ∃ C2, readQk s.data.toList (k + 1) = C2 := ⟨_, rfl⟩
   rw [hC1, hC2] at hlq
   rw [hC1] at HP hsm
   replace HP := lh (HP.out.on (show Below wr.heap.size wr wr.drew from ⟨rfl, rfl, rfl, Nat.le_refl _, fun _ _ => rfl⟩))
   obtain ⟨A', c', eA, -, hrow⟩ := HP.out.lines
   injection eA with eA _ eC
   subst eA eC
   obtain ⟨fb, off, C, fr, rfl, hh, hcs⟩ := hrow (by omega)
   have hcl := hcs k hk1
   rw [hlne] at hcl
   have kl : wr.drew.cell? ⟨fb, off + k, none⟩ = some (.string ln) := cellK hh hcl
   have kb : ∀ o, wr.drew.cell? ⟨b, o, none⟩ = (#[(C1.n 0), (C1.n 1), (C1.n 2), (C1.n 3), (C1.n 4), v5, v6, v7] : Array Value)[o]? := fun o => by
    have := HP.out.box
    simp only [World.cell?, this]
    simp
   clear hrow hh hcs hcl hlne
   go_upto_region 8 with fail
   refine wp_region_held_drew (S := (fun _ => True)) (by kernel_rfl) ?_ (fun hHeld => ?_)
   . (try dsimp only); all_goals exact trivial
   refine tk 1 ?_
   refine tk 2 ?_
   refine tk 3 ?_
   refine wpAnyH_ready (rs := [0, 4]) (by kernel_rfl) (by simp) ?_
   refine ax (fun K hK => ?_) ?_
   . (go_simp)
     refine hK.out _ _ ?_ (fun hHeld => ?_)
     . (try dsimp only); all_goals exact trivial
     clear hK K
     try simp only [pe]
     refine am 4 (fun K hK => ?_) ?_
     . (go_simp)
       refine hK.out _ _ ?_ (fun hHeld => ?_)
       . (try dsimp only); all_goals exact trivial
       clear hK K
       try simp only [pe]
       refine am 5 (fun K hK => ?_) ?_
       . (go_simp; go_at_call 74; refine (HP.out.call ln hln hsm).mono ?_; rw [hlq]; rintro e w5 ⟨u5, u6, u7, rfl, h5⟩; have HL5 := lh h5; clear h5)
         refine hK.out _ _ ?_ (fun hHeld => ?_)
         . (try dsimp only); all_goals exact trivial
         clear hK K
         try simp only [pe]
         refine am 6 (fun K hK => ?_) ?_
         . (refine step_store_mid rfl 36 (.tmp 4) (.tmp 25) rfl b 0 #[(C2.n 0), (C2.n 1), (C2.n 2), (C2.n 3), (C2.n 4), u5, u6, u7] (by kernel_rfl) (by kernel_rfl) (there8 HL5.out.box) (by kernel_rfl) (by simp [Value.oneCell']; exact HL5.out.one) ?_; have HF := lh (show PiK w B b b2 _ L R C2 u5 u6 u7 (w5.setCells b 0 (#[(C2.n 0), (C2.n 1), (C2.n 2), (C2.n 3), (C2.n 4), u5, u6, u7] : Array Value).toList) from HL5.out.set8); generalize w5.setCells b 0 (#[(C2.n 0), (C2.n 1), (C2.n 2), (C2.n 3), (C2.n 4), u5, u6, u7] : Array Value).toList = W9 at HF ⊢)
           refine hK.out _ _ ?_ (fun hHeld => ?_)
           . (try dsimp only); all_goals exact trivial
           clear hK K
           try simp only [pe]
           refine wpAnyH_done (by kernel_rfl) ?_ _
           go_wp2
           go_roundg g
           case measure => omega
           case rel => exact ⟨k + 1, u5, u6, u7, by go_num, by omega, by rw [hC2]; exact HF⟩
         exact AllReadyH.nil
       exact AllReadyH.nil
     exact AllReadyH.nil
   refine ax (fun K hK => ?_) ?_
   . (go_simp)
     refine hK.out _ _ ?_ (fun hHeld => ?_)
     . (try dsimp only); all_goals exact trivial
     clear hK K
     try simp only [pe]
     refine am 0 (fun K hK => ?_) ?_
     . (go_simp)
       refine hK.out _ _ ?_ (fun hHeld => ?_)
       . (try dsimp only); all_goals exact trivial
       clear hK K
       try simp only [pe]
       refine am 5 (fun K hK => ?_) ?_
       . (go_simp; go_at_call 74; refine (HP.out.call ln hln hsm).mono ?_; rw [hlq]; rintro e w5 ⟨u5, u6, u7, rfl, h5⟩; have HL5 := lh h5; clear h5)
         refine hK.out _ _ ?_ (fun hHeld => ?_)
         . (try dsimp only); all_goals exact trivial
         clear hK K
         try simp only [pe]
         refine am 6 (fun K hK => ?_) ?_
         . (refine step_store_mid rfl 36 (.tmp 4) (.tmp 25) rfl b 0 #[(C2.n 0), (C2.n 1), (C2.n 2), (C2.n 3), (C2.n 4), u5, u6, u7] (by kernel_rfl) (by kernel_rfl) (there8 HL5.out.box) (by kernel_rfl) (by simp [Value.oneCell']; exact HL5.out.one) ?_; have HF := lh (show PiK w B b b2 _ L R C2 u5 u6 u7 (w5.setCells b 0 (#[(C2.n 0), (C2.n 1), (C2.n 2), (C2.n 3), (C2.n 4), u5, u6, u7] : Array Value).toList) from HL5.out.set8); generalize w5.setCells b 0 (#[(C2.n 0), (C2.n 1), (C2.n 2), (C2.n 3), (C2.n 4), u5, u6, u7] : Array Value).toList = W9 at HF ⊢)
           refine hK.out _ _ ?_ (fun hHeld => ?_)
           . (try dsimp only); all_goals exact trivial
           clear hK K
           try simp only [pe]
           refine wpAnyH_done (by kernel_rfl) ?_ _
           go_wp2
           go_roundg g
           case measure => omega
           case rel => exact ⟨k + 1, u5, u6, u7, by go_num, by omega, by rw [hC2]; exact HF⟩
         exact AllReadyH.nil
       exact AllReadyH.nil
     exact AllReadyH.nil
   exact AllReadyH.nil
end Go.Proofs.YtkncilgmlkeifaaGreatDoor
