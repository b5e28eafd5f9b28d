/-
  Package code: the reader: a line, any word, from state to state; the fields of a new line; stores into other boxes.
-/
import Derived.Test.YtkncilgmlkeifaaGreatDoorLnp
set_option linter.unusedVariables false
set_option linter.unusedSimpArgs false
namespace Go.Proofs.YtkncilgmlkeifaaGreatDoor
open Go.ChangeShapes Go.WideShapes Go.ChangeAt Go.RowKit Go.Shelf

section
variable {rb n0 n1 : Nat} {g : Nat → Value} {qs : List ArV} {ls : List LoV} {init : List BlE} {last : Option BlE} {fs : List ByteArray} {w0 W : World}
theorem RM.keep2 {g' : Nat → Value} {W' : World} (h : RM rb n0 n1 g qs ls init last W) (hr : W'.rowIs rb 166 9 g') (h5 : g' 5 = g 5) (h6 : g' 6 = g 6) (h7 : g' 7 = g 7)
    (hk : Kept (fun T => T ≠ 166 ∧ T ≠ 9) W W') (hs : W.heap.size ≤ W'.heap.size) : RM rb n0 n1 g' qs ls init last W' := by
  refine ⟨hr, ?_, ?_, ?_, ?_, ?_, ?_⟩
  · rw [h5]; exact row_kept h.arr hk (by decide)
  · rw [h6]; exact row_kept h.loops hk (by decide)
  · rw [h7]; exact row_kept h.blocks hk (by decide)
  · exact fun e he => ⟨row_kept (h.old e he).1 hk (by decide), (h.old e he).2⟩
  · exact fun e he => row_kept (h.new e he) hk (by decide)
  · have := h.hn; omega
/-- A store into a box that holds a string. -/
theorem RM.box {b : Nat} {C : Array Value} {fr : Nat × Nat} (h : RM rb n0 n1 g qs ls init last W) (hb : W.heap[b]? = some (.cells C 9 fr)) (o : Nat) (u : Value) : RM rb n0 n1 g qs ls init last (W.setCell ⟨b, o, none⟩ u) := by
  refine h.keep2 (h.row.setOther (a := ⟨b, o, none⟩) ?_ u) rfl rfl rfl ?_ (by simp [World.setCell])
  · exact fun e => (row_ne h.row hb (by decide)) e.symm
  · intro k C' T fr' hk hT
    refine Below.heap_setCell W ⟨b, o, none⟩ u k ?_
    rintro rfl
    rw [hb] at hk
    injection hk with hk
    injection hk with _ h2 _
    exact hT.2 h2.symm
/-- The fields of a new line. -/
theorem RM.setF {v : Value} (h : RM rb n0 n1 g qs ls init last W) (hf : FSl W v fs) (hw : Ch rb rb w0 W) (h0 : w0.heap.size ≤ n0) : RD rb n0 n1 g qs ls init last fs w0 (W.setCell ⟨rb, 8, none⟩ v) := by
  have hn := h.hn
  refine ⟨v, h.keep2 (h.row.set 8 v) (upd_ne _ _ _ _ (by decide)) (upd_ne _ _ _ _ (by decide)) (upd_ne _ _ _ _ (by decide)) ?_ (by simp [World.setCell]), hf.setR h.row (by decide) 8 v, hw.trans (Ch.set1 rb rb W 8 v), h0⟩
  intro k C T fr hk hT
  exact Below.heap_setCell W ⟨rb, 8, none⟩ v k (row_ne h.row hk (fun e => hT.1 e.symm))
end
/-- The code that has been read so far. -/
structure CdV where
  q : List ArV
  l : List LoV
  b : List (List InstV × TermV)
  n : Nat → Int
def lineV (c : CdV) (fs : List ByteArray) : CdV :=
  if fldV fs = ⟨#[99, 111, 100, 101]⟩ then { c with n := fun j => if j < 5 then atoiV (fs.tail.getD j ⟨#[]⟩).data.toList else c.n j }
  else if fldV fs = ⟨#[97, 114, 114, 97, 121]⟩ then { c with q := c.q ++ [(fldV fs.tail, atoiV (fs.tail.tail.getD 0 ⟨#[]⟩).data.toList, atoiV (fs.tail.tail.getD 1 ⟨#[]⟩).data.toList, atoiV (fs.tail.tail.getD 2 ⟨#[]⟩).data.toList)] }
  else if fldV fs = ⟨#[108, 111, 111, 112]⟩ then { c with l := c.l ++ [(atoiV (fs.tail.getD 0 ⟨#[]⟩).data.toList, atoiV (fs.tail.getD 1 ⟨#[]⟩).data.toList, atoiV (fs.tail.getD 2 ⟨#[]⟩).data.toList)] }
  else if fldV fs = ⟨#[98, 108, 111, 99, 107]⟩ then { c with b := c.b ++ [([], zeroT)] }
  else match c.b.getLast? with
    | none => c
    | some e => { c with b := c.b.dropLast ++ [((stI (fldV fs) fs.tail e.1 12).2, (stT (fldV fs) (stI (fldV fs) fs.tail e.1 12).1 e.2 5).2)] }
/-- The reader holds the code c. -/
def HC (rb n0 : Nat) (c : CdV) (W : World) : Prop := ∃ n1 g init last, RM rb n0 n1 g c.q c.l init last W ∧ (last = none → init = []) ∧ (init ++ last.toList).map (·.2) = c.b ∧ ∀ j, j < 5 → g j = .int .i64 (c.n j)
def HCD (rb n0 : Nat) (c : CdV) (fs : List ByteArray) (w0 W : World) : Prop := ∃ n1 g init last, RD rb n0 n1 g c.q c.l init last fs w0 W ∧ (last = none → init = []) ∧ (init ++ last.toList).map (·.2) = c.b ∧ ∀ j, j < 5 → g j = .int .i64 (c.n j)
theorem HC.setF {rb n0 : Nat} {c : CdV} {fs : List ByteArray} {w0 W : World} {v : Value} (h : HC rb n0 c W) (hf : FSl W v fs) (hw : Ch rb rb w0 W) (h0 : w0.heap.size ≤ n0) : HCD rb n0 c fs w0 (W.setCell ⟨rb, 8, none⟩ v) := by
  obtain ⟨n1, g, init, last, h1, h2, h3, h4⟩ := h
  exact ⟨n1, g, init, last, h1.setF hf hw h0, h2, h3, h4⟩
theorem HCD.hc {rb n0 : Nat} {c : CdV} {fs : List ByteArray} {w0 W : World} (h : HCD rb n0 c fs w0 W) : HC rb n0 c W ∧ Ch rb rb w0 W := by
  obtain ⟨n1, g, init, last, ⟨v, h1, _, hb, _⟩, h2, h3, h4⟩ := h
  exact ⟨⟨n1, _, init, last, h1, h2, h3, fun j hj => by rw [upd_ne _ _ _ _ (by omega)]; exact h4 j hj⟩, hb⟩
theorem HC.box {rb n0 b : Nat} {c : CdV} {W : World} {C : Array Value} {fr : Nat × Nat} (h : HC rb n0 c W) (hb : W.heap[b]? = some (.cells C 9 fr)) (o : Nat) (u : Value) : HC rb n0 c (W.setCell ⟨b, o, none⟩ u) := by
  obtain ⟨n1, g, init, last, h1, h2, h3, h4⟩ := h
  exact ⟨n1, g, init, last, h1.box hb o u, h2, h3, h4⟩
theorem updN_five (g : Nat → Value) (fs : List ByteArray) (j : Nat) (hj : j < 5) : updN g (fun j => j) fs 5 j = .int .i64 (atoiV (fs.getD j ⟨#[]⟩).data.toList) := by
  match j, hj with
  | 0, _ => simp [updN, upd]
  | 1, _ => simp [updN, upd]
  | 2, _ => simp [updN, upd]
  | 3, _ => simp [updN, upd]
  | 4, _ => simp [updN, upd]
/-- line, any word. -/
theorem rline_any (rb n0 : Nat) (c : CdV) (fs : List ByteArray) (w0 W : World) (h : HCD rb n0 c fs w0 W) (hE : EnvX rb w0) (hl : fs.length ≤ 1000000) (hsz : ∀ s, s ∈ fs → s.size ≤ 281474976710656) (hq : c.q.length ≤ 1000000) (hlo : c.l.length ≤ 1000000) (hbl : c.b.length ≤ 1000000) (hbi : ∀ e, e ∈ c.b → e.1.length ≤ 1000000) :
    Calls Tryz.prog 106 #[.pointer (some ⟨rb, 0, none⟩)] W fun e w' => (∃ v, e = .returned v) ∧ ∃ fs', HCD rb n0 (lineV c fs) fs' w0 w' := by
  obtain ⟨n1, g, init, last, h1, h2, h3, h4⟩ := h
  have hlen : (init ++ last.toList).length = c.b.length := by rw [← h3, List.length_map]
  by_cases k1 : fldV fs = ⟨#[99, 111, 100, 101]⟩
  · refine (line_code rb n0 n1 g c.q c.l init last fs w0 W h1 hE hl hsz k1).mono ?_
    rintro e w' ⟨he, hd⟩
    refine ⟨he, _, n1, _, init, last, by rw [lineV, if_pos k1]; exact hd, h2, by rw [lineV, if_pos k1]; exact h3, fun j hj => ?_⟩
    rw [lineV, if_pos k1, updN_five g _ j hj]
    simp [hj]
  by_cases k2 : fldV fs = ⟨#[97, 114, 114, 97, 121]⟩
  · refine (line_array rb n0 n1 g c.q c.l init last fs w0 W h1 hE hl hsz hq k2).mono ?_
    rintro e w' ⟨he, v, hd⟩
    refine ⟨he, _, n1, _, init, last, by rw [lineV, if_neg k1, if_pos k2]; exact hd, h2, by rw [lineV, if_neg k1, if_pos k2]; exact h3, fun j hj => ?_⟩
    rw [lineV, if_neg k1, if_pos k2, upd_ne _ _ _ _ (by omega)]
    exact h4 j hj
  by_cases k3 : fldV fs = ⟨#[108, 111, 111, 112]⟩
  · refine (line_loop rb n0 n1 g c.q c.l init last fs w0 W h1 hE hl hsz hlo k3).mono ?_
    rintro e w' ⟨he, v, hd⟩
    refine ⟨he, _, n1, _, init, last, by rw [lineV, if_neg k1, if_neg k2, if_pos k3]; exact hd, h2, by rw [lineV, if_neg k1, if_neg k2, if_pos k3]; exact h3, fun j hj => ?_⟩
    rw [lineV, if_neg k1, if_neg k2, if_pos k3, upd_ne _ _ _ _ (by omega)]
    exact h4 j hj
  by_cases k4 : fldV fs = ⟨#[98, 108, 111, 99, 107]⟩
  · refine (line_block rb n0 n1 g c.q c.l init last fs w0 W h1 hl (by omega) k4).mono ?_
    rintro e w' ⟨he, v, n1', hd⟩
    refine ⟨he, _, n1', _, init ++ last.toList, some (.slice none 0 0, [], zeroT), by rw [lineV, if_neg k1, if_neg k2, if_neg k3, if_pos k4]; exact hd, (fun hh => by cases hh), ?_, fun j hj => ?_⟩
    · rw [lineV, if_neg k1, if_neg k2, if_neg k3, if_pos k4, List.map_append, h3]
      rfl
    · rw [lineV, if_neg k1, if_neg k2, if_neg k3, if_pos k4, upd_ne _ _ _ _ (by omega)]
      exact h4 j hj
  cases last with
  | none =>
    obtain rfl := h2 rfl
    have hb0 : c.b = [] := by rw [← h3]; rfl
    have hv : lineV c fs = c := by rw [lineV, if_neg k1, if_neg k2, if_neg k3, if_neg k4, hb0]; rfl
    rw [hv]
    refine (line_none rb n0 n1 g c.q c.l fs w0 W h1 hl k1 k2 k3 k4).mono ?_
    rintro e w' ⟨he, hd⟩
    exact ⟨he, _, n1, g, [], none, hd, h2, h3, h4⟩
  | some e =>
    have hb : c.b = init.map (·.2) ++ [e.2] := by rw [← h3]; simp [Option.toList]
    have hv : lineV c fs = { c with b := init.map (·.2) ++ [((stI (fldV fs) fs.tail e.2.1 12).2, (stT (fldV fs) (stI (fldV fs) fs.tail e.2.1 12).1 e.2.2 5).2)] } := by
      rw [lineV, if_neg k1, if_neg k2, if_neg k3, if_neg k4, hb]
      simp
    rw [hv]
    have hil : init.length ≤ 1000000 := by
      rw [hb] at hbl
      simp at hbl
      omega
    refine (line_part rb n0 n1 g c.q c.l init fs w0 W e h1 hE hl hsz (hbi e.2 (by rw [hb]; simp)) hil k1 k2 k3 k4).mono ?_
    rintro e1 w' ⟨he, v, hd⟩
    exact ⟨he, _, n1, g, init, some (v, _, _), hd, (fun hh => by cases hh), by simp [Option.toList], h4⟩
end Go.Proofs.YtkncilgmlkeifaaGreatDoor
