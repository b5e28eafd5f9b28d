/-
  Package code: the reader: what it holds; contracts of Atoi and ParseInt as plain functions, of field.
-/
import Derived.Test.YtkncilgmlkeifaaGreatDoorLin
import Derived.Deep.OwnRows
import Derived.Lib.AtoiErrMem
import Derived.Deep.CutRange
set_option linter.unusedVariables false
set_option linter.unusedSimpArgs false
namespace Go.Proofs.YtkncilgmlkeifaaGreatDoor
open Go.ChangeShapes Go.WideShapes Go.ChangeAt Go.RowKit Go.Shelf

/-- The library's table and variables that the reader and the writer read. -/
structure EnvP (w : World) : Prop where
  tab : EnvT w
  syn : ∃ tp p, w.var? Tryz.prog "strconv.ErrSyntax" = some #[.iface tp p]
  rng : ∃ tp p, w.var? Tryz.prog "strconv.ErrRange" = some #[.iface tp p]
theorem var_on {w w' : World} {n : String} {cs : Array Value} (h : w.var? Tryz.prog n = some cs) (hb : Below w.heap.size w w') : w'.var? Tryz.prog n = some cs := by
  unfold World.var? at h ⊢
  cases hg : Tryz.prog.globalNamed n with
  | none => rw [hg] at h; cases h
  | some g =>
    rw [hg] at h
    simp only [Option.bind_some] at h ⊢
    have hlt : g < w.heap.size := by
      rcases Nat.lt_or_ge g w.heap.size with h' | h'
      · exact h'
      · rw [Array.getElem?_eq_none h'] at h; cases h
    rw [hb.block g hlt]
    exact h
theorem EnvP.on {w w' : World} (h : EnvP w) (hb : Below w.heap.size w w') : EnvP w' := by
  obtain ⟨h1, ⟨t2, p2, h2⟩, ⟨t3, p3, h3⟩⟩ := h
  exact ⟨h1.on hb, ⟨t2, p2, var_on h2 hb⟩, ⟨t3, p3, var_on h3 hb⟩⟩
/-- What Atoi makes of a text, errors not noticed. -/
def atoiV (l : List UInt8) : Int := match Lib.atoiAll l with | .ok v => v | .range => Lib.atoiSat l | _ => 0
def pintV (l : List UInt8) : Int := match Lib.parseIntB 32 l with | .ok v => v | .range => Lib.intSat 32 l | _ => 0
theorem atoi_any (s : ByteArray) (w : World) (hs : s.size ≤ 281474976710656) (hE : EnvP w) :
    Calls Tryz.prog 161 #[.string s] w fun e w' => (∃ x, e = .returned (.tuple #[.int .i64 (atoiV s.data.toList), x])) ∧ Below w.heap.size w w' := by
  obtain ⟨_, ⟨t2, p2, h2⟩, ⟨t3, p3, h3⟩⟩ := hE
  unfold atoiV
  cases ha : Lib.atoiAll s.data.toList with
  | ok v =>
    refine (Tryz.strconv_Atoi_ok s (by omega) v ha w).mono ?_
    rintro e w' ⟨rfl, hw⟩
    refine ⟨⟨_, rfl⟩, ?_⟩
    rcases hw with rfl | ⟨t, rfl⟩
    · exact Below.refl _ _
    · exact Lib.bytesWorld_below _ _ _
  | range =>
    refine (Tryz.strconv_Atoi_range_var s hs ha t3 p3 w h3).mono ?_
    rintro e w' ⟨N, rfl, _, _, hb⟩
    exact ⟨⟨_, rfl⟩, hb⟩
  | _ =>
    refine (Tryz.strconv_Atoi_syntax_var s hs ha t2 p2 w h2).mono ?_
    rintro e w' ⟨N, rfl, _, _, hb⟩
    exact ⟨⟨_, rfl⟩, hb⟩
theorem pint_any (s : ByteArray) (w : World) (hs : s.size ≤ 281474976710656) (hE : EnvP w) :
    Calls Tryz.prog 197 #[.string s, .int .i64 10, .int .i64 32] w fun e w' => (∃ x, e = .returned (.tuple #[.int .i64 (pintV s.data.toList), x])) ∧ Below w.heap.size w w' := by
  obtain ⟨_, ⟨t2, p2, h2⟩, ⟨t3, p3, h3⟩⟩ := hE
  unfold pintV
  cases ha : Lib.parseIntB 32 s.data.toList with
  | ok v =>
    refine (Tryz.strconv_ParseInt_10_at32_ok s (by omega) v ha w).mono ?_
    rintro e w' ⟨rfl, hw⟩
    refine ⟨⟨_, rfl⟩, ?_⟩
    rcases hw with rfl | ⟨t, rfl⟩
    · exact Below.refl _ _
    · exact Lib.bytesWorld_below _ _ _
  | range =>
    refine (Tryz.strconv_ParseInt_10_at32_range_var s hs ha t3 p3 w h3).mono ?_
    rintro e w' ⟨N, rfl, _, _, hb⟩
    exact ⟨⟨_, rfl⟩, hb⟩
  | _ =>
    refine (Tryz.strconv_ParseInt_10_at32_syntax_var s hs ha t2 p2 w h2).mono ?_
    rintro e w' ⟨N, rfl, _, _, hb⟩
    exact ⟨⟨_, rfl⟩, hb⟩
/-- Of what was there, only the blocks a and b may have changed. -/
structure Ch (a b : Nat) (w w' : World) : Prop where
  os : w'.os = w.os
  tape : w'.tape = w.tape
  output : w'.output = w.output
  size : w.heap.size ≤ w'.heap.size
  block : ∀ k, k < w.heap.size → k ≠ a → k ≠ b → w'.heap[k]? = w.heap[k]?
theorem Ch.refl (a b : Nat) (w : World) : Ch a b w w := ⟨rfl, rfl, rfl, Nat.le_refl _, fun _ _ _ _ => rfl⟩
theorem Ch.trans {a b : Nat} {w w1 w2 : World} (h : Ch a b w w1) (k : Ch a b w1 w2) : Ch a b w w2 :=
  ⟨k.os.trans h.os, k.tape.trans h.tape, k.output.trans h.output, Nat.le_trans h.size k.size, fun i hi ha hb => (k.block i (Nat.lt_of_lt_of_le hi h.size) ha hb).trans (h.block i hi ha hb)⟩
theorem Ch.of_below {a b : Nat} {w w' : World} (h : Below w.heap.size w w') : Ch a b w w' := ⟨h.os, h.tape, h.output, h.size, fun i hi _ _ => h.block i hi⟩
theorem Ch.set1 (a b : Nat) (w : World) (o : Nat) (v : Value) : Ch a b w (w.setCell ⟨a, o, none⟩ v) :=
  ⟨rfl, rfl, rfl, by simp [World.setCell], fun i hi ha hb => Below.heap_setCell w ⟨a, o, none⟩ v i ha⟩
theorem Ch.set2 (a b : Nat) (w : World) (o : Nat) (v : Value) : Ch a b w (w.setCell ⟨b, o, none⟩ v) :=
  ⟨rfl, rfl, rfl, by simp [World.setCell], fun i hi ha hb => Below.heap_setCell w ⟨b, o, none⟩ v i hb⟩
theorem Ch.wide {a b : Nat} {w w' : World} (h : Ch a a w w') : Ch a b w w' := ⟨h.os, h.tape, h.output, h.size, fun i hi ha _ => h.block i hi ha ha⟩
/-- Below B all is as it was, if the two blocks lie above. -/
theorem Ch.below {a b B : Nat} {w w' : World} (h : Ch a b w w') (ha : B ≤ a) (hb : B ≤ b) (hB : B ≤ w.heap.size) : Below B w w' :=
  ⟨h.os, h.tape, h.output, h.size, fun i hi => h.block i (by omega) (by omega) (by omega)⟩
theorem Ch.row {a b k n : Nat} {T : TypeId} {g : Nat → Value} {w w' : World} (h : Ch a b w w') (hr : w.rowIs k T n g) (ha : k ≠ a) (hb : k ≠ b) : w'.rowIs k T n g := hr.of_block (h.block k hr.lt ha hb)
/-- The slice value v holds the strings fs, in a block of strings. -/
def FSl (w : World) (v : Value) (fs : List ByteArray) : Prop :=
  ∃ A c, v = .slice A fs.length c ∧ fs.length ≤ c ∧ (0 < fs.length → ∃ fb off C fr, A = some ⟨fb, off, none⟩ ∧ w.heap[fb]? = some (.cells C 9 fr) ∧ ∀ j, j < fs.length → C[off + j]? = some (.string (fs.getD j ⟨#[]⟩)))
theorem FSl.of_blocks {w w' : World} {v : Value} {fs : List ByteArray} (h : FSl w v fs) (hb : ∀ (k : Nat) (C : Array Value) (fr : Nat × Nat), w.heap[k]? = some (Obj.cells C 9 fr) → w'.heap[k]? = some (Obj.cells C 9 fr)) : FSl w' v fs := by
  obtain ⟨A, c, hv, hc, hf⟩ := h
  refine ⟨A, c, hv, hc, fun hn => ?_⟩
  obtain ⟨fb, off, C, fr, hA, hh, hj⟩ := hf hn
  exact ⟨fb, off, C, fr, hA, hb _ _ _ hh, hj⟩
theorem FSl.ch {w w' : World} {v : Value} {fs : List ByteArray} {a b Ta Tb na nb : Nat} {ga gb : Nat → Value} (h : FSl w v fs) (hc : Ch a b w w') (ha : w.rowIs a Ta na ga) (hb : w.rowIs b Tb nb gb) (hTa : Ta ≠ 9) (hTb : Tb ≠ 9) : FSl w' v fs := by
  refine h.of_blocks (fun k C fr hk => (hc.block k (Array.getElem?_eq_some_iff.1 hk).1 ?_ ?_).trans hk)
  · rintro rfl
    obtain ⟨c, hh, _⟩ := ha
    rw [hh] at hk
    injection hk with hk
    injection hk with _ hT _
    exact hTa hT
  · rintro rfl
    obtain ⟨c, hh, _⟩ := hb
    rw [hh] at hk
    injection hk with hk
    injection hk with _ hT _
    exact hTb hT
def upd (g : Nat → Value) (i : Nat) (v : Value) : Nat → Value := fun j => if j = i then v else g j
theorem upd_self {g : Nat → Value} (i : Nat) : upd g i (g i) = g := by
  funext j
  unfold upd
  split
  · rename_i h; rw [h]
  · rfl
/-- The field that comes next: the empty string where there is none. -/
def fldV (fs : List ByteArray) : ByteArray := fs.getD 0 ⟨#[]⟩
theorem row_ne {w : World} {a b T n : Nat} {g : Nat → Value} {C : Array Value} {U : TypeId} {fr : Nat × Nat} (h : w.rowIs a T n g) (hb : w.heap[b]? = some (.cells C U fr)) (hT : T ≠ U) : b ≠ a := by
  rintro rfl
  obtain ⟨c, hh, _⟩ := h
  rw [hh] at hb
  injection hb with hb
  injection hb with _ h2 _
  exact hT h2
set_option maxRecDepth 100000 in
set_option maxHeartbeats 2000000 in
theorem field_any (rb : Nat) (g : Nat → Value) (fs : List ByteArray) (w : World) (hr : w.rowIs rb 166 9 g) (hf : FSl w (g 8) fs) (hl : fs.length ≤ 1000000) :
    Calls Tryz.prog 138 #[.pointer (some ⟨rb, 0, none⟩)] w fun e w' => e = .returned (.string (fldV fs)) ∧ ∃ v', w'.rowIs rb 166 9 (upd g 8 v') ∧ FSl w' v' fs.tail ∧ Ch rb rb w w' := by
  obtain ⟨A, c, hv, hc, hj⟩ := hf
  have h8 := hr.cell (i := 8) (by decide)
  rw [hv] at h8
  cases fs with
  | nil =>
    have HR := Lib.hid hr
    have HV := Lib.hid hv
    clear hr hv hj hc
    simp only [List.length_nil] at h8
    go_enter Tryz.func138, Tryz.ntmps138
    go_wp2
    go_ret
    exact ⟨rfl, g 8, by rw [upd_self]; exact HR.out, ⟨A, c, HV.out, Nat.zero_le _, fun h => absurd h (by decide)⟩, Ch.refl _ _ _⟩
  | cons x fs =>
    obtain ⟨fb, off, C, fr, rfl, hh, hcs⟩ := hj (by simp)
    have m0 := hcs 0 (by simp)
    rw [Nat.add_zero] at m0
    have m1 : w.cell? ⟨fb, off, none⟩ = some (.string x) := by simp [World.cell?, hh, m0]
    have hf8 := hr.frozen 8
    have hl1 : fs.length + 1 ≤ 1000001 := by simp at hl; omega
    simp only [List.length_cons] at h8 hc
    have HR := Lib.hid hr
    have HV := Lib.hid hv
    have HH := Lib.hid hh
    have HCS := Lib.hid hcs
    clear hr hv hcs hh m0 hl
    go_enter Tryz.func138, Tryz.ntmps138
    go_wp2
    · skip
      have hc1 : fs.length + 1 ≤ 1 := by omega
      go_ret
      exact ⟨rfl, _, HR.out.set 8 _, ⟨_, 0, rfl, by omega, fun h => absurd h (by omega)⟩, Ch.set1 _ _ _ _ _⟩
    · go_ret
      refine ⟨rfl, _, HR.out.set 8 _, ⟨_, c - 1, rfl, by omega, fun h => ⟨fb, off + 1, C, fr, rfl, ?_, fun j hj2 => ?_⟩⟩, Ch.set1 _ _ _ _ _⟩
      · exact (Below.heap_setCell w ⟨rb, 8, none⟩ _ fb (row_ne HR.out HH.out (by decide))).trans HH.out
      · have := HCS.out (j + 1) (by simpa using hj2)
        rw [show off + 1 + j = off + (j + 1) from by omega]
        simpa using this
end Go.Proofs.YtkncilgmlkeifaaGreatDoor
