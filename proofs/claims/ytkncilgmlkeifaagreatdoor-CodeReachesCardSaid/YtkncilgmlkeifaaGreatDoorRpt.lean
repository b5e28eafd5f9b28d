import Derived.Test.YtkncilgmlkeifaaGreatDoorRdr
import Derived.Test.YtkncilgmlkeifaaGreatDoorTxt
import Derived.Test.YtkncilgmlkeifaaGreatDoorOth
/-
  Package code: the reader: contracts of numbers (targets in the reader itself, or in another block), of operand.
-/
set_option linter.unusedVariables false
set_option linter.unusedSimpArgs false
namespace Go.Proofs.YtkncilgmlkeifaaGreatDoor
open Go.ChangeShapes Go.WideShapes Go.ChangeAt Go.RowKit Go.Shelf

theorem upd_upd (g : Nat → Value) (i : Nat) (v u : Value) : upd (upd g i v) i u = upd g i u := by
  funext j
  unfold upd
  split <;> rfl
theorem upd_comm (g : Nat → Value) (i j : Nat) (v u : Value) (h : i ≠ j) : upd (upd g i v) j u = upd (upd g j u) i v := by
  funext k
  unfold upd
  by_cases h1 : k = j
  · subst h1
    rw [if_pos rfl, if_neg (fun e => h e.symm), if_pos rfl]
  · rw [if_neg h1, if_neg h1]
/-- The row behind k numbers. -/
def updN (h : Nat → Value) (o : Nat → Nat) (fs : List ByteArray) : Nat → Nat → Value
  | 0 => h
  | k + 1 => upd (updN h o fs k) (o k) (.int .i64 (atoiV (fs.getD k ⟨#[]⟩).data.toList))
/-- A slice of pointers into block tb, lying in a block of its own. -/
def RPt (w : World) (rb tb : Nat) (A : Option Addr) (n : Nat) (o : Nat → Nat) : Prop :=
  0 < n → ∃ pb off C T fr, A = some ⟨pb, off, none⟩ ∧ pb ≠ rb ∧ pb ≠ tb ∧ w.heap[pb]? = some (.cells C T fr) ∧ ∀ j, j < n → C[off + j]? = some (.pointer (some ⟨tb, o j, none⟩))
theorem RPt.ch {w w' : World} {rb tb : Nat} {A : Option Addr} {n : Nat} {o : Nat → Nat} (h : RPt w rb tb A n o) (hc : Ch rb tb w w') : RPt w' rb tb A n o := fun hn => by
  obtain ⟨pb, off, C, T, fr, e, h1, h2, hh, hj⟩ := h hn
  exact ⟨pb, off, C, T, fr, e, h1, h2, (hc.block pb (Array.getElem?_eq_some_iff.1 hh).1 h1 h2).trans hh, hj⟩
theorem drop_fld (fs : List ByteArray) (k : Nat) : fldV (fs.drop k) = fs.getD k ⟨#[]⟩ := by
  unfold fldV
  simp [List.getD_eq_getElem?_getD]
theorem drop_tail (fs : List ByteArray) (k : Nat) : (fs.drop k).tail = fs.drop (k + 1) := by simp
theorem getD_size {fs : List ByteArray} {M : Nat} (h : ∀ s, s ∈ fs → s.size ≤ M) (k : Nat) : (fs.getD k ⟨#[]⟩).size ≤ M := by
  rw [List.getD_eq_getElem?_getD]
  by_cases hk : k < fs.length
  · rw [List.getElem?_eq_getElem hk]
    exact h _ (List.getElem_mem hk)
  · rw [List.getElem?_eq_none (by omega)]
    exact Nat.zero_le _
theorem cell_blkN {w : World} {b i : Nat} {C : Array Value} {T : TypeId} {fr : Nat × Nat} {v : Value} (h : w.heap[b]? = some (.cells C T fr)) (hv : C[i]? = some v) : w.cell? ⟨b, i, none⟩ = some v := by simp [World.cell?, h, hv]
def NumS (rb : Nat) (g : Nat → Value) (o : Nat → Nat) (fs : List ByteArray) (w : World) (k : Nat) (wr : World) : Prop := ∃ v', wr.rowIs rb 166 9 (upd (updN g o fs k) 8 v') ∧ FSl wr v' (fs.drop k) ∧ Ch rb rb w wr
set_option maxRecDepth 100000 in
set_option maxHeartbeats 4000000 in
theorem numbers_self (rb : Nat) (g : Nat → Value) (o : Nat → Nat) (fs : List ByteArray) (w : World) (A : Option Addr) (n c : Nat) (w0 : World) (hn : n ≤ 100) (hr : w.rowIs rb 166 9 g) (hf : FSl w (g 8) fs) (hl : fs.length ≤ 1000000) (hsz : ∀ s, s ∈ fs → s.size ≤ 281474976710656) (ho : ∀ j, j < n → o j < 9 ∧ o j ≠ 8) (hp : RPt w rb rb A n o)
    (hE : EnvP w0) (hW : Below w0.heap.size w0 w) (hb : w0.heap.size ≤ rb) :
    Calls Tryz.prog 139 #[.pointer (some ⟨rb, 0, none⟩), .slice A n c] w fun e w' => (∃ v, e = .returned v) ∧ NumS rb g o fs w n w' := by
  have H0 := Lib.hid (show NumS rb g o fs w 0 w from ⟨g 8, by rw [updN, upd_self]; exact hr, by rw [List.drop_zero]; exact hf, Ch.refl _ _ _⟩)
  have HSTEP := Lib.hid (fun (k : Nat) (wr : World) (hk : k < n) (h1 : NumS rb g o fs w k wr) => (show Calls Tryz.prog 138 #[.pointer (some ⟨rb, 0, none⟩)] wr fun e w1 => e = .returned (.string (fs.getD k ⟨#[]⟩)) ∧ ∃ v', w1.rowIs rb 166 9 (upd (updN g o fs k) 8 v') ∧ FSl w1 v' (fs.drop (k + 1)) ∧ Ch rb rb w w1 from by
    obtain ⟨v, h2, h3, h4⟩ := h1
    refine (field_any rb _ (fs.drop k) wr h2 (by simpa [upd] using h3) (by simp; omega)).mono ?_
    rintro e w1 ⟨rfl, v', h5, h6, h7⟩
    rw [upd_upd] at h5
    rw [drop_tail] at h6
    exact ⟨by rw [drop_fld], v', h5, h6, h4.trans h7⟩))
  have HA := Lib.hid (fun (k : Nat) (w1 : World) (hw : Ch rb rb w w1) => atoi_any (fs.getD k ⟨#[]⟩) w1 (getD_size hsz k) (hE.on (hW.trans (hw.below hb hb hW.size))))
  have HFIN := Lib.hid (fun (k : Nat) (w1 w2 : World) (hk : k < n) (v' : Value) (h1 : w1.rowIs rb 166 9 (upd (updN g o fs k) 8 v')) (h2 : FSl w1 v' (fs.drop (k + 1))) (h3 : Ch rb rb w w1) (h4 : Below w1.heap.size w1 w2) => (show (w2.cell? ⟨rb, o k, none⟩ = some (upd (updN g o fs k) 8 v' (o k))) ∧ w2.frozen? ⟨rb, o k, none⟩ = false ∧ NumS rb g o fs w (k + 1) (w2.setCell ⟨rb, o k, none⟩ (.int .i64 (atoiV (fs.getD k ⟨#[]⟩).data.toList))) from by
    have h5 : w2.rowIs rb 166 9 (upd (updN g o fs k) 8 v') := h1.of_block (h4.block rb h1.lt)
    refine ⟨h5.cell (ho k hk).1, h5.frozen _, v', ?_, ?_, ?_⟩
    · have := h5.set (o k) (.int .i64 (atoiV (fs.getD k ⟨#[]⟩).data.toList))
      rw [updN, upd_comm _ _ _ _ _ (ho k hk).2]
      exact this
    · exact h2.ch (a := rb) (b := rb) ((Ch.of_below h4).trans (Ch.set1 _ _ _ _ _)) h1 h1 (by decide) (by decide)
    · exact (h3.trans (Ch.of_below h4)).trans (Ch.set1 _ _ _ _ _)))
  have HP := Lib.hid (fun (k : Nat) (wr : World) (h : NumS rb g o fs w k wr) => (show RPt wr rb rb A n o from by
    obtain ⟨_, _, _, h4⟩ := h
    exact hp.ch h4))
  clear hr hf hl hsz ho hp hE hW hb
  go_enter Tryz.func139, Tryz.ntmps139
  go_wp2
  go_loopw [5, 8] (fun x i wr => ∃ k : Nat, k ≤ n ∧ i = .int .i64 k ∧ Hid (NumS rb g o fs w k wr)) (fun _ i _ => n - (intOf i).toNat)
  case atStart => exact ⟨0, Nat.zero_le _, rfl, H0⟩
  case round =>
    obtain ⟨k, hk, rfl, HK⟩ := hrel
    by_cases hlt : k < n
    · obtain ⟨pb, off, C, U, fr, rfl, hp1, hp2, hh, hj⟩ := (HP.out k wr HK.out) (by omega)
      have m0 := cell_blkN hh (hj k hlt)
      clear hh hj hp1 hp2
      have HX0 := HSTEP.out k wr hlt HK.out
      have HA0 := HA.out k
      have HF0 := HFIN.out k
      obtain ⟨fk, hfk⟩ : ∃ fk, fs.getD k ⟨#[]⟩ = fk := ⟨_, rfl⟩
      rw [hfk] at HX0 HA0 HF0
      have HX := Lib.hid HX0; have HAk := Lib.hid HA0; have HFk := Lib.hid HF0
      clear HX0 HA0 HF0 hfk
      go_wp2_with (first | (go_at_call 138; (with_reducible refine HX.out.mono ?_); rintro e w1 ⟨rfl, v3, h3, h4, h5⟩; have HY := Lib.hid (HAk.out w1 h5); have HZ := Lib.hid (fun w2 hb => HFk.out w1 w2 hlt v3 h3 h4 h5 hb); clear h3 h4 h5) | (go_at_call 161; (with_reducible refine HY.out.mono ?_); rintro e w2 ⟨⟨x2, rfl⟩, hb2⟩; obtain ⟨q1, q2, q3⟩ := HZ.out w2 hb2; have HQ := Lib.hid q3; clear q3 hb2))
      go_roundw
      case rel => exact ⟨k + 1, by omega, by go_num, HQ⟩
      case measure => simp [intOf]; omega
    · obtain rfl : n = k := by omega
      go_wp2
      go_end0
      exact ⟨⟨_, rfl⟩, HK.out⟩
def NumO (rb tb T m : Nat) (g h : Nat → Value) (o : Nat → Nat) (fs : List ByteArray) (w : World) (k : Nat) (wr : World) : Prop := ∃ v', wr.rowIs rb 166 9 (upd g 8 v') ∧ FSl wr v' (fs.drop k) ∧ wr.rowIs tb T m (updN h o fs k) ∧ Ch rb tb w wr
set_option maxRecDepth 100000 in
set_option maxHeartbeats 4000000 in
theorem numbers_other (rb tb T m : Nat) (g h : Nat → Value) (o : Nat → Nat) (fs : List ByteArray) (w : World) (A : Option Addr) (n c : Nat) (w0 : World) (hn : n ≤ 100) (hr : w.rowIs rb 166 9 g) (ht : w.rowIs tb T m h) (hne : tb ≠ rb) (hT : T ≠ 9) (hf : FSl w (g 8) fs) (hl : fs.length ≤ 1000000) (hsz : ∀ s, s ∈ fs → s.size ≤ 281474976710656) (ho : ∀ j, j < n → o j < m) (hp : RPt w rb tb A n o)
    (hE : EnvP w0) (hW : Below w0.heap.size w0 w) (hb : w0.heap.size ≤ rb) (htb : w0.heap.size ≤ tb) :
    Calls Tryz.prog 139 #[.pointer (some ⟨rb, 0, none⟩), .slice A n c] w fun e w' => (∃ v, e = .returned v) ∧ NumO rb tb T m g h o fs w n w' := by
  have H0 := Lib.hid (show NumO rb tb T m g h o fs w 0 w from ⟨g 8, by rw [upd_self]; exact hr, by rw [List.drop_zero]; exact hf, by rw [updN]; exact ht, Ch.refl _ _ _⟩)
  have HSTEP := Lib.hid (fun (k : Nat) (wr : World) (hk : k < n) (h1 : NumO rb tb T m g h o fs w k wr) => (show Calls Tryz.prog 138 #[.pointer (some ⟨rb, 0, none⟩)] wr fun e w1 => e = .returned (.string (fs.getD k ⟨#[]⟩)) ∧ ∃ v', w1.rowIs rb 166 9 (upd g 8 v') ∧ FSl w1 v' (fs.drop (k + 1)) ∧ w1.rowIs tb T m (updN h o fs k) ∧ Ch rb tb w w1 from by
    obtain ⟨v, h2, h3, h8, h4⟩ := h1
    refine (field_any rb _ (fs.drop k) wr h2 (by simpa [upd] using h3) (by simp; omega)).mono ?_
    rintro e w1 ⟨rfl, v', h5, h6, h7⟩
    rw [upd_upd] at h5
    rw [drop_tail] at h6
    exact ⟨by rw [drop_fld], v', h5, h6, h7.row h8 hne hne, h4.trans h7.wide⟩))
  have HA := Lib.hid (fun (k : Nat) (w1 : World) (hw : Ch rb tb w w1) => atoi_any (fs.getD k ⟨#[]⟩) w1 (getD_size hsz k) (hE.on (hW.trans (hw.below hb htb hW.size))))
  have HFIN := Lib.hid (fun (k : Nat) (w1 w2 : World) (hk : k < n) (v' : Value) (h1 : w1.rowIs rb 166 9 (upd g 8 v')) (h2 : FSl w1 v' (fs.drop (k + 1))) (h6 : w1.rowIs tb T m (updN h o fs k)) (h3 : Ch rb tb w w1) (h4 : Below w1.heap.size w1 w2) => (show (w2.cell? ⟨tb, o k, none⟩ = some (updN h o fs k (o k))) ∧ w2.frozen? ⟨tb, o k, none⟩ = false ∧ NumO rb tb T m g h o fs w (k + 1) (w2.setCell ⟨tb, o k, none⟩ (.int .i64 (atoiV (fs.getD k ⟨#[]⟩).data.toList))) from by
    have h5 : w2.rowIs rb 166 9 (upd g 8 v') := h1.of_block (h4.block rb h1.lt)
    have h7 : w2.rowIs tb T m (updN h o fs k) := h6.of_block (h4.block tb h6.lt)
    refine ⟨h7.cell (ho k hk), h7.frozen _, v', ?_, ?_, ?_, ?_⟩
    · exact h5.setOther (a := ⟨tb, o k, none⟩) (fun e => hne e.symm) _
    · exact h2.ch (a := rb) (b := tb) ((Ch.of_below h4).trans (Ch.set2 _ _ _ _ _)) h1 h6 (by decide) hT
    · exact h7.set (o k) _
    · exact (h3.trans (Ch.of_below h4)).trans (Ch.set2 _ _ _ _ _)))
  have HP := Lib.hid (fun (k : Nat) (wr : World) (h : NumO rb tb T m g h o fs w k wr) => (show RPt wr rb tb A n o from by
    obtain ⟨_, _, _, _, h4⟩ := h
    exact hp.ch h4))
  clear hr ht hf hl hsz ho hp hE hW hb htb hT
  go_enter Tryz.func139, Tryz.ntmps139
  go_wp2
  go_loopw [5, 8] (fun x i wr => ∃ k : Nat, k ≤ n ∧ i = .int .i64 k ∧ Hid (NumO rb tb T m g h o fs w k wr)) (fun _ i _ => n - (intOf i).toNat)
  case atStart => exact ⟨0, Nat.zero_le _, rfl, H0⟩
  case round =>
    obtain ⟨k, hk, rfl, HK⟩ := hrel
    by_cases hlt : k < n
    · obtain ⟨pb, off, C, U, fr, rfl, hp1, hp2, hh, hj⟩ := (HP.out k wr HK.out) (by omega)
      have m0 := cell_blkN hh (hj k hlt)
      clear hh hj hp1 hp2
      have HX0 := HSTEP.out k wr hlt HK.out
      have HA0 := HA.out k
      have HF0 := HFIN.out k
      obtain ⟨fk, hfk⟩ : ∃ fk, fs.getD k ⟨#[]⟩ = fk := ⟨_, rfl⟩
      rw [hfk] at HX0 HA0 HF0
      have HX := Lib.hid HX0; have HAk := Lib.hid HA0; have HFk := Lib.hid HF0
      clear HX0 HA0 HF0 hfk
      go_wp2_with (first | (go_at_call 138; (with_reducible refine HX.out.mono ?_); rintro e w1 ⟨rfl, v3, h3, h4, h6, h5⟩; have HY := Lib.hid (HAk.out w1 h5); have HZ := Lib.hid (fun w2 hb => HFk.out w1 w2 hlt v3 h3 h4 h6 h5 hb); clear h3 h4 h6 h5) | (go_at_call 161; (with_reducible refine HY.out.mono ?_); rintro e w2 ⟨⟨x2, rfl⟩, hb2⟩; obtain ⟨q1, q2, q3⟩ := HZ.out w2 hb2; have HQ := Lib.hid q3; clear q3 hb2))
      go_roundw
      case rel => exact ⟨k + 1, by omega, by go_num, HQ⟩
      case measure => simp [intOf]; omega
    · obtain rfl : n = k := by omega
      go_wp2
      go_end0
      exact ⟨⟨_, rfl⟩, HK.out⟩
end Go.Proofs.YtkncilgmlkeifaaGreatDoor
/-
  Package code: the reader: the contracts of operand, and of the closures in parts.
-/
set_option linter.unusedVariables false
set_option linter.unusedSimpArgs false
namespace Go.Proofs.YtkncilgmlkeifaaGreatDoor
open Go.ChangeShapes Go.WideShapes Go.ChangeAt Go.RowKit Go.Shelf

theorem pintV_rng (l : List UInt8) : -2147483648 ≤ pintV l ∧ pintV l ≤ 2147483647 := by
  unfold pintV
  split
  · rename_i v h
    unfold Lib.parseIntB at h
    split at h
    · cases h
    · simp only at h
      split at h
      · cases h
      · cases h
      · rename_i u hu
        split at h
        · cases h
        · rename_i h1
          split at h
          · cases h
          · rename_i h2
            injection h with h
            subst h
            simp only [Nat.reduceSub, Nat.reducePow] at h1 h2
            split
            · rename_i hn
              have : ¬ 2147483648 < u := fun e => h2 ⟨hn, e⟩
              omega
            · rename_i hn
              have : ¬ 2147483648 ≤ u := fun e => h1 ⟨hn, e⟩
              omega
  · unfold Lib.intSat
    split <;> simp
  · omega
/-- The operand that a field is read as. -/
def opdR (s : ByteArray) : OpdV := if Lib.hasPrefix s.data.toList [114] = true then ⟨2, atoiV (Lib.trimPrefix s.data.toList [114]), 0⟩ else ⟨1, 0, pintV s.data.toList⟩
theorem Ch.setNew {a b : Nat} {w w1 : World} (h : Ch a b w w1) {p : Addr} (hp : w.heap.size ≤ p.block) (v : Value) : Ch a b w (w1.setCell p v) :=
  ⟨h.os, h.tape, h.output, by simpa [World.setCell] using h.size, fun i hi ha hb => (Below.heap_setCell w1 p v i (by omega)).trans (h.block i hi ha hb)⟩
theorem FSl.setR {w : World} {v : Value} {fs : List ByteArray} {a T n : Nat} {g : Nat → Value} (h : FSl w v fs) (hr : w.rowIs a T n g) (hT : T ≠ 9) (o : Nat) (u : Value) : FSl (w.setCell ⟨a, o, none⟩ u) v fs :=
  h.of_blocks (fun k C fr hk => (Below.heap_setCell w ⟨a, o, none⟩ u k (row_ne hr hk hT)).trans hk)
theorem frozen_blk {w : World} {b : Nat} {C : Array Value} {T : TypeId} (h : w.heap[b]? = some (.cells C T (0, 0))) (o : Nat) : w.frozen? ⟨b, o, none⟩ = false := by simp [World.frozen?, h]
theorem row_of_blk {w : World} {b : Nat} {C : Array Value} {T : TypeId} (h : w.heap[b]? = some (.cells C T (0, 0))) : w.rowIs b T C.size (fun i => C.getD i undef) := by
  refine ⟨C, h, rfl, fun i hi => ?_⟩
  simp [Array.getD_eq_getD_getElem?, hi]
/-- Three stores into a new box keep the reader. -/
theorem rop_fin {rb : Nat} {G : Nat → Value} {fs : List ByteArray} {w w2 w3 : World} {v' : Value} {C : Array Value} (H1 : w2.rowIs rb 166 9 G) (H2 : FSl w2 v' fs) (HC : Ch rb rb w w2) (HK : w2.heap[w.heap.size]? = some (.cells C 27 (0, 0))) (HB : Below w2.heap.size w2 w3) (hne : rb ≠ w.heap.size) (x y z : Value) :
    (((w3.setCell ⟨w.heap.size, 0, none⟩ x).setCell ⟨w.heap.size, 1, none⟩ y).setCell ⟨w.heap.size, 2, none⟩ z).rowIs rb 166 9 G ∧ FSl (((w3.setCell ⟨w.heap.size, 0, none⟩ x).setCell ⟨w.heap.size, 1, none⟩ y).setCell ⟨w.heap.size, 2, none⟩ z) v' fs ∧ Ch rb rb w (((w3.setCell ⟨w.heap.size, 0, none⟩ x).setCell ⟨w.heap.size, 1, none⟩ y).setCell ⟨w.heap.size, 2, none⟩ z) := by
  have hk3 := row_of_blk ((HB.block _ (Array.getElem?_eq_some_iff.1 HK).1).trans HK)
  have h3 : w3.rowIs rb 166 9 G := H1.of_block (HB.block rb H1.lt)
  have f3 : FSl w3 v' fs := H2.of_blocks (fun k C fr hk => (HB.block k (Array.getElem?_eq_some_iff.1 hk).1).trans hk)
  have c3 : Ch rb rb w w3 := HC.trans (Ch.of_below HB)
  exact ⟨((h3.setOther (a := ⟨w.heap.size, 0, none⟩) hne x).setOther (a := ⟨w.heap.size, 1, none⟩) hne y).setOther (a := ⟨w.heap.size, 2, none⟩) hne z,
    ((f3.setR hk3 (by decide) 0 x).setR (hk3.set 0 x) (by decide) 1 y).setR ((hk3.set 0 x).set 1 y) (by decide) 2 z,
    ((c3.setNew (Nat.le_refl _) x).setNew (Nat.le_refl _) y).setNew (Nat.le_refl _) z⟩
theorem trimPrefix_size (l p : List UInt8) : (Lib.trimPrefix l p).length ≤ l.length := by
  unfold Lib.trimPrefix
  split <;> simp
set_option maxRecDepth 100000 in
set_option maxHeartbeats 4000000 in
theorem roperand_any (rb : Nat) (g : Nat → Value) (fs : List ByteArray) (w w0 : World) (hr : w.rowIs rb 166 9 g) (hf : FSl w (g 8) fs) (hl : fs.length ≤ 1000000) (hsz : ∀ s, s ∈ fs → s.size ≤ 281474976710656) (hE : EnvP w0) (hW : Below w0.heap.size w0 w) (hb : w0.heap.size ≤ rb) :
    Calls Tryz.prog 183 #[.pointer (some ⟨rb, 0, none⟩)] w fun e w' => e = .returned (.agg #[.int .i64 (opdR (fldV fs)).k, .int .i64 (opdR (fldV fs)).n, .int .i32 (opdR (fldV fs)).v]) ∧ ∃ v', w'.rowIs rb 166 9 (upd g 8 v') ∧ FSl w' v' fs.tail ∧ Ch rb rb w w' := by
  have hfs : (fldV fs).size ≤ 281474976710656 := getD_size hsz 0
  have hal := fun o => show Below w.heap.size w (w.alloc o) from (Below.refl _ _).alloc (Nat.le_refl _) o
  have HF := Lib.hid (fun (o : Obj) => field_any rb g fs (w.alloc o) (hr.alloc o) (hf.of_blocks (fun k C fr hk => ((hal o).block k (Array.getElem?_eq_some_iff.1 hk).1).trans hk)) hl)
  have HEV := Lib.hid (fun (W : World) (h : Ch rb rb w W) => hE.on (hW.trans (h.below hb hb hW.size)))
  have HCH := Lib.hid (fun (o : Obj) (W : World) (h : Ch rb rb (w.alloc o) W) => (Ch.of_below (a := rb) (b := rb) (hal o)).trans h)
  have HRB := Lib.hid (show rb ≠ w.heap.size from fun e => by have := hr.lt; omega)
  have HKEEP := Lib.hid (fun (o : Obj) (W : World) (h : Ch rb rb (w.alloc o) W) (hne : rb ≠ w.heap.size) => show W.heap[w.heap.size]? = some o from (h.block w.heap.size (by simp) (fun e => hne e.symm) (fun e => hne e.symm)).trans (heap_alloc_new _ _))
  obtain ⟨s, hs⟩ : ∃ s, fldV fs = s := ⟨_, rfl⟩
  rw [hs] at HF hfs ⊢
  clear hs hr hf hsz hE hW hl hal hb
  unfold opdR
  cases hp : Lib.hasPrefix s.data.toList [114]
  · rw [if_neg (by decide)]
    obtain ⟨z, hz⟩ : ∃ z, pintV s.data.toList = z := ⟨_, rfl⟩
    have hrng := pintV_rng s.data.toList
    have HPI := Lib.hid (fun (W : World) (h : EnvP W) => pint_any s W hfs h)
    rw [hz] at HPI hrng ⊢
    have HCP := Lib.hid (fun W => Tryz.strings_CutPrefix s ⟨#[114]⟩ W)
    rw [show (⟨#[114]⟩ : ByteArray).data.toList = [114] from rfl, hp] at HCP
    obtain ⟨hr1, hr2⟩ := hrng
    clear hz hp
    go_enter Tryz.func183, Tryz.ntmps183
    go_wp2_with (first | (go_at_call 138; (with_reducible refine (HF.out _).mono ?_); rintro e w1 ⟨rfl, v', h1, h2, h3⟩; have HC1 := Lib.hid (HCH.out _ _ h3); have HK1 := Lib.hid (HKEEP.out _ _ h3 HRB.out); have H1 := Lib.hid h1; have H2 := Lib.hid h2; clear h1 h2 h3) | (go_at_call 196; (with_reducible refine (HCP.out _).mono ?_); rintro e w2 ⟨rfl, rfl⟩) | (go_at_call 197; (with_reducible refine (HPI.out _ (HEV.out _ HC1.out)).mono ?_); rintro e w3 ⟨⟨x, rfl⟩, hb3⟩; have hbk := (hb3.block _ (Array.getElem?_eq_some_iff.1 HK1.out).1).trans HK1.out; have c3 := cells_blk hbk; have f3 := frozen_blk hbk; have HR3 := Lib.hid (rop_fin H1.out H2.out HC1.out HK1.out hb3 HRB.out); clear hb3 hbk))
    obtain ⟨r1, r2, r3⟩ := HR3.out (.int .i64 1) (.int .i64 0) (.int .i32 z)
    exact bodyPost_ret (v := .agg #[.int .i64 1, .int .i64 0, .int .i32 z]) (by simp [results, Tryz.results183, go_sem, c3]) rfl ⟨rfl, v', r1, r2, r3⟩
  · rw [if_pos rfl]
    obtain ⟨z, hz⟩ : ∃ z, atoiV (Lib.trimPrefix s.data.toList [114]) = z := ⟨_, rfl⟩
    have HPI := Lib.hid (fun (W : World) (h : EnvP W) => atoi_any ⟨(Lib.trimPrefix s.data.toList [114]).toArray⟩ W (by
      have h1 := trimPrefix_size s.data.toList [114]
      have h2 : s.data.toList.length = s.size := Array.length_toList
      show (Lib.trimPrefix s.data.toList [114]).toArray.size ≤ _
      rw [List.size_toArray]
      omega) h)
    rw [hz] at HPI ⊢
    have HCP := Lib.hid (fun W => Tryz.strings_CutPrefix s ⟨#[114]⟩ W)
    rw [show (⟨#[114]⟩ : ByteArray).data.toList = [114] from rfl, hp] at HCP
    clear hz hp
    go_enter Tryz.func183, Tryz.ntmps183
    go_wp2_with (first | (go_at_call 138; (with_reducible refine (HF.out _).mono ?_); rintro e w1 ⟨rfl, v', h1, h2, h3⟩; have HC1 := Lib.hid (HCH.out _ _ h3); have HK1 := Lib.hid (HKEEP.out _ _ h3 HRB.out); have H1 := Lib.hid h1; have H2 := Lib.hid h2; clear h1 h2 h3) | (go_at_call 196; (with_reducible refine (HCP.out _).mono ?_); rintro e w2 ⟨rfl, rfl⟩) | (go_at_call 161; (with_reducible refine (HPI.out _ (HEV.out _ HC1.out)).mono ?_); rintro e w3 ⟨⟨x, rfl⟩, hb3⟩; have hbk := (hb3.block _ (Array.getElem?_eq_some_iff.1 HK1.out).1).trans HK1.out; have c3 := cells_blk hbk; have f3 := frozen_blk hbk; have HR3 := Lib.hid (rop_fin H1.out H2.out HC1.out HK1.out hb3 HRB.out); clear hb3 hbk))
    obtain ⟨r1, r2, r3⟩ := HR3.out (.int .i64 2) (.int .i64 z) (.int .i32 0)
    exact bodyPost_ret (v := .agg #[.int .i64 2, .int .i64 z, .int .i32 0]) (by simp [results, Tryz.results183, go_sem, c3]) rfl ⟨rfl, v', r1, r2, r3⟩
end Go.Proofs.YtkncilgmlkeifaaGreatDoor
/-
  Package code: the reader: the contracts of the closures in parts, of parts, inst and end.
-/
set_option linter.unusedVariables false
set_option linter.unusedSimpArgs false
namespace Go.Proofs.YtkncilgmlkeifaaGreatDoor
open Go.ChangeShapes Go.WideShapes Go.ChangeAt Go.RowKit Go.Shelf

/-- How many fields the steps below s have. -/
def cnt (f : FormV) : Nat → Nat
  | 0 => 0
  | s + 1 => cnt f s + if f.want s = true then 1 else 0
/-- The field of step s. -/
def fldS (f : FormV) (fs : List ByteArray) (s : Nat) : ByteArray := fs.getD (cnt f s) ⟨#[]⟩
/-- The cell j of the parts that are read. -/
def valO (f : FormV) (fs : List ByteArray) (j : Nat) : Value :=
  if numS (stepO j) = true then .int .i64 (atoiV (fldS f fs (stepO j)).data.toList)
  else if j = offS (stepO j) then .int .i64 (opdR (fldS f fs (stepO j))).k else if j = offS (stepO j) + 1 then .int .i64 (opdR (fldS f fs (stepO j))).n else .int .i32 (opdR (fldS f fs (stepO j))).v
def rdC (f : FormV) (fs : List ByteArray) (s : Nat) : Nat → Value := fun j => if (f.want (stepO j) && decide (stepO j < s)) = true then valO f fs j else zeroO j
def rdV (f : FormV) (fs : List ByteArray) : PartV :=
  ⟨if f.want 0 then atoiV (fldS f fs 0).data.toList else 0, if f.want 1 then atoiV (fldS f fs 1).data.toList else 0, if f.want 2 then opdR (fldS f fs 2) else noOpd, if f.want 3 then opdR (fldS f fs 3) else noOpd, if f.want 4 then opdR (fldS f fs 4) else noOpd, if f.want 5 then opdR (fldS f fs 5) else noOpd, if f.want 6 then atoiV (fldS f fs 6).data.toList else 0, if f.want 7 then atoiV (fldS f fs 7).data.toList else 0⟩
theorem rdC_zero (f : FormV) (fs : List ByteArray) (j : Nat) : rdC f fs 0 j = zeroO j := by simp [rdC]
theorem rdC_skip {f : FormV} {fs : List ByteArray} {s : Nat} (h : f.want s = false) : rdC f fs s = rdC f fs (s + 1) := by
  funext j
  unfold rdC
  by_cases e : stepO j = s
  · rw [e, h]; simp
  · have : decide (stepO j < s + 1) = decide (stepO j < s) := by simp; omega
    rw [this]
theorem rdC_num {f : FormV} {fs : List ByteArray} {s : Nat} (hs : s < 8) (hn : numS s = true) (h : f.want s = true) (j : Nat) (hj : j < 16) : upd (rdC f fs s) (offS s) (.int .i64 (atoiV (fldS f fs s).data.toList)) j = rdC f fs (s + 1) j := by
  rcases lt8 hs with rfl | rfl | rfl | rfl | rfl | rfl | rfl | rfl
  all_goals first | (exfalso; revert hn; decide) | skip
  all_goals
    rcases lt16 hj with rfl | rfl | rfl | rfl | rfl | rfl | rfl | rfl | rfl | rfl | rfl | rfl | rfl | rfl | rfl | rfl <;> simp [upd, rdC, offS, stepO, zeroO, valO, numS, h]
theorem rdC_opd {f : FormV} {fs : List ByteArray} {s : Nat} (hs : s < 8) (hn : numS s = false) (h : f.want s = true) (j : Nat) (hj : j < 16) :
    (if j = offS s + 2 then .int .i32 (opdR (fldS f fs s)).v else if j = offS s + 1 then .int .i64 (opdR (fldS f fs s)).n else if j = offS s then .int .i64 (opdR (fldS f fs s)).k else rdC f fs s j) = rdC f fs (s + 1) j := by
  rcases lt8 hs with rfl | rfl | rfl | rfl | rfl | rfl | rfl | rfl
  all_goals first | (exfalso; revert hn; decide) | skip
  all_goals
    rcases lt16 hj with rfl | rfl | rfl | rfl | rfl | rfl | rfl | rfl | rfl | rfl | rfl | rfl | rfl | rfl | rfl | rfl <;> simp [rdC, offS, stepO, zeroO, valO, numS, h]
theorem rdC_end (f : FormV) (fs : List ByteArray) (j : Nat) (hj : j < 16) : rdC f fs 8 j = (rdV f fs).cell j := by
  have h8 : decide (stepO j < 8) = true := by rcases lt16 hj with rfl | rfl | rfl | rfl | rfl | rfl | rfl | rfl | rfl | rfl | rfl | rfl | rfl | rfl | rfl | rfl <;> decide
  unfold rdC rdV
  rw [h8, Bool.and_true]
  rcases lt16 hj with rfl | rfl | rfl | rfl | rfl | rfl | rfl | rfl | rfl | rfl | rfl | rfl | rfl | rfl | rfl | rfl <;> simp only [stepO, zeroO, valO, numS, offS, PartV.cell, PartV.cells] <;> simp <;> split <;> simp_all [noOpd]
/-- While parts reads: the reader, what is left of its fields, the parts read so far. -/
def RJ (rb tb : Nat) (g : Nat → Value) (f : FormV) (fs : List ByteArray) (W1 : World) (s : Nat) (W : World) : Prop :=
  ∃ v', W.rowIs rb 166 9 (upd g 8 v') ∧ FSl W v' (fs.drop (cnt f s)) ∧ W.rowIs tb 147 16 (rdC f fs s) ∧ Ch rb tb W1 W
theorem mem_drop_of {α : Type} {l : List α} {k : Nat} {x : α} (h : x ∈ l.drop k) : x ∈ l := List.mem_of_mem_drop h
theorem drop_getD0 (fs : List ByteArray) (k : Nat) : (fs.drop k).getD 0 ⟨#[]⟩ = fs.getD k ⟨#[]⟩ := by simp [List.getD_eq_getElem?_getD]
section
set_option maxRecDepth 100000 in
set_option maxHeartbeats 4000000 in
theorem r181_any (rb tb cb : Nat) (g : Nat → Value) (f : FormV) (fs : List ByteArray) (w0 W1 : World) (hne : tb ≠ rb) (hl : fs.length ≤ 1000000) (hsz : ∀ s, s ∈ fs → s.size ≤ 281474976710656) (hE : EnvP w0) (hW1 : Below w0.heap.size w0 W1) (hb : w0.heap.size ≤ rb) (htb : w0.heap.size ≤ tb) (s : Nat) (W : World) (hs : s < 8) (hn : numS s = true) (hw : f.want s = true) (hc : W.cell? ⟨cb, 0, none⟩ = some (.pointer (some ⟨rb, 0, none⟩))) (h : RJ rb tb g f fs W1 s W) :
    Calls Tryz.prog 181 #[.pointer (some ⟨tb, offS s, none⟩), .pointer (some ⟨cb, 0, none⟩)] W fun e w' => (∃ v, e = .returned v) ∧ RJ rb tb g f fs W1 (s + 1) w' := by
  obtain ⟨v, h1, h2, h3, h4⟩ := h
  have ho : offS s < 16 := by rcases lt8 hs with rfl | rfl | rfl | rfl | rfl | rfl | rfl | rfl <;> decide
  have hWW : Below w0.heap.size w0 W := hW1.trans (h4.below hb htb hW1.size)
  have hal : Below W.heap.size W (W.alloc (.cells #[.pointer (some ⟨tb, offS s, none⟩)] 186)) := (Below.refl _ _).alloc (Nat.le_refl _) _
  have HN := Lib.hid (numbers_other rb tb 147 16 (upd g 8 v) (rdC f fs s) (fun _ => offS s) (fs.drop (cnt f s)) (W.alloc (.cells #[.pointer (some ⟨tb, offS s, none⟩)] 186)) (some ⟨W.heap.size, 0, none⟩) 1 1 w0 (by omega) (h1.alloc _) (h3.alloc _) hne (by decide)
    (by
      have : upd g 8 v 8 = v := by simp [upd]
      rw [this]
      exact h2.of_blocks (fun k C fr hk => (hal.block k (Array.getElem?_eq_some_iff.1 hk).1).trans hk))
    (by simp; omega) (fun s hs => hsz s (List.mem_of_mem_drop hs)) (fun _ _ => ho)
    (fun _ => ⟨W.heap.size, 0, _, 186, (0, 0), rfl, fun e => by have := h1.lt; omega, fun e => by have := h3.lt; omega, heap_alloc_new _ _, fun j hj => by
      have : j = 0 := by omega
      subst this
      rfl⟩) hE (hWW.trans (hal.mono hWW.size)) hb htb)
  have HFIN := Lib.hid (fun (w' : World) (hq : NumO rb tb 147 16 (upd g 8 v) (rdC f fs s) (fun _ => offS s) (fs.drop (cnt f s)) (W.alloc (.cells #[.pointer (some ⟨tb, offS s, none⟩)] 186)) 1 w') => (show RJ rb tb g f fs W1 (s + 1) w' from by
    obtain ⟨v2, k1, k2, k3, k4⟩ := hq
    rw [upd_upd] at k1
    rw [List.drop_drop] at k2
    refine ⟨v2, k1, by rw [cnt, if_pos hw]; exact k2, k3.congr (fun j hj => ?_), h4.trans ((Ch.of_below hal).trans k4)⟩
    rw [updN, updN, drop_getD0]
    exact rdC_num hs hn hw j hj))
  clear hWW hal h1 h2 h3 h4 hne hl hsz hE hW1 hb htb
  go_enter Tryz.func181, Tryz.ntmps181
  go_wp2_with (first | (go_at_call 139; (with_reducible refine HN.out.mono ?_); rintro e w1 ⟨⟨v3, rfl⟩, hq⟩; have HQ := Lib.hid (HFIN.out w1 hq); clear hq))
  go_end0
  exact ⟨⟨_, rfl⟩, HQ.out⟩
set_option maxRecDepth 100000 in
set_option maxHeartbeats 4000000 in
theorem r182_any (rb tb cb : Nat) (g : Nat → Value) (f : FormV) (fs : List ByteArray) (w0 W1 : World) (hne : tb ≠ rb) (hl : fs.length ≤ 1000000) (hsz : ∀ s, s ∈ fs → s.size ≤ 281474976710656) (hE : EnvP w0) (hW1 : Below w0.heap.size w0 W1) (hb : w0.heap.size ≤ rb) (htb : w0.heap.size ≤ tb) (s : Nat) (W : World) (hs : s < 8) (hn : numS s = false) (hw : f.want s = true) (hc : W.cell? ⟨cb, 0, none⟩ = some (.pointer (some ⟨rb, 0, none⟩))) (h : RJ rb tb g f fs W1 s W) :
    Calls Tryz.prog 182 #[.pointer (some ⟨tb, offS s, none⟩), .pointer (some ⟨cb, 0, none⟩)] W fun e w' => (∃ v, e = .returned v) ∧ RJ rb tb g f fs W1 (s + 1) w' := by
  obtain ⟨v, h1, h2, h3, h4⟩ := h
  have ho : offS s + 2 < 16 := by
    rcases lt8 hs with rfl | rfl | rfl | rfl | rfl | rfl | rfl | rfl
    all_goals first | (exfalso; revert hn; decide) | decide
  have hWW : Below w0.heap.size w0 W := hW1.trans (h4.below hb htb hW1.size)
  have HN := Lib.hid (roperand_any rb (upd g 8 v) (fs.drop (cnt f s)) W w0 h1 (by
      have : upd g 8 v 8 = v := by simp [upd]
      rw [this]
      exact h2) (by simp; omega) (fun s hs => hsz s (List.mem_of_mem_drop hs)) hE hWW hb)
  have HFIN := Lib.hid (fun (w1 : World) (v' : Value) (k1 : w1.rowIs rb 166 9 (upd (upd g 8 v) 8 v')) (k2 : FSl w1 v' (fs.drop (cnt f s)).tail) (k3 : Ch rb rb W w1) => (show (∀ i, i < 3 → w1.cell? ⟨tb, offS s + i, none⟩ = some (rdC f fs s (offS s + i))) ∧ (∀ o, w1.frozen? ⟨tb, o, none⟩ = false) ∧ RJ rb tb g f fs W1 (s + 1) (((w1.setCell ⟨tb, offS s, none⟩ (.int .i64 (opdR (fldS f fs s)).k)).setCell ⟨tb, offS s + 1, none⟩ (.int .i64 (opdR (fldS f fs s)).n)).setCell ⟨tb, offS s + 2, none⟩ (.int .i32 (opdR (fldS f fs s)).v)) from by
    have k4 : w1.rowIs tb 147 16 (rdC f fs s) := k3.row h3 hne hne
    rw [upd_upd] at k1
    rw [drop_tail] at k2
    refine ⟨fun i hi => k4.cell (by omega), fun o => k4.frozen o, v', ?_, ?_, ?_, ?_⟩
    · exact ((k1.setOther (a := ⟨tb, offS s, none⟩) (fun e => hne e.symm) _).setOther (a := ⟨tb, offS s + 1, none⟩) (fun e => hne e.symm) _).setOther (a := ⟨tb, offS s + 2, none⟩) (fun e => hne e.symm) _
    · rw [cnt, if_pos hw]
      exact ((k2.setR k4 (by decide) _ _).setR (k4.set _ _) (by decide) _ _).setR ((k4.set _ _).set _ _) (by decide) _ _
    · exact (((k4.set (offS s) _).set (offS s + 1) _).set (offS s + 2) _).congr (fun j hj => rdC_opd hs hn hw j hj)
    · exact h4.trans ((((k3.wide (b := tb)).trans (Ch.set2 _ _ _ _ _)).trans (Ch.set2 _ _ _ _ _)).trans (Ch.set2 _ _ _ _ _))))
  have hfl : fldV (fs.drop (cnt f s)) = fldS f fs s := drop_fld fs (cnt f s)
  rw [hfl] at HN
  obtain ⟨o, hoo⟩ : ∃ o, opdR (fldS f fs s) = o := ⟨_, rfl⟩
  rw [hoo] at HN HFIN
  obtain ⟨ok, on, ov⟩ := o
  simp only at HN HFIN
  clear hWW h1 h2 h3 h4 hne hl hsz hE hW1 hb htb hfl hoo
  go_enter Tryz.func182, Tryz.ntmps182
  go_wp2_with (first | (go_at_call 183; (with_reducible refine HN.out.mono ?_); rintro e w1 ⟨rfl, v3, k1, k2, k3⟩; obtain ⟨q1, q2, q3⟩ := HFIN.out w1 v3 k1 k2 k3; have HQ := Lib.hid q3; have m0 := q1 0 (by omega); have m1 := q1 1 (by omega); have m2 := q1 2 (by omega); rw [Nat.add_zero] at m0; clear k1 k2 k3 q3 q1))
  go_end0
  exact ⟨⟨_, rfl⟩, HQ.out⟩
end
end Go.Proofs.YtkncilgmlkeifaaGreatDoor
