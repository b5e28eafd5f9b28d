import Derived.Test.YtkncilgmlkeifaaGreatDoorLin
import Derived.Deep.OwnRows
import Derived.Lib.AtoiErrMem
import Derived.Deep.CutRange
import Derived.Test.YtkncilgmlkeifaaGreatDoorTxt
import Derived.Test.YtkncilgmlkeifaaGreatDoorOth
/-
  Package code: the reader: what it holds; contracts of Atoi and ParseInt as plain functions, of field.
-/
set_option linter.unusedVariables false
set_option linter.unusedSimpArgs false
set_option maxRecDepth 100000
set_option maxHeartbeats 8000000
namespace Go.Proofs.YtkncilgmlkeifaaGreatDoor
open Go.ChangeShapes Go.WideShapes Go.ChangeAt Go.RowKit Go.Shelf
structure EnvP (w : World) : Prop where
 tab : EnvT w
 syn : ∃ tp p, w.var? Tryz.prog "strconv.ErrSyntax" = some #[.iface tp p]
 rng : ∃ tp p, w.var? Tryz.prog "strconv.ErrRange" = some #[.iface tp p]
theorem var_on {w w' : World} {n : String} {cs : Array Value} (h : w.var? Tryz.prog n = some cs) (hb : Below w.heap.size w w') : w'.var? Tryz.prog n = some cs := by
 unfold World.var? at h ⊢
 cases hg : Tryz.prog.globalNamed n with
 | none => rw [hg] at h; cases h
 | some g =>
  rw [hg] at h
  simp only [Option.bind_some] at h ⊢
  have hlt : g < w.heap.size := by
   rcases Nat.lt_or_ge g w.heap.size with h' | h'
   . exact h'
   . rw [Array.getElem?_eq_none h'] at h; cases h
  rw [hb.block g hlt]
  exact h
theorem EnvP.on {w w' : World} (h : EnvP w) (hb : Below w.heap.size w w') : EnvP w' := by
 obtain ⟨h1, ⟨t2, p2, h2⟩, ⟨t3, p3, h3⟩⟩ := h
 exact ⟨h1.on hb, ⟨t2, p2, var_on h2 hb⟩, ⟨t3, p3, var_on h3 hb⟩⟩
def atoiV (l : List UInt8) : Int := match Lib.atoiAll l with | .ok v => v | .range => Lib.atoiSat l | _ => 0
def pintV (l : List UInt8) : Int := match Lib.parseIntB 32 l with | .ok v => v | .range => Lib.intSat 32 l | _ => 0
theorem atoi_any (s : ByteArray) (w : World) (hs : s.size <= 281474976710656) (hE : EnvP w) :
 Calls Tryz.prog 161 #[.string s] w fun e w' => (∃ x, e = .returned (.tuple #[(atoiV s.data.toList), x])) /\ Below w.heap.size w w' := by
 obtain ⟨_, ⟨t2, p2, h2⟩, ⟨t3, p3, h3⟩⟩ := hE
 unfold atoiV
 cases ha : Lib.atoiAll s.data.toList with
 | ok v =>
  refine (Tryz.strconv_Atoi_ok s (by omega) v ha w).mono ?_
  rintro e w' ⟨rfl, hw⟩
  refine ⟨⟨_, rfl⟩, ?_⟩
  rcases hw with rfl | ⟨t, rfl⟩
  . exact Below.refl _ _
  . exact Lib.bytesWorld_below _ _ _
 | range =>
  refine (Tryz.strconv_Atoi_range_var s hs ha t3 p3 w h3).mono ?_
  rintro e w' ⟨N, rfl, _, _, hb⟩
  exact ⟨⟨_, rfl⟩, hb⟩
 | _ =>
  refine (Tryz.strconv_Atoi_syntax_var s hs ha t2 p2 w h2).mono ?_
  rintro e w' ⟨N, rfl, _, _, hb⟩
  exact ⟨⟨_, rfl⟩, hb⟩
theorem pint_any (s : ByteArray) (w : World) (hs : s.size <= 281474976710656) (hE : EnvP w) :
 Calls Tryz.prog 197 #[.string s, (10:Int), (32:Int)] w fun e w' => (∃ x, e = .returned (.tuple #[(pintV s.data.toList), x])) /\ Below w.heap.size w w' := by
 obtain ⟨_, ⟨t2, p2, h2⟩, ⟨t3, p3, h3⟩⟩ := hE
 unfold pintV
 cases ha : Lib.parseIntB 32 s.data.toList with
 | ok v =>
  refine (Tryz.strconv_ParseInt_10_at32_ok s (by omega) v ha w).mono ?_
  rintro e w' ⟨rfl, hw⟩
  refine ⟨⟨_, rfl⟩, ?_⟩
  rcases hw with rfl | ⟨t, rfl⟩
  . exact Below.refl _ _
  . exact Lib.bytesWorld_below _ _ _
 | range =>
  refine (Tryz.strconv_ParseInt_10_at32_range_var s hs ha t3 p3 w h3).mono ?_
  rintro e w' ⟨N, rfl, _, _, hb⟩
  exact ⟨⟨_, rfl⟩, hb⟩
 | _ =>
  refine (Tryz.strconv_ParseInt_10_at32_syntax_var s hs ha t2 p2 w h2).mono ?_
  rintro e w' ⟨N, rfl, _, _, hb⟩
  exact ⟨⟨_, rfl⟩, hb⟩
structure Ch (a b : Nat) (w w' : World) : Prop where
 os : w'.os = w.os
 tape : w'.tape = w.tape
 output : w'.output = w.output
 size : w.heap.size <= w'.heap.size
 block : ∀ k, k < w.heap.size -> k ≠ a -> k ≠ b -> w'.heap[k]? = w.heap[k]?
theorem Ch.refl (a b : Nat) (w : World) : Ch a b w w := ⟨rfl, rfl, rfl, Nat.le_refl _, fun _ _ _ _ => rfl⟩
theorem Ch.trans {a b : Nat} {w w1 w2 : World} (h : Ch a b w w1) (k : Ch a b w1 w2) : Ch a b w w2 :=
 ⟨k.os.trans h.os, k.tape.trans h.tape, k.output.trans h.output, Nat.le_trans h.size k.size, fun i hi ha hb => (k.block i (Nat.lt_of_lt_of_le hi h.size) ha hb).trans (h.block i hi ha hb)⟩
theorem Ch.of_below {a b : Nat} {w w' : World} (h : Below w.heap.size w w') : Ch a b w w' := ⟨h.os, h.tape, h.output, h.size, fun i hi _ _ => h.block i hi⟩
theorem Ch.set1 (a b : Nat) (w : World) (o : Nat) (v : Value) : Ch a b w (w.setCell ⟨a, o, none⟩ v) :=
 ⟨rfl, rfl, rfl, by simp [World.setCell], fun i hi ha hb => Below.heap_setCell w ⟨a, o, none⟩ v i ha⟩
theorem Ch.set2 (a b : Nat) (w : World) (o : Nat) (v : Value) : Ch a b w (w.setCell ⟨b, o, none⟩ v) :=
 ⟨rfl, rfl, rfl, by simp [World.setCell], fun i hi ha hb => Below.heap_setCell w ⟨b, o, none⟩ v i hb⟩
theorem Ch.wide {a b : Nat} {w w' : World} (h : Ch a a w w') : Ch a b w w' := ⟨h.os, h.tape, h.output, h.size, fun i hi ha _ => h.block i hi ha ha⟩
theorem Ch.below {a b B : Nat} {w w' : World} (h : Ch a b w w') (ha : B <= a) (hb : B <= b) (hB : B <= w.heap.size) : Below B w w' :=
 ⟨h.os, h.tape, h.output, h.size, fun i hi => h.block i (by omega) (by omega) (by omega)⟩
theorem Ch.row {a b k n : Nat} {T : TypeId} {g : Nat -> Value} {w w' : World} (h : Ch a b w w') (hr : w.rowIs k T n g) (ha : k ≠ a) (hb : k ≠ b) : w'.rowIs k T n g := hr.of_block (h.block k hr.lt ha hb)
def FSl (w : World) (v : Value) (fs : List ByteArray) : Prop :=
 ∃ A c, v = .slice A fs.length c /\ fs.length <= c /\ (0 < fs.length -> ∃ fb off C fr, A = some ⟨fb, off, none⟩ /\ w.heap[fb]? = some (.cells C 9 fr) /\ ∀ j, j < fs.length -> C[off + j]? = some (.string (fs.getD j ⟨#[]⟩)))
theorem FSl.of_blocks {w w' : World} {v : Value} {fs : List ByteArray} (h : FSl w v fs) (hb : ∀ (k : Nat) (C : Array Value) (fr : Nat × Nat), w.heap[k]? = some (Obj.cells C 9 fr) -> w'.heap[k]? = some (Obj.cells C 9 fr)) : FSl w' v fs := by
 obtain ⟨A, c, hv, hc, hf⟩ := h
 refine ⟨A, c, hv, hc, fun hn => ?_⟩
 obtain ⟨fb, off, C, fr, hA, hh, hj⟩ := hf hn
 exact ⟨fb, off, C, fr, hA, hb _ _ _ hh, hj⟩
theorem FSl.ch {w w' : World} {v : Value} {fs : List ByteArray} {a b Ta Tb na nb : Nat} {ga gb : Nat -> Value} (h : FSl w v fs) (hc : Ch a b w w') (ha : w.rowIs a Ta na ga) (hb : w.rowIs b Tb nb gb) (hTa : Ta ≠ 9) (hTb : Tb ≠ 9) : FSl w' v fs := by
 refine h.of_blocks (fun k C fr hk => (hc.block k (Array.getElem?_eq_some_iff.1 hk).1 ?_ ?_).trans hk)
 . rintro rfl
   obtain ⟨c, hh, _⟩ := ha
   rw [hh] at hk
   injection hk with hk
   injection hk with _ hT _
   exact hTa hT
 . rintro rfl
   obtain ⟨c, hh, _⟩ := hb
   rw [hh] at hk
   injection hk with hk
   injection hk with _ hT _
   exact hTb hT
def upd (g : Nat -> Value) (i : Nat) (v : Value) : Nat -> Value := fun j => if j = i then v else g j
theorem upd_self {g : Nat -> Value} (i : Nat) : upd g i (g i) = g := by
 funext j
 unfold upd
 split
 . rename_i h; rw [h]
 . rfl
def fldV (fs : List ByteArray) : ByteArray := fs.getD 0 ⟨#[]⟩
theorem row_ne {w : World} {a b T n : Nat} {g : Nat -> Value} {C : Array Value} {U : TypeId} {fr : Nat × Nat} (h : w.rowIs a T n g) (hb : w.heap[b]? = some (.cells C U fr)) (hT : T ≠ U) : b ≠ a := by
 rintro rfl
 obtain ⟨c, hh, _⟩ := h
 rw [hh] at hb
 injection hb with hb
 injection hb with _ h2 _
 exact hT h2
theorem field_any (rb : Nat) (g : Nat -> Value) (fs : List ByteArray) (w : World) (hr : w.rowIs rb 166 9 g) (hf : FSl w (g 8) fs) (hl : fs.length <= 1000000) :
 Calls Tryz.prog 138 #[.pointer (some ⟨rb, 0, none⟩)] w fun e w' => e = .returned (.string (fldV fs)) /\ ∃ v', w'.rowIs rb 166 9 (upd g 8 v') /\ FSl w' v' fs.tail /\ Ch rb rb w w' := by
 obtain ⟨A, c, hv, hc, hj⟩ := hf
 have h8 := hr.cell (i := 8) (by decide)
 rw [hv] at h8
 cases fs with
 | nil =>
  have HR := lh hr
  have HV := lh hv
  clear hr hv hj hc
  simp only [List.length_nil] at h8
  go_enter Tryz.func138, Tryz.ntmps138
  go_wp2
  go_ret
  exact ⟨rfl, g 8, by rw [upd_self]; exact HR.out, ⟨A, c, HV.out, Nat.zero_le _, fun h => absurd h (by decide)⟩, Ch.refl _ _ _⟩
 | cons x fs =>
  obtain ⟨fb, off, C, fr, rfl, hh, hcs⟩ := hj (by simp)
  have m0 := hcs 0 (by simp)
  rw [Nat.add_zero] at m0
  have m1 : w.cell? ⟨fb, off, none⟩ = some (.string x) := by simp [World.cell?, hh, m0]
  have hf8 := hr.frozen 8
  have hl1 : fs.length + 1 <= 1000001 := by simp at hl; omega
  simp only [List.length_cons] at h8 hc
  have HR := lh hr
  have HV := lh hv
  have HH := lh hh
  have HCS := lh hcs
  clear hr hv hcs hh m0 hl
  go_enter Tryz.func138, Tryz.ntmps138
  go_wp2
  . skip
    have hc1 : fs.length + 1 <= 1 := by omega
    go_ret
    exact ⟨rfl, _, HR.out.set 8 _, ⟨_, 0, rfl, by omega, fun h => absurd h (by omega)⟩, Ch.set1 _ _ _ _ _⟩
  . go_ret
    refine ⟨rfl, _, HR.out.set 8 _, ⟨_, c - 1, rfl, by omega, fun h => ⟨fb, off + 1, C, fr, rfl, ?_, fun j hj2 => ?_⟩⟩, Ch.set1 _ _ _ _ _⟩
    . exact (Below.heap_setCell w ⟨rb, 8, none⟩ _ fb (row_ne HR.out HH.out (by decide))).trans HH.out
    . have := HCS.out (j + 1) (by simpa using hj2)
      rw [show off + 1 + j = off + (j + 1) from by omega]
      simpa using this
theorem upd_upd (g : Nat -> Value) (i : Nat) (v u : Value) : upd (upd g i v) i u = upd g i u := by
 funext j
 unfold upd
 split <;> rfl
theorem upd_comm (g : Nat -> Value) (i j : Nat) (v u : Value) (h : i ≠ j) : upd (upd g i v) j u = upd (upd g j u) i v := by
 funext k
 unfold upd
 by_cases h1 : k = j
 . subst h1
   rw [if_pos rfl, if_neg (fun e => h e.symm), if_pos rfl]
 . rw [if_neg h1, if_neg h1]
def updN (h : Nat -> Value) (o : Nat -> Nat) (fs : List ByteArray) : Nat -> Nat -> Value
 | 0 => h
 | k + 1 => upd (updN h o fs k) (o k) (.int .i64 (atoiV (fs.getD k ⟨#[]⟩).data.toList))
def RPt (w : World) (rb tb : Nat) (A : Option Addr) (n : Nat) (o : Nat -> Nat) : Prop :=
 0 < n -> ∃ pb off C T fr, A = some ⟨pb, off, none⟩ /\ pb ≠ rb /\ pb ≠ tb /\ w.heap[pb]? = some (.cells C T fr) /\ ∀ j, j < n -> C[off + j]? = some (.pointer (some ⟨tb, o j, none⟩))
theorem RPt.ch {w w' : World} {rb tb : Nat} {A : Option Addr} {n : Nat} {o : Nat -> Nat} (h : RPt w rb tb A n o) (hc : Ch rb tb w w') : RPt w' rb tb A n o := fun hn => by
 obtain ⟨pb, off, C, T, fr, e, h1, h2, hh, hj⟩ := h hn
 exact ⟨pb, off, C, T, fr, e, h1, h2, (hc.block pb (Array.getElem?_eq_some_iff.1 hh).1 h1 h2).trans hh, hj⟩
theorem drop_fld (fs : List ByteArray) (k : Nat) : fldV (fs.drop k) = fs.getD k ⟨#[]⟩ := by
 unfold fldV
 simp [List.getD_eq_getElem?_getD]
theorem drop_tail (fs : List ByteArray) (k : Nat) : (fs.drop k).tail = fs.drop (k + 1) := by simp
theorem getD_size {fs : List ByteArray} {M : Nat} (h : ∀ s, s ∈ fs -> s.size <= M) (k : Nat) : (fs.getD k ⟨#[]⟩).size <= M := by
 rw [List.getD_eq_getElem?_getD]
 by_cases hk : k < fs.length
 . rw [List.getElem?_eq_getElem hk]
   exact h _ (List.getElem_mem hk)
 . rw [List.getElem?_eq_none (by omega)]
   exact Nat.zero_le _
theorem cell_blkN {w : World} {b i : Nat} {C : Array Value} {T : TypeId} {fr : Nat × Nat} {v : Value} (h : w.heap[b]? = some (.cells C T fr)) (hv : C[i]? = some v) : w.cell? ⟨b, i, none⟩ = some v := by simp [World.cell?, h, hv]
def NumS (rb : Nat) (g : Nat -> Value) (o : Nat -> Nat) (fs : List ByteArray) (w : World) (k : Nat) (wr : World) : Prop := ∃ v', wr.rowIs rb 166 9 (upd (updN g o fs k) 8 v') /\ FSl wr v' (fs.drop k) /\ Ch rb rb w wr
theorem numbers_self (rb : Nat) (g : Nat -> Value) (o : Nat -> Nat) (fs : List ByteArray) (w : World) (A : Option Addr) (n c : Nat) (w0 : World) (hn : n <= 100) (hr : w.rowIs rb 166 9 g) (hf : FSl w (g 8) fs) (hl : fs.length <= 1000000) (hsz : ∀ s, s ∈ fs -> s.size <= 281474976710656) (ho : ∀ j, j < n -> o j < 9 /\ o j ≠ 8) (hp : RPt w rb rb A n o)
 (hE : EnvP w0) (hW : Below w0.heap.size w0 w) (hb : w0.heap.size <= rb) :
 Calls Tryz.prog 139 #[.pointer (some ⟨rb, 0, none⟩), .slice A n c] w fun e w' => (∃ v, e = .returned v) /\ NumS rb g o fs w n w' := by
 have H0 := lh (show NumS rb g o fs w 0 w from ⟨g 8, by rw [updN, upd_self]; exact hr, by rw [List.drop_zero]; exact hf, Ch.refl _ _ _⟩)
 have HSTEP := lh (fun (k : Nat) (wr : World) (hk : k < n) (h1 : NumS rb g o fs w k wr) => (show Calls Tryz.prog 138 #[.pointer (some ⟨rb, 0, none⟩)] wr fun e w1 => e = .returned (.string (fs.getD k ⟨#[]⟩)) /\ ∃ v', w1.rowIs rb 166 9 (upd (updN g o fs k) 8 v') /\ FSl w1 v' (fs.drop (k + 1)) /\ Ch rb rb w w1 from by
  obtain ⟨v, h2, h3, h4⟩ := h1
  refine (field_any rb _ (fs.drop k) wr h2 (by simpa [upd] using h3) (by simp; omega)).mono ?_
  rintro e w1 ⟨rfl, v', h5, h6, h7⟩
  rw [upd_upd] at h5
  rw [drop_tail] at h6
  exact ⟨by rw [drop_fld], v', h5, h6, h4.trans h7⟩))
 have HA := lh (fun (k : Nat) (w1 : World) (hw : Ch rb rb w w1) => atoi_any (fs.getD k ⟨#[]⟩) w1 (getD_size hsz k) (hE.on (hW.trans (hw.below hb hb hW.size))))
 have HFIN := lh (fun (k : Nat) (w1 w2 : World) (hk : k < n) (v' : Value) (h1 : w1.rowIs rb 166 9 (upd (updN g o fs k) 8 v')) (h2 : FSl w1 v' (fs.drop (k + 1))) (h3 : Ch rb rb w w1) (h4 : Below w1.heap.size w1 w2) => (show (w2.cell? ⟨rb, o k, none⟩ = some (upd (updN g o fs k) 8 v' (o k))) /\ w2.frozen? ⟨rb, o k, none⟩ = false /\ NumS rb g o fs w (k + 1) (w2.setCell ⟨rb, o k, none⟩ (.int .i64 (atoiV (fs.getD k ⟨#[]⟩).data.toList))) from by
  have h5 : w2.rowIs rb 166 9 (upd (updN g o fs k) 8 v') := h1.of_block (h4.block rb h1.lt)
  refine ⟨h5.cell (ho k hk).1, h5.frozen _, v', ?_, ?_, ?_⟩
  . have := h5.set (o k) (.int .i64 (atoiV (fs.getD k ⟨#[]⟩).data.toList))
    rw [updN, upd_comm _ _ _ _ _ (ho k hk).2]
    exact this
  . exact h2.ch (a := rb) (b := rb) ((Ch.of_below h4).trans (Ch.set1 _ _ _ _ _)) h1 h1 (by decide) (by decide)
  . exact (h3.trans (Ch.of_below h4)).trans (Ch.set1 _ _ _ _ _)))
 have HP := lh (fun (k : Nat) (wr : World) (h : NumS rb g o fs w k wr) => (show RPt wr rb rb A n o from by
  obtain ⟨_, _, _, h4⟩ := h
  exact hp.ch h4))
 clear hr hf hl hsz ho hp hE hW hb
 go_enter Tryz.func139, Tryz.ntmps139
 go_wp2
 go_loopw [5, 8] (fun x i wr => ∃ k : Nat, k <= n /\ i = .int .i64 k /\ Hid (NumS rb g o fs w k wr)) (fun _ i _ => n - (intOf i).toNat)
 case atStart => exact ⟨0, Nat.zero_le _, rfl, H0⟩
 case round =>
  obtain ⟨k, hk, rfl, HK⟩ := hrel
  by_cases hlt : k < n
  . obtain ⟨pb, off, C, U, fr, rfl, hp1, hp2, hh, hj⟩ := (HP.out k wr HK.out) (by omega)
    have m0 := cell_blkN hh (hj k hlt)
    clear hh hj hp1 hp2
    have HX0 := HSTEP.out k wr hlt HK.out
    have HA0 := HA.out k
    have HF0 := HFIN.out k
    obtain ⟨fk, hfk⟩ : ∃ fk, fs.getD k ⟨#[]⟩ = fk := ⟨_, rfl⟩
    rw [hfk] at HX0 HA0 HF0
    have HX := lh HX0; have HAk := lh HA0; have HFk := lh HF0
    clear HX0 HA0 HF0 hfk
    go_wp2_with (first | (go_at_call 138; (with_reducible refine HX.out.mono ?_); rintro e w1 ⟨rfl, v3, h3, h4, h5⟩; have HY := lh (HAk.out w1 h5); have HZ := lh (fun w2 hb => HFk.out w1 w2 hlt v3 h3 h4 h5 hb); clear h3 h4 h5) | (go_at_call 161; (with_reducible refine HY.out.mono ?_); rintro e w2 ⟨⟨x2, rfl⟩, hb2⟩; obtain ⟨q1, q2, q3⟩ := HZ.out w2 hb2; have HQ := lh q3; clear q3 hb2))
    go_roundw
    case rel => exact ⟨k + 1, by omega, by go_num, HQ⟩
    case measure => simp [intOf]; omega
  . obtain rfl : n = k := by omega
    go_wp2
    go_end0
    exact ⟨⟨_, rfl⟩, HK.out⟩
def NumO (rb tb T m : Nat) (g h : Nat -> Value) (o : Nat -> Nat) (fs : List ByteArray) (w : World) (k : Nat) (wr : World) : Prop := ∃ v', wr.rowIs rb 166 9 (upd g 8 v') /\ FSl wr v' (fs.drop k) /\ wr.rowIs tb T m (updN h o fs k) /\ Ch rb tb w wr
theorem numbers_other (rb tb T m : Nat) (g h : Nat -> Value) (o : Nat -> Nat) (fs : List ByteArray) (w : World) (A : Option Addr) (n c : Nat) (w0 : World) (hn : n <= 100) (hr : w.rowIs rb 166 9 g) (ht : w.rowIs tb T m h) (hne : tb ≠ rb) (hT : T ≠ 9) (hf : FSl w (g 8) fs) (hl : fs.length <= 1000000) (hsz : ∀ s, s ∈ fs -> s.size <= 281474976710656) (ho : ∀ j, j < n -> o j < m) (hp : RPt w rb tb A n o)
 (hE : EnvP w0) (hW : Below w0.heap.size w0 w) (hb : w0.heap.size <= rb) (htb : w0.heap.size <= tb) :
 Calls Tryz.prog 139 #[.pointer (some ⟨rb, 0, none⟩), .slice A n c] w fun e w' => (∃ v, e = .returned v) /\ NumO rb tb T m g h o fs w n w' := by
 have H0 := lh (show NumO rb tb T m g h o fs w 0 w from ⟨g 8, by rw [upd_self]; exact hr, by rw [List.drop_zero]; exact hf, by rw [updN]; exact ht, Ch.refl _ _ _⟩)
 have HSTEP := lh (fun (k : Nat) (wr : World) (hk : k < n) (h1 : NumO rb tb T m g h o fs w k wr) => (show Calls Tryz.prog 138 #[.pointer (some ⟨rb, 0, none⟩)] wr fun e w1 => e = .returned (.string (fs.getD k ⟨#[]⟩)) /\ ∃ v', w1.rowIs rb 166 9 (upd g 8 v') /\ FSl w1 v' (fs.drop (k + 1)) /\ w1.rowIs tb T m (updN h o fs k) /\ Ch rb tb w w1 from by
  obtain ⟨v, h2, h3, h8, h4⟩ := h1
  refine (field_any rb _ (fs.drop k) wr h2 (by simpa [upd] using h3) (by simp; omega)).mono ?_
  rintro e w1 ⟨rfl, v', h5, h6, h7⟩
  rw [upd_upd] at h5
  rw [drop_tail] at h6
  exact ⟨by rw [drop_fld], v', h5, h6, h7.row h8 hne hne, h4.trans h7.wide⟩))
 have HA := lh (fun (k : Nat) (w1 : World) (hw : Ch rb tb w w1) => atoi_any (fs.getD k ⟨#[]⟩) w1 (getD_size hsz k) (hE.on (hW.trans (hw.below hb htb hW.size))))
 have HFIN := lh (fun (k : Nat) (w1 w2 : World) (hk : k < n) (v' : Value) (h1 : w1.rowIs rb 166 9 (upd g 8 v')) (h2 : FSl w1 v' (fs.drop (k + 1))) (h6 : w1.rowIs tb T m (updN h o fs k)) (h3 : Ch rb tb w w1) (h4 : Below w1.heap.size w1 w2) => (show (w2.cell? ⟨tb, o k, none⟩ = some (updN h o fs k (o k))) /\ w2.frozen? ⟨tb, o k, none⟩ = false /\ NumO rb tb T m g h o fs w (k + 1) (w2.setCell ⟨tb, o k, none⟩ (.int .i64 (atoiV (fs.getD k ⟨#[]⟩).data.toList))) from by
  have h5 : w2.rowIs rb 166 9 (upd g 8 v') := h1.of_block (h4.block rb h1.lt)
  have h7 : w2.rowIs tb T m (updN h o fs k) := h6.of_block (h4.block tb h6.lt)
  refine ⟨h7.cell (ho k hk), h7.frozen _, v', ?_, ?_, ?_, ?_⟩
  . exact h5.setOther (a := ⟨tb, o k, none⟩) (fun e => hne e.symm) _
  . exact h2.ch (a := rb) (b := tb) ((Ch.of_below h4).trans (Ch.set2 _ _ _ _ _)) h1 h6 (by decide) hT
  . exact h7.set (o k) _
  . exact (h3.trans (Ch.of_below h4)).trans (Ch.set2 _ _ _ _ _)))
 have HP := lh (fun (k : Nat) (wr : World) (h : NumO rb tb T m g h o fs w k wr) => (show RPt wr rb tb A n o from by
  obtain ⟨_, _, _, _, h4⟩ := h
  exact hp.ch h4))
 clear hr ht hf hl hsz ho hp hE hW hb htb hT
 go_enter Tryz.func139, Tryz.ntmps139
 go_wp2
 go_loopw [5, 8] (fun x i wr => ∃ k : Nat, k <= n /\ i = .int .i64 k /\ Hid (NumO rb tb T m g h o fs w k wr)) (fun _ i _ => n - (intOf i).toNat)
 case atStart => exact ⟨0, Nat.zero_le _, rfl, H0⟩
 case round =>
  obtain ⟨k, hk, rfl, HK⟩ := hrel
  by_cases hlt : k < n
  . obtain ⟨pb, off, C, U, fr, rfl, hp1, hp2, hh, hj⟩ := (HP.out k wr HK.out) (by omega)
    have m0 := cell_blkN hh (hj k hlt)
    clear hh hj hp1 hp2
    have HX0 := HSTEP.out k wr hlt HK.out
    have HA0 := HA.out k
    have HF0 := HFIN.out k
    obtain ⟨fk, hfk⟩ : ∃ fk, fs.getD k ⟨#[]⟩ = fk := ⟨_, rfl⟩
    rw [hfk] at HX0 HA0 HF0
    have HX := lh HX0; have HAk := lh HA0; have HFk := lh HF0
    clear HX0 HA0 HF0 hfk
    go_wp2_with (first | (go_at_call 138; (with_reducible refine HX.out.mono ?_); rintro e w1 ⟨rfl, v3, h3, h4, h6, h5⟩; have HY := lh (HAk.out w1 h5); have HZ := lh (fun w2 hb => HFk.out w1 w2 hlt v3 h3 h4 h6 h5 hb); clear h3 h4 h6 h5) | (go_at_call 161; (with_reducible refine HY.out.mono ?_); rintro e w2 ⟨⟨x2, rfl⟩, hb2⟩; obtain ⟨q1, q2, q3⟩ := HZ.out w2 hb2; have HQ := lh q3; clear q3 hb2))
    go_roundw
    case rel => exact ⟨k + 1, by omega, by go_num, HQ⟩
    case measure => simp [intOf]; omega
  . obtain rfl : n = k := by omega
    go_wp2
    go_end0
    exact ⟨⟨_, rfl⟩, HK.out⟩
theorem pintV_rng (l : List UInt8) : -2147483648 <= pintV l /\ pintV l <= 2147483647 := by
 unfold pintV
 split
 . rename_i v h
   unfold Lib.parseIntB at h
   split at h
   . cases h
   . simp only at h
     split at h
     . cases h
     . cases h
     . rename_i u hu
       split at h
       . cases h
       . rename_i h1
         split at h
         . cases h
         . rename_i h2
           injection h with h
           subst h
           simp only [Nat.reduceSub, Nat.reducePow] at h1 h2
           split
           . rename_i hn
             have : ¬ 2147483648 < u := fun e => h2 ⟨hn, e⟩
             omega
           . rename_i hn
             have : ¬ 2147483648 <= u := fun e => h1 ⟨hn, e⟩
             omega
 . unfold Lib.intSat
   split <;> simp
 . omega
def opdR (s : ByteArray) : OpdV := if Lib.hasPrefix s.data.toList [114] = true then ⟨2, atoiV (Lib.trimPrefix s.data.toList [114]), 0⟩ else ⟨1, 0, pintV s.data.toList⟩
theorem Ch.setNew {a b : Nat} {w w1 : World} (h : Ch a b w w1) {p : Addr} (hp : w.heap.size <= p.block) (v : Value) : Ch a b w (w1.setCell p v) :=
 ⟨h.os, h.tape, h.output, by simpa [World.setCell] using h.size, fun i hi ha hb => (Below.heap_setCell w1 p v i (by omega)).trans (h.block i hi ha hb)⟩
theorem FSl.setR {w : World} {v : Value} {fs : List ByteArray} {a T n : Nat} {g : Nat -> Value} (h : FSl w v fs) (hr : w.rowIs a T n g) (hT : T ≠ 9) (o : Nat) (u : Value) : FSl (w.setCell ⟨a, o, none⟩ u) v fs :=
 h.of_blocks (fun k C fr hk => (Below.heap_setCell w ⟨a, o, none⟩ u k (row_ne hr hk hT)).trans hk)
theorem frozen_blk {w : World} {b : Nat} {C : Array Value} {T : TypeId} (h : w.heap[b]? = some (.cells C T (0, 0))) (o : Nat) : w.frozen? ⟨b, o, none⟩ = false := by simp [World.frozen?, h]
theorem row_of_blk {w : World} {b : Nat} {C : Array Value} {T : TypeId} (h : w.heap[b]? = some (.cells C T (0, 0))) : w.rowIs b T C.size (fun i => C.getD i undef) := by
 refine ⟨C, h, rfl, fun i hi => ?_⟩
 simp [Array.getD_eq_getD_getElem?, hi]
theorem rop_fin {rb : Nat} {G : Nat -> Value} {fs : List ByteArray} {w w2 w3 : World} {v' : Value} {C : Array Value} (H1 : w2.rowIs rb 166 9 G) (H2 : FSl w2 v' fs) (HC : Ch rb rb w w2) (HK : w2.heap[w.heap.size]? = some (.cells C 27 (0, 0))) (HB : Below w2.heap.size w2 w3) (hne : rb ≠ w.heap.size) (x y z : Value) :
 (((w3.setCell ⟨w.heap.size, 0, none⟩ x).setCell ⟨w.heap.size, 1, none⟩ y).setCell ⟨w.heap.size, 2, none⟩ z).rowIs rb 166 9 G /\ FSl (((w3.setCell ⟨w.heap.size, 0, none⟩ x).setCell ⟨w.heap.size, 1, none⟩ y).setCell ⟨w.heap.size, 2, none⟩ z) v' fs /\ Ch rb rb w (((w3.setCell ⟨w.heap.size, 0, none⟩ x).setCell ⟨w.heap.size, 1, none⟩ y).setCell ⟨w.heap.size, 2, none⟩ z) := by
 have hk3 := row_of_blk ((HB.block _ (Array.getElem?_eq_some_iff.1 HK).1).trans HK)
 have h3 : w3.rowIs rb 166 9 G := H1.of_block (HB.block rb H1.lt)
 have f3 : FSl w3 v' fs := H2.of_blocks (fun k C fr hk => (HB.block k (Array.getElem?_eq_some_iff.1 hk).1).trans hk)
 have c3 : Ch rb rb w w3 := HC.trans (Ch.of_below HB)
 exact ⟨((h3.setOther (a := ⟨w.heap.size, 0, none⟩) hne x).setOther (a := ⟨w.heap.size, 1, none⟩) hne y).setOther (a := ⟨w.heap.size, 2, none⟩) hne z,
  ((f3.setR hk3 (by decide) 0 x).setR (hk3.set 0 x) (by decide) 1 y).setR ((hk3.set 0 x).set 1 y) (by decide) 2 z,
  ((c3.setNew (Nat.le_refl _) x).setNew (Nat.le_refl _) y).setNew (Nat.le_refl _) z⟩
theorem trimPrefix_size (l p : List UInt8) : (Lib.trimPrefix l p).length <= l.length := by
 unfold Lib.trimPrefix
 split <;> simp
theorem roperand_any (rb : Nat) (g : Nat -> Value) (fs : List ByteArray) (w w0 : World) (hr : w.rowIs rb 166 9 g) (hf : FSl w (g 8) fs) (hl : fs.length <= 1000000) (hsz : ∀ s, s ∈ fs -> s.size <= 281474976710656) (hE : EnvP w0) (hW : Below w0.heap.size w0 w) (hb : w0.heap.size <= rb) :
 Calls Tryz.prog 183 #[.pointer (some ⟨rb, 0, none⟩)] w fun e w' => e = .returned (.agg #[(opdR (fldV fs)).k, (opdR (fldV fs)).n, .int .i32 (opdR (fldV fs)).v]) /\ ∃ v', w'.rowIs rb 166 9 (upd g 8 v') /\ FSl w' v' fs.tail /\ Ch rb rb w w' := by
 have hfs : (fldV fs).size <= 281474976710656 := getD_size hsz 0
 have hal := fun o => show Below w.heap.size w (w.alloc o) from (Below.refl _ _).alloc (Nat.le_refl _) o
 have HF := lh (fun (o : Obj) => field_any rb g fs (w.alloc o) (hr.alloc o) (hf.of_blocks (fun k C fr hk => ((hal o).block k (Array.getElem?_eq_some_iff.1 hk).1).trans hk)) hl)
 have HEV := lh (fun (W : World) (h : Ch rb rb w W) => hE.on (hW.trans (h.below hb hb hW.size)))
 have HCH := lh (fun (o : Obj) (W : World) (h : Ch rb rb (w.alloc o) W) => (Ch.of_below (a := rb) (b := rb) (hal o)).trans h)
 have HRB := lh (show rb ≠ w.heap.size from fun e => by have := hr.lt; omega)
 have HKEEP := lh (fun (o : Obj) (W : World) (h : Ch rb rb (w.alloc o) W) (hne : rb ≠ w.heap.size) => show W.heap[w.heap.size]? = some o from (h.block w.heap.size (by simp) (fun e => hne e.symm) (fun e => hne e.symm)).trans (heap_alloc_new _ _))
 obtain ⟨s, hs⟩ : ∃ s, fldV fs = s := ⟨_, rfl⟩
 rw [hs] at HF hfs ⊢
 clear hs hr hf hsz hE hW hl hal hb
 unfold opdR
 cases hp : Lib.hasPrefix s.data.toList [114]
 . rw [if_neg (by decide)]
   obtain ⟨z, hz⟩ : ∃ z, pintV s.data.toList = z := ⟨_, rfl⟩
   have hrng := pintV_rng s.data.toList
   have HPI := lh (fun (W : World) (h : EnvP W) => pint_any s W hfs h)
   rw [hz] at HPI hrng ⊢
   have HCP := lh (fun W => Tryz.strings_CutPrefix s ⟨#[114]⟩ W)
   rw [show (⟨#[114]⟩ : ByteArray).data.toList = [114] from rfl, hp] at HCP
   obtain ⟨hr1, hr2⟩ := hrng
   clear hz hp
   go_enter Tryz.func183, Tryz.ntmps183
   go_wp2_with (first | (go_at_call 138; (with_reducible refine (HF.out _).mono ?_); rintro e w1 ⟨rfl, v', h1, h2, h3⟩; have HC1 := lh (HCH.out _ _ h3); have HK1 := lh (HKEEP.out _ _ h3 HRB.out); have H1 := lh h1; have H2 := lh h2; clear h1 h2 h3) | (go_at_call 196; (with_reducible refine (HCP.out _).mono ?_); rintro e w2 ⟨rfl, rfl⟩) | (go_at_call 197; (with_reducible refine (HPI.out _ (HEV.out _ HC1.out)).mono ?_); rintro e w3 ⟨⟨x, rfl⟩, hb3⟩; have hbk := (hb3.block _ (Array.getElem?_eq_some_iff.1 HK1.out).1).trans HK1.out; have c3 := cells_blk hbk; have f3 := frozen_blk hbk; have HR3 := lh (rop_fin H1.out H2.out HC1.out HK1.out hb3 HRB.out); clear hb3 hbk))
   obtain ⟨r1, r2, r3⟩ := HR3.out (.int .i64 1) (.int .i64 0) (.int .i32 z)
   exact bodyPost_ret (v := .agg #[(1:Int), (0:Int), .int .i32 z]) (by simp [results, Tryz.results183, go_sem, c3]) rfl ⟨rfl, v', r1, r2, r3⟩
 . rw [if_pos rfl]
   obtain ⟨z, hz⟩ : ∃ z, atoiV (Lib.trimPrefix s.data.toList [114]) = z := ⟨_, rfl⟩
   have HPI := lh (fun (W : World) (h : EnvP W) => atoi_any ⟨(Lib.trimPrefix s.data.toList [114]).toArray⟩ W (by
    have h1 := trimPrefix_size s.data.toList [114]
    have h2 : s.data.toList.length = s.size := Array.length_toList
    show (Lib.trimPrefix s.data.toList [114]).toArray.size <= _
    rw [List.size_toArray]
    omega) h)
   rw [hz] at HPI ⊢
   have HCP := lh (fun W => Tryz.strings_CutPrefix s ⟨#[114]⟩ W)
   rw [show (⟨#[114]⟩ : ByteArray).data.toList = [114] from rfl, hp] at HCP
   clear hz hp
   go_enter Tryz.func183, Tryz.ntmps183
   go_wp2_with (first | (go_at_call 138; (with_reducible refine (HF.out _).mono ?_); rintro e w1 ⟨rfl, v', h1, h2, h3⟩; have HC1 := lh (HCH.out _ _ h3); have HK1 := lh (HKEEP.out _ _ h3 HRB.out); have H1 := lh h1; have H2 := lh h2; clear h1 h2 h3) | (go_at_call 196; (with_reducible refine (HCP.out _).mono ?_); rintro e w2 ⟨rfl, rfl⟩) | (go_at_call 161; (with_reducible refine (HPI.out _ (HEV.out _ HC1.out)).mono ?_); rintro e w3 ⟨⟨x, rfl⟩, hb3⟩; have hbk := (hb3.block _ (Array.getElem?_eq_some_iff.1 HK1.out).1).trans HK1.out; have c3 := cells_blk hbk; have f3 := frozen_blk hbk; have HR3 := lh (rop_fin H1.out H2.out HC1.out HK1.out hb3 HRB.out); clear hb3 hbk))
   obtain ⟨r1, r2, r3⟩ := HR3.out (.int .i64 2) (.int .i64 z) (.int .i32 0)
   exact bodyPost_ret (v := .agg #[(2:Int), z, .int .i32 0]) (by simp [results, Tryz.results183, go_sem, c3]) rfl ⟨rfl, v', r1, r2, r3⟩
def cnt (f : FormV) : Nat -> Nat
 | 0 => 0
 | s + 1 => cnt f s + if f.want s = true then 1 else 0
def fldS (f : FormV) (fs : List ByteArray) (s : Nat) : ByteArray := fs.getD (cnt f s) ⟨#[]⟩
def valO (f : FormV) (fs : List ByteArray) (j : Nat) : Value :=
 if numS (stepO j) = true then .int .i64 (atoiV (fldS f fs (stepO j)).data.toList)
 else if j = offS (stepO j) then .int .i64 (opdR (fldS f fs (stepO j))).k else if j = offS (stepO j) + 1 then .int .i64 (opdR (fldS f fs (stepO j))).n else .int .i32 (opdR (fldS f fs (stepO j))).v
def rdC (f : FormV) (fs : List ByteArray) (s : Nat) : Nat -> Value := fun j => if (f.want (stepO j) && decide (stepO j < s)) = true then valO f fs j else zeroO j
def rdV (f : FormV) (fs : List ByteArray) : PartV :=
 ⟨if f.want 0 then atoiV (fldS f fs 0).data.toList else 0, if f.want 1 then atoiV (fldS f fs 1).data.toList else 0, if f.want 2 then opdR (fldS f fs 2) else noOpd, if f.want 3 then opdR (fldS f fs 3) else noOpd, if f.want 4 then opdR (fldS f fs 4) else noOpd, if f.want 5 then opdR (fldS f fs 5) else noOpd, if f.want 6 then atoiV (fldS f fs 6).data.toList else 0, if f.want 7 then atoiV (fldS f fs 7).data.toList else 0⟩
theorem rdC_zero (f : FormV) (fs : List ByteArray) (j : Nat) : rdC f fs 0 j = zeroO j := by simp [rdC]
theorem rdC_skip {f : FormV} {fs : List ByteArray} {s : Nat} (h : f.want s = false) : rdC f fs s = rdC f fs (s + 1) := by
 funext j
 unfold rdC
 by_cases e : stepO j = s
 . rw [e, h]; simp
 . have : decide (stepO j < s + 1) = decide (stepO j < s) := by simp; omega
   rw [this]
theorem rdC_num {f : FormV} {fs : List ByteArray} {s : Nat} (hs : s < 8) (hn : numS s = true) (h : f.want s = true) (j : Nat) (hj : j < 16) : upd (rdC f fs s) (offS s) (.int .i64 (atoiV (fldS f fs s).data.toList)) j = rdC f fs (s + 1) j := by
 rcases lt8 hs with rfl | rfl | rfl | rfl | rfl | rfl | rfl | rfl
 all_goals first | (exfalso; revert hn; decide) | skip
 all_goals
  rcases lt16 hj with rfl | rfl | rfl | rfl | rfl | rfl | rfl | rfl | rfl | rfl | rfl | rfl | rfl | rfl | rfl | rfl <;> simp [upd, rdC, offS, stepO, zeroO, valO, numS, h]
theorem rdC_opd {f : FormV} {fs : List ByteArray} {s : Nat} (hs : s < 8) (hn : numS s = false) (h : f.want s = true) (j : Nat) (hj : j < 16) :
 (if j = offS s + 2 then .int .i32 (opdR (fldS f fs s)).v else if j = offS s + 1 then .int .i64 (opdR (fldS f fs s)).n else if j = offS s then .int .i64 (opdR (fldS f fs s)).k else rdC f fs s j) = rdC f fs (s + 1) j := by
 rcases lt8 hs with rfl | rfl | rfl | rfl | rfl | rfl | rfl | rfl
 all_goals first | (exfalso; revert hn; decide) | skip
 all_goals
  rcases lt16 hj with rfl | rfl | rfl | rfl | rfl | rfl | rfl | rfl | rfl | rfl | rfl | rfl | rfl | rfl | rfl | rfl <;> simp [rdC, offS, stepO, zeroO, valO, numS, h]
theorem rdC_end (f : FormV) (fs : List ByteArray) (j : Nat) (hj : j < 16) : rdC f fs 8 j = (rdV f fs).cell j := by
 have h8 : decide (stepO j < 8) = true := by rcases lt16 hj with rfl | rfl | rfl | rfl | rfl | rfl | rfl | rfl | rfl | rfl | rfl | rfl | rfl | rfl | rfl | rfl <;> decide
 unfold rdC rdV
 rw [h8, Bool.and_true]
 rcases lt16 hj with rfl | rfl | rfl | rfl | rfl | rfl | rfl | rfl | rfl | rfl | rfl | rfl | rfl | rfl | rfl | rfl <;> simp only [stepO, zeroO, valO, numS, offS, PartV.cell, PartV.cells] <;> simp <;> split <;> simp_all [noOpd]
def RJ (rb tb : Nat) (g : Nat -> Value) (f : FormV) (fs : List ByteArray) (W1 : World) (s : Nat) (W : World) : Prop :=
 ∃ v', W.rowIs rb 166 9 (upd g 8 v') /\ FSl W v' (fs.drop (cnt f s)) /\ W.rowIs tb 147 16 (rdC f fs s) /\ Ch rb tb W1 W
theorem drop_getD0 (fs : List ByteArray) (k : Nat) : (fs.drop k).getD 0 ⟨#[]⟩ = fs.getD k ⟨#[]⟩ := by simp [List.getD_eq_getElem?_getD]
section
theorem r181_any (rb tb cb : Nat) (g : Nat -> Value) (f : FormV) (fs : List ByteArray) (w0 W1 : World) (hne : tb ≠ rb) (hl : fs.length <= 1000000) (hsz : ∀ s, s ∈ fs -> s.size <= 281474976710656) (hE : EnvP w0) (hW1 : Below w0.heap.size w0 W1) (hb : w0.heap.size <= rb) (htb : w0.heap.size <= tb) (s : Nat) (W : World) (hs : s < 8) (hn : numS s = true) (hw : f.want s = true) (hc : W.cell? ⟨cb, 0, none⟩ = some (.pointer (some ⟨rb, 0, none⟩))) (h : RJ rb tb g f fs W1 s W) :
 Calls Tryz.prog 181 #[.pointer (some ⟨tb, offS s, none⟩), .pointer (some ⟨cb, 0, none⟩)] W fun e w' => (∃ v, e = .returned v) /\ RJ rb tb g f fs W1 (s + 1) w' := by
 obtain ⟨v, h1, h2, h3, h4⟩ := h
 have ho : offS s < 16 := by rcases lt8 hs with rfl | rfl | rfl | rfl | rfl | rfl | rfl | rfl <;> decide
 have hWW : Below w0.heap.size w0 W := hW1.trans (h4.below hb htb hW1.size)
 have hal : Below W.heap.size W (W.alloc (.cells #[.pointer (some ⟨tb, offS s, none⟩)] 186)) := (Below.refl _ _).alloc (Nat.le_refl _) _
 have HN := lh (numbers_other rb tb 147 16 (upd g 8 v) (rdC f fs s) (fun _ => offS s) (fs.drop (cnt f s)) (W.alloc (.cells #[.pointer (some ⟨tb, offS s, none⟩)] 186)) (some ⟨W.heap.size, 0, none⟩) 1 1 w0 (by omega) (h1.alloc _) (h3.alloc _) hne (by decide)
  (by
   have : upd g 8 v 8 = v := by simp [upd]
   rw [this]
   exact h2.of_blocks (fun k C fr hk => (hal.block k (Array.getElem?_eq_some_iff.1 hk).1).trans hk))
  (by simp; omega) (fun s hs => hsz s (List.mem_of_mem_drop hs)) (fun _ _ => ho)
  (fun _ => ⟨W.heap.size, 0, _, 186, (0, 0), rfl, fun e => by have := h1.lt; omega, fun e => by have := h3.lt; omega, heap_alloc_new _ _, fun j hj => by
   have : j = 0 := by omega
   subst this
   rfl⟩) hE (hWW.trans (hal.mono hWW.size)) hb htb)
 have HFIN := lh (fun (w' : World) (hq : NumO rb tb 147 16 (upd g 8 v) (rdC f fs s) (fun _ => offS s) (fs.drop (cnt f s)) (W.alloc (.cells #[.pointer (some ⟨tb, offS s, none⟩)] 186)) 1 w') => (show RJ rb tb g f fs W1 (s + 1) w' from by
  obtain ⟨v2, k1, k2, k3, k4⟩ := hq
  rw [upd_upd] at k1
  rw [List.drop_drop] at k2
  refine ⟨v2, k1, by rw [cnt, if_pos hw]; exact k2, k3.congr (fun j hj => ?_), h4.trans ((Ch.of_below hal).trans k4)⟩
  rw [updN, updN, drop_getD0]
  exact rdC_num hs hn hw j hj))
 clear hWW hal h1 h2 h3 h4 hne hl hsz hE hW1 hb htb
 go_enter Tryz.func181, Tryz.ntmps181
 go_wp2_with (first | (go_at_call 139; (with_reducible refine HN.out.mono ?_); rintro e w1 ⟨⟨v3, rfl⟩, hq⟩; have HQ := lh (HFIN.out w1 hq); clear hq))
 go_end0
 exact ⟨⟨_, rfl⟩, HQ.out⟩
theorem r182_any (rb tb cb : Nat) (g : Nat -> Value) (f : FormV) (fs : List ByteArray) (w0 W1 : World) (hne : tb ≠ rb) (hl : fs.length <= 1000000) (hsz : ∀ s, s ∈ fs -> s.size <= 281474976710656) (hE : EnvP w0) (hW1 : Below w0.heap.size w0 W1) (hb : w0.heap.size <= rb) (htb : w0.heap.size <= tb) (s : Nat) (W : World) (hs : s < 8) (hn : numS s = false) (hw : f.want s = true) (hc : W.cell? ⟨cb, 0, none⟩ = some (.pointer (some ⟨rb, 0, none⟩))) (h : RJ rb tb g f fs W1 s W) :
 Calls Tryz.prog 182 #[.pointer (some ⟨tb, offS s, none⟩), .pointer (some ⟨cb, 0, none⟩)] W fun e w' => (∃ v, e = .returned v) /\ RJ rb tb g f fs W1 (s + 1) w' := by
 obtain ⟨v, h1, h2, h3, h4⟩ := h
 have ho : offS s + 2 < 16 := by
  rcases lt8 hs with rfl | rfl | rfl | rfl | rfl | rfl | rfl | rfl
  all_goals first | (exfalso; revert hn; decide) | decide
 have hWW : Below w0.heap.size w0 W := hW1.trans (h4.below hb htb hW1.size)
 have HN := lh (roperand_any rb (upd g 8 v) (fs.drop (cnt f s)) W w0 h1 (by
  have : upd g 8 v 8 = v := by simp [upd]
  rw [this]
  exact h2) (by simp; omega) (fun s hs => hsz s (List.mem_of_mem_drop hs)) hE hWW hb)
 have HFIN := lh (fun (w1 : World) (v' : Value) (k1 : w1.rowIs rb 166 9 (upd (upd g 8 v) 8 v')) (k2 : FSl w1 v' (fs.drop (cnt f s)).tail) (k3 : Ch rb rb W w1) => (show (∀ i, i < 3 -> w1.cell? ⟨tb, offS s + i, none⟩ = some (rdC f fs s (offS s + i))) /\ (∀ o, w1.frozen? ⟨tb, o, none⟩ = false) /\ RJ rb tb g f fs W1 (s + 1) (((w1.setCell ⟨tb, offS s, none⟩ (.int .i64 (opdR (fldS f fs s)).k)).setCell ⟨tb, offS s + 1, none⟩ (.int .i64 (opdR (fldS f fs s)).n)).setCell ⟨tb, offS s + 2, none⟩ (.int .i32 (opdR (fldS f fs s)).v)) from by
  have k4 : w1.rowIs tb 147 16 (rdC f fs s) := k3.row h3 hne hne
  rw [upd_upd] at k1
  rw [drop_tail] at k2
  refine ⟨fun i hi => k4.cell (by omega), fun o => k4.frozen o, v', ?_, ?_, ?_, ?_⟩
  . exact ((k1.setOther (a := ⟨tb, offS s, none⟩) (fun e => hne e.symm) _).setOther (a := ⟨tb, offS s + 1, none⟩) (fun e => hne e.symm) _).setOther (a := ⟨tb, offS s + 2, none⟩) (fun e => hne e.symm) _
  . rw [cnt, if_pos hw]
    exact ((k2.setR k4 (by decide) _ _).setR (k4.set _ _) (by decide) _ _).setR ((k4.set _ _).set _ _) (by decide) _ _
  . exact (((k4.set (offS s) _).set (offS s + 1) _).set (offS s + 2) _).congr (fun j hj => rdC_opd hs hn hw j hj)
  . exact h4.trans ((((k3.wide (b := tb)).trans (Ch.set2 _ _ _ _ _)).trans (Ch.set2 _ _ _ _ _)).trans (Ch.set2 _ _ _ _ _))))
 have hfl : fldV (fs.drop (cnt f s)) = fldS f fs s := drop_fld fs (cnt f s)
 rw [hfl] at HN
 obtain ⟨o, hoo⟩ : ∃ o, opdR (fldS f fs s) = o := ⟨_, rfl⟩
 rw [hoo] at HN HFIN
 obtain ⟨ok, on, ov⟩ := o
 simp only at HN HFIN
 clear hWW h1 h2 h3 h4 hne hl hsz hE hW1 hb htb hfl hoo
 go_enter Tryz.func182, Tryz.ntmps182
 go_wp2_with (first | (go_at_call 183; (with_reducible refine HN.out.mono ?_); rintro e w1 ⟨rfl, v3, k1, k2, k3⟩; obtain ⟨q1, q2, q3⟩ := HFIN.out w1 v3 k1 k2 k3; have HQ := lh q3; have m0 := q1 0 (by omega); have m1 := q1 1 (by omega); have m2 := q1 2 (by omega); rw [Nat.add_zero] at m0; clear k1 k2 k3 q3 q1))
 go_end0
 exact ⟨⟨_, rfl⟩, HQ.out⟩
end
structure RK (rb a : Nat) (G : Nat -> Value) (v : Value) (fs : List ByteArray) (w W : World) : Prop where
 row : W.rowIs rb 166 9 G
 fl : FSl W v fs
 ch : Ch rb rb w W
 ra : ∃ h, W.rowIs a 147 16 h
theorem RK.set {rb a : Nat} {G : Nat -> Value} {v : Value} {fs : List ByteArray} {w W : World} (h : RK rb a G v fs w W) (hne : rb ≠ a) (ha : w.heap.size <= a) (o : Nat) (u : Value) : RK rb a G v fs w (W.setCell ⟨a, o, none⟩ u) := by
 obtain ⟨h1, h2, h3, k, h4⟩ := h
 exact ⟨h1.setOther (a := ⟨a, o, none⟩) hne u, h2.setR h4 (by decide) o u, h3.setNew ha u, _, h4.set o u⟩
theorem rfacts {w1 : World} {n : Nat} {r : PartV} (hr : w1.rowIs (n + 1 + 1 + 1) 147 16 r.cell) : w1.cell? ⟨n + 1 + 1 + 1, 0, none⟩ = some (.int .i64 r.sub) /\ w1.cell? ⟨n + 1 + 1 + 1, 1, none⟩ = some (.int .i64 r.n) /\ w1.cell? ⟨n + 1 + 1 + 1, 2, none⟩ = some (.int .i64 r.d.k) /\ w1.cell? ⟨n + 1 + 1 + 1, 3, none⟩ = some (.int .i64 r.d.n) /\ w1.cell? ⟨n + 1 + 1 + 1, 4, none⟩ = some (.int .i32 r.d.v) /\ w1.cell? ⟨n + 1 + 1 + 1, 5, none⟩ = some (.int .i64 r.a.k) /\ w1.cell? ⟨n + 1 + 1 + 1, 6, none⟩ = some (.int .i64 r.a.n) /\ w1.cell? ⟨n + 1 + 1 + 1, 7, none⟩ = some (.int .i32 r.a.v) /\ w1.cell? ⟨n + 1 + 1 + 1, 8, none⟩ = some (.int .i64 r.b.k) /\ w1.cell? ⟨n + 1 + 1 + 1, 9, none⟩ = some (.int .i64 r.b.n) /\ w1.cell? ⟨n + 1 + 1 + 1, 10, none⟩ = some (.int .i32 r.b.v) /\ w1.cell? ⟨n + 1 + 1 + 1, 11, none⟩ = some (.int .i64 r.c.k) /\ w1.cell? ⟨n + 1 + 1 + 1, 12, none⟩ = some (.int .i64 r.c.n) /\ w1.cell? ⟨n + 1 + 1 + 1, 13, none⟩ = some (.int .i32 r.c.v) /\ w1.cell? ⟨n + 1 + 1 + 1, 14, none⟩ = some (.int .i64 r.t0) /\ w1.cell? ⟨n + 1 + 1 + 1, 15, none⟩ = some (.int .i64 r.t1) :=
 ⟨hr.cell (i := 0) (by decide), hr.cell (i := 1) (by decide), hr.cell (i := 2) (by decide), hr.cell (i := 3) (by decide), hr.cell (i := 4) (by decide), hr.cell (i := 5) (by decide), hr.cell (i := 6) (by decide), hr.cell (i := 7) (by decide), hr.cell (i := 8) (by decide), hr.cell (i := 9) (by decide), hr.cell (i := 10) (by decide), hr.cell (i := 11) (by decide), hr.cell (i := 12) (by decide), hr.cell (i := 13) (by decide), hr.cell (i := 14) (by decide), hr.cell (i := 15) (by decide)⟩
theorem zfacts {w1 : World} {n : Nat} (hz : w1.heap[n + 1 + 1]? = some (.cells (⟨0, 0, noOpd, noOpd, noOpd, noOpd, 0, 0⟩ : PartV).cells 147 (0, 0))) : w1.cell? ⟨n + 1 + 1, 0, none⟩ = some (.int .i64 0) /\ w1.cell? ⟨n + 1 + 1, 1, none⟩ = some (.int .i64 0) /\ w1.cell? ⟨n + 1 + 1, 2, none⟩ = some (.int .i64 0) /\ w1.cell? ⟨n + 1 + 1, 3, none⟩ = some (.int .i64 0) /\ w1.cell? ⟨n + 1 + 1, 4, none⟩ = some (.int .i32 0) /\ w1.cell? ⟨n + 1 + 1, 5, none⟩ = some (.int .i64 0) /\ w1.cell? ⟨n + 1 + 1, 6, none⟩ = some (.int .i64 0) /\ w1.cell? ⟨n + 1 + 1, 7, none⟩ = some (.int .i32 0) /\ w1.cell? ⟨n + 1 + 1, 8, none⟩ = some (.int .i64 0) /\ w1.cell? ⟨n + 1 + 1, 9, none⟩ = some (.int .i64 0) /\ w1.cell? ⟨n + 1 + 1, 10, none⟩ = some (.int .i32 0) /\ w1.cell? ⟨n + 1 + 1, 11, none⟩ = some (.int .i64 0) /\ w1.cell? ⟨n + 1 + 1, 12, none⟩ = some (.int .i64 0) /\ w1.cell? ⟨n + 1 + 1, 13, none⟩ = some (.int .i32 0) /\ w1.cell? ⟨n + 1 + 1, 14, none⟩ = some (.int .i64 0) /\ w1.cell? ⟨n + 1 + 1, 15, none⟩ = some (.int .i64 0) := by
 simp only [World.cell?, hz]
 exact ⟨rfl, rfl, rfl, rfl, rfl, rfl, rfl, rfl, rfl, rfl, rfl, rfl, rfl, rfl, rfl, rfl⟩
theorem rparts_any (rb : Nat) (g : Nat -> Value) (f : FormV) (fs : List ByteArray) (w w0 : World) (ht : 0 <= f.targets /\ f.targets <= 2) (hr : w.rowIs rb 166 9 g) (hf : FSl w (g 8) fs) (hl : fs.length <= 1000000) (hsz : ∀ s, s ∈ fs -> s.size <= 281474976710656) (hE : EnvP w0) (hW : Below w0.heap.size w0 w) (hb : w0.heap.size <= rb) :
 Calls Tryz.prog 162 #[.pointer (some ⟨rb, 0, none⟩), f.val] w fun e w' => e = .returned (rdV f fs).val /\ ∃ v', w'.rowIs rb 166 9 (upd g 8 v') /\ FSl w' v' (fs.drop (cnt f 8)) /\ Ch rb rb w w' := by
 have hlt := hr.lt
 obtain ⟨W4, hW4⟩ : ∃ W4 : World, ((((w.alloc (.cells #[.pointer (some ⟨rb, 0, none⟩)] 198)).alloc (.cells #[.string ⟨f.word⟩, .int .u32 f.subs, f.table, .bool f.d, .bool f.a, .bool f.b, .bool f.c, f.targets] 117)).alloc (.cells (⟨0, 0, noOpd, noOpd, noOpd, noOpd, 0, 0⟩ : PartV).cells 147)).alloc (.cells (⟨0, 0, noOpd, noOpd, noOpd, noOpd, 0, 0⟩ : PartV).cells 147)) = W4 := ⟨_, rfl⟩
 have hsz4 : W4.heap.size = w.heap.size + 4 := by rw [<- hW4]; simp
 have hb4 : Below w.heap.size w W4 := by rw [<- hW4]; exact ((((Below.refl _ _).alloc (Nat.le_refl _) _).alloc (by simp) _).alloc (by simp; omega) _).alloc (by simp; omega) _
 have hk0 : W4.heap[w.heap.size]? = some (.cells #[.pointer (some ⟨rb, 0, none⟩)] 198 (0, 0)) := by
  rw [<- hW4, Below.heap_alloc _ _ _ (by simp; omega), Below.heap_alloc _ _ _ (by simp; omega), Below.heap_alloc _ _ _ (by simp)]
  exact heap_alloc_new _ _
 have hk2 : W4.heap[w.heap.size + 1 + 1]? = some (.cells (⟨0, 0, noOpd, noOpd, noOpd, noOpd, 0, 0⟩ : PartV).cells 147 (0, 0)) := by
  rw [<- hW4, Below.heap_alloc _ _ _ (by simp)]
  have h := heap_alloc_new ((w.alloc (.cells #[.pointer (some ⟨rb, 0, none⟩)] 198)).alloc (.cells #[.string ⟨f.word⟩, .int .u32 f.subs, f.table, .bool f.d, .bool f.a, .bool f.b, .bool f.c, f.targets] 117)) (.cells (⟨0, 0, noOpd, noOpd, noOpd, noOpd, 0, 0⟩ : PartV).cells 147)
  rw [World.size_alloc, World.size_alloc] at h
  exact h
 have hk3 : W4.heap[w.heap.size + 1 + 1 + 1]? = some (.cells (⟨0, 0, noOpd, noOpd, noOpd, noOpd, 0, 0⟩ : PartV).cells 147 (0, 0)) := by
  rw [<- hW4]
  have h := heap_alloc_new (((w.alloc (.cells #[.pointer (some ⟨rb, 0, none⟩)] 198)).alloc (.cells #[.string ⟨f.word⟩, .int .u32 f.subs, f.table, .bool f.d, .bool f.a, .bool f.b, .bool f.c, f.targets] 117)).alloc (.cells (⟨0, 0, noOpd, noOpd, noOpd, noOpd, 0, 0⟩ : PartV).cells 147)) (.cells (⟨0, 0, noOpd, noOpd, noOpd, noOpd, 0, 0⟩ : PartV).cells 147)
  rw [World.size_alloc, World.size_alloc, World.size_alloc] at h
  exact h
 have hbox : Below W4.heap.size W4 (W4.alloc (.cells #[.string ⟨f.word⟩, .int .u32 f.subs, f.table, .bool f.d, .bool f.a, .bool f.b, .bool f.c, f.targets] 117)) := (Below.refl _ _).alloc (Nat.le_refl _) _
 have kf : (W4.alloc (.cells #[.string ⟨f.word⟩, .int .u32 f.subs, f.table, .bool f.d, .bool f.a, .bool f.b, .bool f.c, f.targets] 117)).heap[W4.heap.size]? = some (.cells #[.string ⟨f.word⟩, .int .u32 f.subs, f.table, .bool f.d, .bool f.a, .bool f.b, .bool f.c, f.targets] 117 (0, 0)) := heap_alloc_new _ _
 have hW1 : Below w0.heap.size w0 (W4.alloc (.cells #[.string ⟨f.word⟩, .int .u32 f.subs, f.table, .bool f.d, .bool f.a, .bool f.b, .bool f.c, f.targets] 117)) := hW.trans ((hb4.trans (hbox.mono (by omega))).mono hW.size)
 have HV : Calls Tryz.prog 123 #[f.val, .pointer (some ⟨w.heap.size + 1 + 1 + 1, 0, none⟩), .func (.func 181) #[] #[.pointer (some ⟨w.heap.size, 0, none⟩)], .func (.func 182) #[] #[.pointer (some ⟨w.heap.size, 0, none⟩)]] W4 fun e w' => (∃ v, e = .returned v) /\ RJ rb (w.heap.size + 1 + 1 + 1) g f fs (W4.alloc (.cells #[.string ⟨f.word⟩, .int .u32 f.subs, f.table, .bool f.d, .bool f.a, .bool f.b, .bool f.c, f.targets] 117)) 8 w' := by
  refine visit_1 f 181 182 (w.heap.size + 1 + 1 + 1) w.heap.size (RJ rb (w.heap.size + 1 + 1 + 1) g f fs (W4.alloc (.cells #[.string ⟨f.word⟩, .int .u32 f.subs, f.table, .bool f.d, .bool f.a, .bool f.b, .bool f.c, f.targets] 117))) W4 ht (enters_of Tryz.func181 (by kernel_rfl) rfl) (enters_of Tryz.func182 (by kernel_rfl) rfl) ?_ ?_ ?_ ?_ ?_
  . have hbb := hb4.trans (hbox.mono (by omega))
    refine ⟨g 8, by rw [upd_self]; exact hr.of_block (hbb.block rb hlt), ?_, ?_, Ch.refl _ _ _⟩
    . rw [cnt, List.drop_zero]
      exact hf.of_blocks (fun k C fr hk => (hbb.block k (Array.getElem?_eq_some_iff.1 hk).1).trans hk)
    . refine ⟨(⟨0, 0, noOpd, noOpd, noOpd, noOpd, 0, 0⟩ : PartV).cells, (hbox.block _ (by omega)).trans hk3, rfl, fun i hi => ?_⟩
      rw [rdC_zero]
      rcases lt16 hi with rfl | rfl | rfl | rfl | rfl | rfl | rfl | rfl | rfl | rfl | rfl | rfl | rfl | rfl | rfl | rfl <;> rfl
  . rintro s V ⟨v, h1, h2, h3, h4⟩
    have hbk := (h4.block W4.heap.size (by simp) (by omega) (by omega)).trans kf
    exact ⟨cell_blk hbk rfl, cell_blk hbk rfl, cell_blk hbk rfl, cell_blk hbk rfl, cell_blk hbk rfl, cell_blk hbk rfl, cell_blk hbk rfl⟩
  . rintro s V hs hw ⟨v, h1, h2, h3, h4⟩
    exact ⟨v, h1, by rw [cnt, hw]; exact h2, by rw [<- rdC_skip hw]; exact h3, h4⟩
  . intro s V hs hn hw hJ
    refine r181_any rb (w.heap.size + 1 + 1 + 1) w.heap.size g f fs w0 _ (by omega) hl hsz hE hW1 hb (by have := hW.size; omega) s V hs hn hw ?_ hJ
    obtain ⟨v, h1, h2, h3, h4⟩ := hJ
    exact cell_blk ((h4.block w.heap.size (by simp; omega) (by omega) (by omega)).trans ((hbox.block _ (by omega)).trans hk0)) rfl
  . intro s V hs hn hw hJ
    refine r182_any rb (w.heap.size + 1 + 1 + 1) w.heap.size g f fs w0 _ (by omega) hl hsz hE hW1 hb (by have := hW.size; omega) s V hs hn hw ?_ hJ
    obtain ⟨v, h1, h2, h3, h4⟩ := hJ
    exact cell_blk ((h4.block w.heap.size (by simp; omega) (by omega) (by omega)).trans ((hbox.block _ (by omega)).trans hk0)) rfl
 have HF := lh (fun (w1 : World) (h : RJ rb (w.heap.size + 1 + 1 + 1) g f fs (W4.alloc (.cells #[.string ⟨f.word⟩, .int .u32 f.subs, f.table, .bool f.d, .bool f.a, .bool f.b, .bool f.c, f.targets] 117)) 8 w1) => by
  obtain ⟨v, h1, h2, h3, h4⟩ := h
  have hz2 := (h4.block (w.heap.size + 1 + 1) (by simp; omega) (by omega) (by omega)).trans ((hbox.block _ (by omega)).trans hk2)
  have hbb := hb4.trans (hbox.mono (by omega))
  exact And.intro (rfacts (n := w.heap.size) (h3.congr (fun j hj => rdC_end f fs j hj))) (And.intro (zfacts hz2) (And.intro (frozen_blk hz2) (show ∃ v', RK rb (w.heap.size + 1 + 1) (upd g 8 v') v' (fs.drop (cnt f 8)) w w1 from ⟨v, h1, h2, ⟨h4.os.trans hbb.os, h4.tape.trans hbb.tape, h4.output.trans hbb.output, by have := h4.size; have := hbb.size; omega, fun k hk ha _ => (h4.block k (by have := hbb.size; omega) ha (by omega)).trans (hbb.block k hk)⟩, _, row_of_blk hz2⟩))))
 have HNE := lh (show rb ≠ w.heap.size + 1 + 1 from by omega)
 obtain ⟨r, hrr⟩ : ∃ r, rdV f fs = r := ⟨_, rfl⟩
 rw [hrr] at HF ⊢
 subst hW4
 have HVV := lh HV
 clear hrr HV hsz4 hb4 hk0 hk2 hk3 hbox kf hW1 hlt hr hf hl hsz hE hW hb
 obtain ⟨word, subs, table, d, a, b, c, targets⟩ := f
 obtain ⟨rs, rn, ⟨rdk, rdn, rdv⟩, ⟨rak, ran, rav⟩, ⟨rbk, rbn, rbv⟩, ⟨rck, rcn, rcv⟩, rt0, rt1⟩ := r
 simp only [FormV.val, PartV.val, PartV.cells, noOpd] at HVV HF ⊢
 go_enter Tryz.func162, Tryz.ntmps162
 go_wp2_with (first | (go_at_call 123; (with_reducible refine HVV.out.mono ?_); rintro e w1 ⟨⟨v, rfl⟩, hj⟩; obtain ⟨⟨c0, c1, c2, c3, c4, c5, c6, c7, c8, c9, c10, c11, c12, c13, c14, c15⟩, ⟨z0, z1, z2, z3, z4, z5, z6, z7, z8, z9, z10, z11, z12, z13, z14, z15⟩, hf, v', hk⟩ := HF.out w1 hj; have HX := lh hk; clear hk hj))
 refine bodyPost_ret (v := .agg #[rs, rn, rdk, rdn, .int .i32 rdv, rak, ran, .int .i32 rav, rbk, rbn, .int .i32 rbv, rck, rcn, .int .i32 rcv, rt0, rt1]) (by simp [results, Tryz.results162, go_sem, z0, z1, z2, z3, z4, z5, z6, z7, z8, z9, z10, z11, z12, z13, z14, z15]) rfl ?_
 have hfin := HX.out.set HNE.out (by omega)
 have hst : ∀ W, RK rb (w.heap.size + 1 + 1) (upd g 8 v') v' (fs.drop (cnt ⟨word, subs, table, d, a, b, c, targets⟩ 8)) w W -> ∀ o u, RK rb (w.heap.size + 1 + 1) (upd g 8 v') v' (fs.drop (cnt ⟨word, subs, table, d, a, b, c, targets⟩ 8)) w (W.setCell ⟨w.heap.size + 1 + 1, o, none⟩ u) := fun W h o u => h.set HNE.out (by omega) o u
 have hall := hst _ (hst _ (hst _ (hst _ (hst _ (hst _ (hst _ (hst _ (hst _ (hst _ (hst _ (hst _ (hst _ (hst _ (hst _ (hst _ (HX.out) 0 (.int .i64 rs)) 1 (.int .i64 rn)) 2 (.int .i64 rdk)) 3 (.int .i64 rdn)) 4 (.int .i32 rdv)) 5 (.int .i64 rak)) 6 (.int .i64 ran)) 7 (.int .i32 rav)) 8 (.int .i64 rbk)) 9 (.int .i64 rbn)) 10 (.int .i32 rbv)) 11 (.int .i64 rck)) 12 (.int .i64 rcn)) 13 (.int .i32 rcv)) 14 (.int .i64 rt0)) 15 (.int .i64 rt1)
 exact ⟨rfl, v', hall.row, hall.fl, hall.ch⟩
theorem rinst_any (q : PartV) (op : Int) (w : World) : Calls Tryz.prog 163 #[q.val, op] w fun e w' => e = .returned (⟨op, q.sub, q.n, q.d, q.a, q.b, q.c⟩ : InstV).val /\ Below w.heap.size w w' := by
 obtain ⟨rs, rn, ⟨rdk, rdn, rdv⟩, ⟨rak, ran, rav⟩, ⟨rbk, rbn, rbv⟩, ⟨rck, rcn, rcv⟩, rt0, rt1⟩ := q
 simp only [InstV.val, PartV.val]
 go_enter Tryz.func163, Tryz.ntmps163
 go_wp2
 exact bodyPost_ret (v := .agg #[op, rs, rn, rdk, rdn, .int .i32 rdv, rak, ran, .int .i32 rav, rbk, rbn, .int .i32 rbv, rck, rcn, .int .i32 rcv]) (by simp [results, Tryz.results163, go_sem]) rfl ⟨rfl, ((Below.refl _ _).alloc (Nat.le_refl _) _).alloc (by simp) _⟩
theorem rend_any (q : PartV) (kind : Int) (w : World) : Calls Tryz.prog 164 #[q.val, kind] w fun e w' => e = .returned (⟨kind, q.sub, q.d, q.a, q.b, q.t0, q.t1⟩ : TermV).val /\ Below w.heap.size w w' := by
 obtain ⟨rs, rn, ⟨rdk, rdn, rdv⟩, ⟨rak, ran, rav⟩, ⟨rbk, rbn, rbv⟩, ⟨rck, rcn, rcv⟩, rt0, rt1⟩ := q
 simp only [TermV.val, PartV.val]
 go_enter Tryz.func164, Tryz.ntmps164
 go_wp2
 exact bodyPost_ret (v := .agg #[kind, rs, rdk, rdn, .int .i32 rdv, rak, ran, .int .i32 rav, rbk, rbn, .int .i32 rbv, rt0, rt1]) (by simp [results, Tryz.results164, go_sem]) rfl ⟨rfl, ((Below.refl _ _).alloc (Nat.le_refl _) _).alloc (by simp) _⟩
end Go.Proofs.YtkncilgmlkeifaaGreatDoor
