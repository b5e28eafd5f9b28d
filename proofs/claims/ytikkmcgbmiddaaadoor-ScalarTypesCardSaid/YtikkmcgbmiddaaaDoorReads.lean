/-
  Contracts of scalar.Parse and of the laws' helpers text and parse: what they return for every type, value and string of fewer than 4294967281 bytes, as plain functions (textV, textE, parV, parE).
-/
import Derived.Test.YtikkmcgbmiddaaaDoorText
import Derived.Test.YtikkmcgbmiddaaaDoorParse
namespace Go.Proofs.YtikkmcgbmiddaaaDoor
open Go.ChangeShapes Go.WideShapes Go.ChangeAt Go.RowKit

theorem sgn_rng (b : Bool) (n : Int) : I32 (sgn b n) := I32.wrap _
/-- What the readers take the string for, before its text is compared. -/
def rawV (t : Int) (l : List UInt8) : Int := if t = 1 then intV l else if t = 2 then fixV l else tr (l = [116, 114, 117, 101])
def rawOk (t : Int) (l : List UInt8) : Bool := if t = 1 then intOk l else if t = 2 then fixOk l else true
def parOk (t : Int) (l : List UInt8) : Bool := rawOk t l && decide (textV t (rawV t l) = l)
def parV (t : Int) (l : List UInt8) : Int := if 1 ≤ t ∧ t ≤ 3 ∧ parOk t l = true then rawV t l else 0
def parE (t : Int) (l : List UInt8) : Int := if 1 ≤ t ∧ t ≤ 3 then (if parOk t l = true then 0 else 3) else 1
theorem rawV_rng (t : Int) (l : List UInt8) : I32 (rawV t l) := by
  unfold rawV intV fixV
  repeat' first | exact sgn_rng _ _ | exact tr_rng _ | apply ite_rng
theorem parV_rng (t : Int) (l : List UInt8) : I32 (parV t l) := by
  unfold parV; exact ite_rng (rawV_rng _ _) ⟨by omega, by omega⟩

theorem ret2_ie {a b c d : Int} (h : a = b) (h2 : c = d) : Ending.returned (.tuple #[.int .i32 a, .int .i64 c]) = .returned (.tuple #[.int .i32 b, .int .i64 d]) := by rw [h, h2]
/-- The three ways of Parse for a type that there is. -/
theorem par_yes {t : Int} {l : List UInt8} (ht : 1 ≤ t ∧ t ≤ 3) (h : parOk t l = true) : parV t l = rawV t l ∧ parE t l = 0 := by
  unfold parV parE; rw [if_pos ⟨ht.1, ht.2, h⟩, if_pos ht, if_pos h]; exact ⟨rfl, rfl⟩
theorem par_no {t : Int} {l : List UInt8} (ht : 1 ≤ t ∧ t ≤ 3) (h : parOk t l = false) : parV t l = 0 ∧ parE t l = 3 := by
  unfold parV parE; rw [if_neg (by simp [h]), if_pos ht, if_neg (by simp [h])]; exact ⟨rfl, rfl⟩

theorem parOk_of {t v : Int} {l : List UInt8} {b : Bool} (hr : rawV t l = v) (hb : rawOk t l = b) : parOk t l = (b && decide (textV t v = l)) := by subst hr hb; rfl
theorem Parse_int (s : ByteArray) (w : World) (he : Env w) (hs : s.size < 4294967281) :
    Calls Tryd.prog 34 #[.int .i64 1, .string s] w fun e w' => e = .returned (.tuple #[.int .i32 (parV 1 s.data.toList), .int .i64 (parE 1 s.data.toList)]) ∧ Below w.heap.size w w' := by
  have H50 := Lib.hid (parseInt_any s w (by omega))
  have H33 := Lib.hid (Text_any 1 (intV s.data.toList) w (sgn_rng _ _) he.1)
  clear he
  cases hok : intOk s.data.toList
  · have hp : parOk 1 s.data.toList = false := by rw [parOk_of (t := 1) (l := s.data.toList) (v := intV s.data.toList) (b := false) rfl hok]; rfl
    obtain ⟨e1, e2⟩ := par_no (by omega) hp
    rw [hok] at H50
    rw [e1, e2]
    clear hp e1 e2 hok
    go_enter Tryd.func34, Tryd.ntmps34
    go_wp2_with (first | (go_at_call 50; refine H50.out.mono ?_; rintro e w' ⟨rfl, hw⟩; subst hw) | (go_at_call 33; refine H33.out.mono ?_; rintro e w' ⟨rfl, hb⟩))
    go_ret2
    exact ⟨rfl, hb⟩
  · rw [hok] at H50
    by_cases hq : textV 1 (intV s.data.toList) = s.data.toList
    · have hp : parOk 1 s.data.toList = true := by rw [parOk_of (t := 1) (l := s.data.toList) (v := intV s.data.toList) (b := true) rfl hok]; simp [hq]
      obtain ⟨e1, e2⟩ := par_yes (by omega) hp
      rw [e1, e2]
      have hq1 : (!textV 1 (intV s.data.toList) == s.toList) = false := by rw [Lib.toList_data, hq]; simp
      clear hp e1 e2 hok hq
      go_enter Tryd.func34, Tryd.ntmps34
      go_wp2_with (first | (go_at_call 50; refine H50.out.mono ?_; rintro e w' ⟨rfl, hw⟩; subst hw) | (go_at_call 33; refine H33.out.mono ?_; rintro e w' ⟨rfl, hb⟩))
      go_ret2
      exact ⟨rfl, hb⟩
    · have hp : parOk 1 s.data.toList = false := by rw [parOk_of (t := 1) (l := s.data.toList) (v := intV s.data.toList) (b := true) rfl hok]; simp [hq]
      obtain ⟨e1, e2⟩ := par_no (by omega) hp
      rw [e1, e2]
      have hq1 : (!textV 1 (intV s.data.toList) == s.toList) = true := by rw [Lib.toList_data]; simpa using hq
      clear hp e1 e2 hok hq
      go_enter Tryd.func34, Tryd.ntmps34
      go_wp2_with (first | (go_at_call 50; refine H50.out.mono ?_; rintro e w' ⟨rfl, hw⟩; subst hw) | (go_at_call 33; refine H33.out.mono ?_; rintro e w' ⟨rfl, hb⟩))
      go_ret2
      exact ⟨rfl, hb⟩
theorem Parse_fix (s : ByteArray) (w : World) (he : Env w) (hs : s.size < 4294967281) :
    Calls Tryd.prog 34 #[.int .i64 2, .string s] w fun e w' => e = .returned (.tuple #[.int .i32 (parV 2 s.data.toList), .int .i64 (parE 2 s.data.toList)]) ∧ Below w.heap.size w w' := by
  have H51 := Lib.hid (let ⟨m, hm⟩ := he.2; parseFix_any s w m hm hs)
  have H33 : Hid (∀ w', Below w.heap.size w w' → _) := Lib.hid fun w' hb => Text_any 2 (fixV s.data.toList) w' (sgn_rng _ _) (he.on hb).1
  clear he
  cases hok : fixOk s.data.toList
  · have hp : parOk 2 s.data.toList = false := by rw [parOk_of (t := 2) (l := s.data.toList) (v := fixV s.data.toList) (b := false) rfl hok]; rfl
    obtain ⟨e1, e2⟩ := par_no (by omega) hp
    rw [hok] at H51
    rw [e1, e2]
    clear hp e1 e2 hok
    go_enter Tryd.func34, Tryd.ntmps34
    go_wp2_with (first | (go_at_call 51; refine H51.out.mono ?_; rintro e w1 ⟨rfl, hb1⟩) | (go_at_call 33; refine (H33.out _ hb1).mono ?_; rintro e w2 ⟨rfl, hb2⟩))
    go_ret2
    exact ⟨rfl, hb1.trans (hb2.mono hb1.size)⟩
  · rw [hok] at H51
    by_cases hq : textV 2 (fixV s.data.toList) = s.data.toList
    · have hp : parOk 2 s.data.toList = true := by rw [parOk_of (t := 2) (l := s.data.toList) (v := fixV s.data.toList) (b := true) rfl hok]; simp [hq]
      obtain ⟨e1, e2⟩ := par_yes (by omega) hp
      rw [e1, e2]
      have hq1 : (!textV 2 (fixV s.data.toList) == s.toList) = false := by rw [Lib.toList_data, hq]; simp
      clear hp e1 e2 hok hq
      go_enter Tryd.func34, Tryd.ntmps34
      go_wp2_with (first | (go_at_call 51; refine H51.out.mono ?_; rintro e w1 ⟨rfl, hb1⟩) | (go_at_call 33; refine (H33.out _ hb1).mono ?_; rintro e w2 ⟨rfl, hb2⟩))
      go_ret2
      exact ⟨rfl, hb1.trans (hb2.mono hb1.size)⟩
    · have hp : parOk 2 s.data.toList = false := by rw [parOk_of (t := 2) (l := s.data.toList) (v := fixV s.data.toList) (b := true) rfl hok]; simp [hq]
      obtain ⟨e1, e2⟩ := par_no (by omega) hp
      rw [e1, e2]
      have hq1 : (!textV 2 (fixV s.data.toList) == s.toList) = true := by rw [Lib.toList_data]; simpa using hq
      clear hp e1 e2 hok hq
      go_enter Tryd.func34, Tryd.ntmps34
      go_wp2_with (first | (go_at_call 51; refine H51.out.mono ?_; rintro e w1 ⟨rfl, hb1⟩) | (go_at_call 33; refine (H33.out _ hb1).mono ?_; rintro e w2 ⟨rfl, hb2⟩))
      go_ret2
      exact ⟨rfl, hb1.trans (hb2.mono hb1.size)⟩
theorem Parse_else (t : Int) (s : ByteArray) (w : World) (h : ¬ (1 ≤ t ∧ t ≤ 3)) :
    Calls Tryd.prog 34 #[.int .i64 t, .string s] w fun e w' => e = .returned (.tuple #[.int .i32 (parV t s.data.toList), .int .i64 (parE t s.data.toList)]) ∧ Below w.heap.size w w' := by
  have e1 : parV t s.data.toList = 0 := by unfold parV; rw [if_neg (fun x => h ⟨x.1, x.2.1⟩)]
  have e2 : parE t s.data.toList = 1 := by unfold parE; rw [if_neg h]
  rw [e1, e2]
  have h1 : (t == 1) = false := by simp; omega
  have h2 : (t == 2) = false := by simp; omega
  have h3 : (t == 3) = false := by simp; omega
  clear e1 e2 h
  go_enter Tryd.func34, Tryd.ntmps34
  go_wp2
  go_ret2
  exact ⟨rfl, Below.refl _ _⟩
theorem Parse_bool (s : ByteArray) (w : World) (he : Env w) :
    Calls Tryd.prog 34 #[.int .i64 3, .string s] w fun e w' => e = .returned (.tuple #[.int .i32 (parV 3 s.data.toList), .int .i64 (parE 3 s.data.toList)]) ∧ Below w.heap.size w w' := by
  by_cases ht : s.data.toList = [116, 114, 117, 101]
  · have hp : parOk 3 s.data.toList = true := by rw [ht]; decide
    obtain ⟨e1, e2⟩ := par_yes (by omega) hp
    rw [e1, e2]
    have e3 : rawV 3 s.data.toList = 1 := by rw [ht]; decide
    have H33 := Lib.hid (Text_any 3 1 w ⟨by omega, by omega⟩ he.1)
    have hs : s.toList = [116, 114, 117, 101] := by rw [Lib.toList_data]; exact ht
    have hs2 : (s.toList == [116, 114, 117, 101]) = true := by rw [hs]; rfl
    rw [e3]
    clear hp e1 e2 ht e3 he
    go_enter Tryd.func34, Tryd.ntmps34
    go_wp2_with (first | (go_at_call 52; refine (truth_any _ _).mono ?_; rintro e w' ⟨rfl, hw⟩; subst hw) | (go_at_call 33; refine H33.out.mono ?_; rintro e w' ⟨rfl, hb⟩))
    go_ret2
    exact ⟨ret2_ie rfl rfl, hb⟩
  · have e3 : rawV 3 s.data.toList = 0 := by show tr (s.data.toList = _) = 0; unfold tr; rw [if_neg ht]
    have H33 := Lib.hid (Text_any 3 0 w ⟨by omega, by omega⟩ he.1)
    have hs2 : (s.toList == [116, 114, 117, 101]) = false := by rw [Lib.toList_data]; simpa using ht
    by_cases hq : s.data.toList = [102, 97, 108, 115, 101]
    · have hp : parOk 3 s.data.toList = true := by rw [hq]; decide
      obtain ⟨e1, e2⟩ := par_yes (by omega) hp
      rw [e1, e2, e3]
      have hq1 : (!textV 3 0 == s.toList) = false := by rw [Lib.toList_data, hq]; rfl
      clear hp e1 e2 ht e3 he hq
      go_enter Tryd.func34, Tryd.ntmps34
      go_wp2_with (first | (go_at_call 52; refine (truth_any _ _).mono ?_; rintro e w' ⟨rfl, hw⟩; subst hw) | (go_at_call 33; refine H33.out.mono ?_; rintro e w' ⟨rfl, hb⟩))
      go_ret2
      exact ⟨ret2_ie rfl rfl, hb⟩
    · have hp : parOk 3 s.data.toList = false := by
        rw [parOk_of (t := 3) (l := s.data.toList) (v := 0) (b := true) e3 rfl, Bool.true_and]; exact decide_eq_false fun e => hq e.symm
      obtain ⟨e1, e2⟩ := par_no (by omega) hp
      rw [e1, e2]
      have hq1 : (!textV 3 0 == s.toList) = true := by
        rw [Lib.toList_data]; have : ¬ textV 3 0 = s.data.toList := fun e => hq e.symm
        simpa using this
      clear hp e1 e2 ht e3 he hq
      go_enter Tryd.func34, Tryd.ntmps34
      go_wp2_with (first | (go_at_call 52; refine (truth_any _ _).mono ?_; rintro e w' ⟨rfl, hw⟩; subst hw) | (go_at_call 33; refine H33.out.mono ?_; rintro e w' ⟨rfl, hb⟩))
      go_ret2
      exact ⟨ret2_ie rfl rfl, hb⟩
theorem Parse_any (t : Int) (s : ByteArray) (w : World) (he : Env w) (hs : s.size < 4294967281) :
    Calls Tryd.prog 34 #[.int .i64 t, .string s] w fun e w' => e = .returned (.tuple #[.int .i32 (parV t s.data.toList), .int .i64 (parE t s.data.toList)]) ∧ Below w.heap.size w w' := by
  by_cases h : 1 ≤ t ∧ t ≤ 3
  · have : t = 1 ∨ t = 2 ∨ t = 3 := by omega
    rcases this with rfl | rfl | rfl
    · exact Parse_int s w he hs
    · exact Parse_fix s w he hs
    · exact Parse_bool s w he
  · exact Parse_else t s w h
/-- Old blocks read as they did. -/
theorem bcell {W w1 : World} (hb : Below W.heap.size W w1) : (∀ b o, b < W.heap.size → w1.cell? ⟨b, o, none⟩ = W.cell? ⟨b, o, none⟩) ∧ (∀ b o, b < W.heap.size → w1.frozen? ⟨b, o, none⟩ = W.frozen? ⟨b, o, none⟩) :=
  ⟨fun b o h => hb.cell (p := ⟨b, o, none⟩) h, fun b o h => hb.frozen (p := ⟨b, o, none⟩) h⟩
theorem text_c {w0 w : World} (t v : Int) (h : Run w0 w) (hv : I32 v) :
    Calls Tryd.prog 16 #[.int .i64 t, .int .i32 v] w fun e w' => e = .returned (.agg #[.string ⟨(textV t v).toArray⟩, .int .i64 (textE t v)]) ∧ Run w0 w' := by
  have H := Lib.hid h
  clear h
  go_enter Tryd.func16, Tryd.ntmps16
  go_wp2_with (go_at_call 33; refine (Text_any t v _ hv (H.out.2.on ((Below.refl _ _).alloc (Nat.le_refl _) _)).1).mono ?_; rintro e w' ⟨rfl, hb⟩; obtain ⟨hc, hf⟩ := bcell hb; have hz : w.heap.size < w'.heap.size := (by have := hb.size; simp at this; omega); have HB := Lib.hid hb; clear hb)
  exact bodyPost_ret (v := .agg #[.string ⟨(textV t v).toArray⟩, .int .i64 (textE t v)]) (by simp [results, Tryd.results16, go_sem, hc]) rfl ⟨rfl, H.out.on ((((Below.refl _ _).alloc (Nat.le_refl _) _).trans (HB.out.mono (by simp))).setCell (by simp) _ |>.setCell (by simp) _)⟩
theorem parse_c {w0 w : World} (t : Int) (s : ByteArray) (h : Run w0 w) (hs : s.size < 4294967281) :
    Calls Tryd.prog 17 #[.int .i64 t, .string s] w fun e w' => e = .returned (.agg #[.int .i32 (parV t s.data.toList), .int .i64 (parE t s.data.toList)]) ∧ Run w0 w' := by
  have H := Lib.hid h
  clear h
  go_enter Tryd.func17, Tryd.ntmps17
  go_wp2_with (go_at_call 34; refine (Parse_any t s _ (H.out.2.on ((Below.refl _ _).alloc (Nat.le_refl _) _)) hs).mono ?_; rintro e w' ⟨rfl, hb⟩; obtain ⟨hc, hf⟩ := bcell hb; have hz : w.heap.size < w'.heap.size := (by have := hb.size; simp at this; omega); have HB := Lib.hid hb; clear hb)
  exact bodyPost_ret (v := .agg #[.int .i32 (parV t s.data.toList), .int .i64 (parE t s.data.toList)]) (by simp [results, Tryd.results17, go_sem, hc]) rfl ⟨rfl, H.out.on ((((Below.refl _ _).alloc (Nat.le_refl _) _).trans (HB.out.mono (by simp))).setCell (by simp) _ |>.setCell (by simp) _)⟩
end Go.Proofs.YtikkmcgbmiddaaaDoor
