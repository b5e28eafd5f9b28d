/-
  Package code: the contract of form.visit, whatever the two functions do that it calls: J s holds before the step s.
-/
import Derived.Test.YtkncilgmlkeifaaGreatDoorForm
import Derived.Deep.DeepCutAuto
import Derived.Deep.CutRange
set_option linter.unusedVariables false
set_option linter.unusedSimpArgs false
set_option maxRecDepth 100000
set_option maxHeartbeats 4000000
namespace Go.Proofs.YtkncilgmlkeifaaGreatDoor
open Go.ChangeShapes Go.WideShapes Go.ChangeAt Go.RowKit Go.Shelf
def FormV.want (f : FormV) (s : Nat) : Bool :=
 if s = 0 then f.subs != 0 else if s = 1 then f.table != 0 else if s = 2 then f.d else if s = 3 then f.a else if s = 4 then f.b else if s = 5 then f.c else decide ((s : Int) - 6 < f.targets)
def offS (s : Nat) : Nat := if s = 0 then 0 else if s = 1 then 1 else if s = 2 then 2 else if s = 3 then 5 else if s = 4 then 8 else if s = 5 then 11 else if s = 6 then 14 else 15
def numS (s : Nat) : Bool := s == 0 || s == 1 || s == 6 || s == 7
def BoxFm (W : World) (b : Nat) (f : FormV) : Prop :=
 W.cell? ⟨b, 1, none⟩ = some (.int .u32 f.subs) /\ W.cell? ⟨b, 2, none⟩ = some (.int .i64 f.table) /\ W.cell? ⟨b, 3, none⟩ = some (.bool f.d) /\ W.cell? ⟨b, 4, none⟩ = some (.bool f.a) /\ W.cell? ⟨b, 5, none⟩ = some (.bool f.b) /\ W.cell? ⟨b, 6, none⟩ = some (.bool f.c) /\ W.cell? ⟨b, 7, none⟩ = some (.int .i64 f.targets)
theorem visit_0 (f : FormV) (Fn Fo pb : Nat) (J : Nat -> World -> Prop) (w : World) (ht : 0 <= f.targets /\ f.targets <= 2)
 (hEn : ∀ args w, (callFunc Fn args).run Tryz.prog w = .ok (.enter Fn args) w) (hEo : ∀ args w, (callFunc Fo args).run Tryz.prog w = .ok (.enter Fo args) w)
 (h0 : J 0 (w.alloc (.cells #[.string ⟨f.word⟩, .int .u32 f.subs, f.table, .bool f.d, .bool f.a, .bool f.b, .bool f.c, f.targets] 117)))
 (hB : ∀ s W, J s W -> BoxFm W w.heap.size f)
 (hS : ∀ s W, s < 8 -> f.want s = false -> J s W -> J (s + 1) W)
 (hN : ∀ s W, s < 8 -> numS s = true -> f.want s = true -> J s W -> Calls Tryz.prog Fn #[.pointer (some ⟨pb, offS s, none⟩)] W fun e W' => (∃ v, e = .returned v) /\ J (s + 1) W')
 (hO : ∀ s W, s < 8 -> numS s = false -> f.want s = true -> J s W -> Calls Tryz.prog Fo #[.pointer (some ⟨pb, offS s, none⟩)] W fun e W' => (∃ v, e = .returned v) /\ J (s + 1) W') :
 Calls Tryz.prog 123 #[f.val, .pointer (some ⟨pb, 0, none⟩), .func (.func Fn) #[] #[], .func (.func Fo) #[] #[]] w fun e w' => (∃ v, e = .returned v) /\ J 8 w' := by
 have HB := lh hB; have HS := lh hS; have HN := lh hN; have HO := lh hO; have H0 := lh h0
 clear hB hS hN hO h0
 obtain ⟨word, subs, table, d, a, b, c, targets⟩ := f
 simp only [FormV.val] at ht H0 ⊢
 obtain ⟨ht0, ht2⟩ := ht
 go_enter Tryz.func123, Tryz.ntmps123
 go_upto_if 11 with fail
 go_cut [0] from 11 (fun v0 wx => J 1 wx)
 case first =>
  by_cases hq : subs = 0
  . have hq1 : (subs != 0) = false := by simpa using hq
    have HX := lh (HS.out 0 _ (by decide) (by simpa [FormV.want] using hq) H0.out)
    clear hq
    go_wp2
    go_meet
    exact HX.out
  . have hq1 : (subs != 0) = true := by simpa using hq
    have HX := lh (fun W hj => show Calls Tryz.prog Fn #[.pointer (some ⟨pb, 0, none⟩)] W (fun e W' => (∃ v, e = .returned v) /\ J 1 W') from HN.out 0 W (by decide) (by decide) (by simpa [FormV.want] using hq) hj)
    clear hq
    go_wp2_with ((with_reducible refine (HX.out _ H0.out).mono ?_); rintro e w1 ⟨⟨v, rfl⟩, hj1⟩; have HY := lh hj1; clear hj1)
    go_meet
    exact HY.out
 case rest =>
  have HJ1 := lh hcut
  obtain ⟨m1, m2, m3, m4, m5, m6, m7⟩ := HB.out 1 _ hcut
  clear hcut
  simp only at m1 m2 m3 m4 m5 m6 m7
  try clear H0
  go_upto_if 19 with fail
  go_cut [] from 19 (fun wx => J 2 wx)
  case first =>
   by_cases hq : table = 0
   . have hq1 : (table != 0) = false := by simpa using hq
     have HX := lh (HS.out 1 _ (by decide) (by simpa [FormV.want] using hq) HJ1.out)
     clear hq
     go_wp2
     go_meet
     exact HX.out
   . have hq1 : (table != 0) = true := by simpa using hq
     have HX := lh (fun W hj => show Calls Tryz.prog Fn #[.pointer (some ⟨pb, 1, none⟩)] W (fun e W' => (∃ v, e = .returned v) /\ J 2 W') from HN.out 1 W (by decide) (by decide) (by simpa [FormV.want] using hq) hj)
     clear hq
     go_wp2_with ((with_reducible refine (HX.out _ HJ1.out).mono ?_); rintro e w1 ⟨⟨v, rfl⟩, hj1⟩; have HY := lh hj1; clear hj1)
     go_meet
     exact HY.out
  case rest =>
   have HJ2 := lh hcut
   obtain ⟨m1, m2, m3, m4, m5, m6, m7⟩ := HB.out 2 _ hcut
   clear hcut
   simp only at m1 m2 m3 m4 m5 m6 m7
   try clear HJ1
   go_upto_if 26 with fail
   go_cut [] from 26 (fun wx => J 3 wx)
   case first =>
    cases hq : d
    . have hq1 : d = false := hq
      have HX := lh (HS.out 2 _ (by decide) (by simpa [FormV.want] using hq) HJ2.out)
      clear hq
      go_wp2
      go_meet
      exact HX.out
    . have hq1 : d = true := hq
      have HX := lh (fun W hj => show Calls Tryz.prog Fo #[.pointer (some ⟨pb, 2, none⟩)] W (fun e W' => (∃ v, e = .returned v) /\ J 3 W') from HO.out 2 W (by decide) (by decide) (by simpa [FormV.want] using hq) hj)
      clear hq
      go_wp2_with ((with_reducible refine (HX.out _ HJ2.out).mono ?_); rintro e w1 ⟨⟨v, rfl⟩, hj1⟩; have HY := lh hj1; clear hj1)
      go_meet
      exact HY.out
   case rest =>
    have HJ3 := lh hcut
    obtain ⟨m1, m2, m3, m4, m5, m6, m7⟩ := HB.out 3 _ hcut
    clear hcut
    simp only at m1 m2 m3 m4 m5 m6 m7
    try clear HJ2
    go_upto_if 33 with fail
    go_cut [] from 33 (fun wx => J 4 wx)
    case first =>
     cases hq : a
     . have hq1 : a = false := hq
       have HX := lh (HS.out 3 _ (by decide) (by simpa [FormV.want] using hq) HJ3.out)
       clear hq
       go_wp2
       go_meet
       exact HX.out
     . have hq1 : a = true := hq
       have HX := lh (fun W hj => show Calls Tryz.prog Fo #[.pointer (some ⟨pb, 5, none⟩)] W (fun e W' => (∃ v, e = .returned v) /\ J 4 W') from HO.out 3 W (by decide) (by decide) (by simpa [FormV.want] using hq) hj)
       clear hq
       go_wp2_with ((with_reducible refine (HX.out _ HJ3.out).mono ?_); rintro e w1 ⟨⟨v, rfl⟩, hj1⟩; have HY := lh hj1; clear hj1)
       go_meet
       exact HY.out
    case rest =>
     have HJ4 := lh hcut
     obtain ⟨m1, m2, m3, m4, m5, m6, m7⟩ := HB.out 4 _ hcut
     clear hcut
     simp only at m1 m2 m3 m4 m5 m6 m7
     try clear HJ3
     go_upto_if 40 with fail
     go_cut [] from 40 (fun wx => J 5 wx)
     case first =>
      cases hq : b
      . have hq1 : b = false := hq
        have HX := lh (HS.out 4 _ (by decide) (by simpa [FormV.want] using hq) HJ4.out)
        clear hq
        go_wp2
        go_meet
        exact HX.out
      . have hq1 : b = true := hq
        have HX := lh (fun W hj => show Calls Tryz.prog Fo #[.pointer (some ⟨pb, 8, none⟩)] W (fun e W' => (∃ v, e = .returned v) /\ J 5 W') from HO.out 4 W (by decide) (by decide) (by simpa [FormV.want] using hq) hj)
        clear hq
        go_wp2_with ((with_reducible refine (HX.out _ HJ4.out).mono ?_); rintro e w1 ⟨⟨v, rfl⟩, hj1⟩; have HY := lh hj1; clear hj1)
        go_meet
        exact HY.out
     case rest =>
      have HJ5 := lh hcut
      obtain ⟨m1, m2, m3, m4, m5, m6, m7⟩ := HB.out 5 _ hcut
      clear hcut
      simp only at m1 m2 m3 m4 m5 m6 m7
      try clear HJ4
      go_upto_if 47 with fail
      go_cut [] from 47 (fun wx => J 6 wx)
      case first =>
       cases hq : c
       . have hq1 : c = false := hq
         have HX := lh (HS.out 5 _ (by decide) (by simpa [FormV.want] using hq) HJ5.out)
         clear hq
         go_wp2
         go_meet
         exact HX.out
       . have hq1 : c = true := hq
         have HX := lh (fun W hj => show Calls Tryz.prog Fo #[.pointer (some ⟨pb, 11, none⟩)] W (fun e W' => (∃ v, e = .returned v) /\ J 6 W') from HO.out 5 W (by decide) (by decide) (by simpa [FormV.want] using hq) hj)
         clear hq
         go_wp2_with ((with_reducible refine (HX.out _ HJ5.out).mono ?_); rintro e w1 ⟨⟨v, rfl⟩, hj1⟩; have HY := lh hj1; clear hj1)
         go_meet
         exact HY.out
      case rest =>
       have HJ6 := lh hcut
       obtain ⟨m1, m2, m3, m4, m5, m6, m7⟩ := HB.out 6 _ hcut
       clear hcut
       simp only at m1 m2 m3 m4 m5 m6 m7
       try clear HJ5
       go_wp2
       go_loopw [8, 55] (fun j i wr => (i = .int .i64 0 /\ Hid (J 6 wr)) \/ (i = .int .i64 1 /\ 1 <= targets /\ Hid (J 7 wr)) \/ (i = .int .i64 2 /\ targets = 2 /\ Hid (J 8 wr))) (fun _ i _ => 3 - (intOf i).toNat)
       case atStart => exact .inl ⟨rfl, HJ6⟩
       case round =>
        rcases hrel with ⟨rfl, hj⟩ | ⟨rfl, h1, hj⟩ | ⟨rfl, h2, hj⟩
        . by_cases hlt : 0 < targets
          . have HX := lh (fun W hj => show Calls Tryz.prog Fn #[.pointer (some ⟨pb, 14, none⟩)] W (fun e W' => (∃ v, e = .returned v) /\ J 7 W') from HN.out 6 W (by decide) (by decide) (by simp [FormV.want]; omega) hj)
            go_wp2_with ((with_reducible refine (HX.out _ hj.out).mono ?_); rintro e w1 ⟨⟨v, rfl⟩, hj1⟩; have HY := lh hj1; clear hj1)
            go_roundw
            case rel => exact .inr (.inl ⟨rfl, by omega, HY⟩)
            case measure => simp [intOf]
          . have H7 := HS.out 6 _ (by decide) (by simp [FormV.want]; omega) hj.out
            have H8 := lh (HS.out 7 _ (by decide) (by simp [FormV.want]; omega) H7)
            clear H7
            go_wp2
            go_end0
            exact ⟨⟨_, rfl⟩, H8.out⟩
        . by_cases hlt : 1 < targets
          . have HX := lh (fun W hj => show Calls Tryz.prog Fn #[.pointer (some ⟨pb, 15, none⟩)] W (fun e W' => (∃ v, e = .returned v) /\ J 8 W') from HN.out 7 W (by decide) (by decide) (by simp [FormV.want]; omega) hj)
            go_wp2_with ((with_reducible refine (HX.out _ hj.out).mono ?_); rintro e w1 ⟨⟨v, rfl⟩, hj1⟩; have HY := lh hj1; clear hj1)
            go_roundw
            case rel => exact .inr (.inr ⟨rfl, by omega, HY⟩)
            case measure => simp [intOf]
          . have H8 := lh (HS.out 7 _ (by decide) (by simp [FormV.want]; omega) hj.out)
            go_wp2
            go_end0
            exact ⟨⟨_, rfl⟩, H8.out⟩
        . subst h2
          go_wp2
          go_end0
          exact ⟨⟨_, rfl⟩, hj.out⟩
theorem visit_1 (f : FormV) (Fn Fo pb : Nat) (cb : Nat) (J : Nat -> World -> Prop) (w : World) (ht : 0 <= f.targets /\ f.targets <= 2)
 (hEn : ∀ args w, (callFunc Fn args).run Tryz.prog w = .ok (.enter Fn args) w) (hEo : ∀ args w, (callFunc Fo args).run Tryz.prog w = .ok (.enter Fo args) w)
 (h0 : J 0 (w.alloc (.cells #[.string ⟨f.word⟩, .int .u32 f.subs, f.table, .bool f.d, .bool f.a, .bool f.b, .bool f.c, f.targets] 117)))
 (hB : ∀ s W, J s W -> BoxFm W w.heap.size f)
 (hS : ∀ s W, s < 8 -> f.want s = false -> J s W -> J (s + 1) W)
 (hN : ∀ s W, s < 8 -> numS s = true -> f.want s = true -> J s W -> Calls Tryz.prog Fn #[.pointer (some ⟨pb, offS s, none⟩), .pointer (some ⟨cb, 0, none⟩)] W fun e W' => (∃ v, e = .returned v) /\ J (s + 1) W')
 (hO : ∀ s W, s < 8 -> numS s = false -> f.want s = true -> J s W -> Calls Tryz.prog Fo #[.pointer (some ⟨pb, offS s, none⟩), .pointer (some ⟨cb, 0, none⟩)] W fun e W' => (∃ v, e = .returned v) /\ J (s + 1) W') :
 Calls Tryz.prog 123 #[f.val, .pointer (some ⟨pb, 0, none⟩), .func (.func Fn) #[] #[.pointer (some ⟨cb, 0, none⟩)], .func (.func Fo) #[] #[.pointer (some ⟨cb, 0, none⟩)]] w fun e w' => (∃ v, e = .returned v) /\ J 8 w' := by
 have HB := lh hB; have HS := lh hS; have HN := lh hN; have HO := lh hO; have H0 := lh h0
 clear hB hS hN hO h0
 obtain ⟨word, subs, table, d, a, b, c, targets⟩ := f
 simp only [FormV.val] at ht H0 ⊢
 obtain ⟨ht0, ht2⟩ := ht
 go_enter Tryz.func123, Tryz.ntmps123
 go_upto_if 11 with fail
 go_cut [0] from 11 (fun v0 wx => J 1 wx)
 case first =>
  by_cases hq : subs = 0
  . have hq1 : (subs != 0) = false := by simpa using hq
    have HX := lh (HS.out 0 _ (by decide) (by simpa [FormV.want] using hq) H0.out)
    clear hq
    go_wp2
    go_meet
    exact HX.out
  . have hq1 : (subs != 0) = true := by simpa using hq
    have HX := lh (fun W hj => show Calls Tryz.prog Fn #[.pointer (some ⟨pb, 0, none⟩), .pointer (some ⟨cb, 0, none⟩)] W (fun e W' => (∃ v, e = .returned v) /\ J 1 W') from HN.out 0 W (by decide) (by decide) (by simpa [FormV.want] using hq) hj)
    clear hq
    go_wp2_with ((with_reducible refine (HX.out _ H0.out).mono ?_); rintro e w1 ⟨⟨v, rfl⟩, hj1⟩; have HY := lh hj1; clear hj1)
    go_meet
    exact HY.out
 case rest =>
  have HJ1 := lh hcut
  obtain ⟨m1, m2, m3, m4, m5, m6, m7⟩ := HB.out 1 _ hcut
  clear hcut
  simp only at m1 m2 m3 m4 m5 m6 m7
  try clear H0
  go_upto_if 19 with fail
  go_cut [] from 19 (fun wx => J 2 wx)
  case first =>
   by_cases hq : table = 0
   . have hq1 : (table != 0) = false := by simpa using hq
     have HX := lh (HS.out 1 _ (by decide) (by simpa [FormV.want] using hq) HJ1.out)
     clear hq
     go_wp2
     go_meet
     exact HX.out
   . have hq1 : (table != 0) = true := by simpa using hq
     have HX := lh (fun W hj => show Calls Tryz.prog Fn #[.pointer (some ⟨pb, 1, none⟩), .pointer (some ⟨cb, 0, none⟩)] W (fun e W' => (∃ v, e = .returned v) /\ J 2 W') from HN.out 1 W (by decide) (by decide) (by simpa [FormV.want] using hq) hj)
     clear hq
     go_wp2_with ((with_reducible refine (HX.out _ HJ1.out).mono ?_); rintro e w1 ⟨⟨v, rfl⟩, hj1⟩; have HY := lh hj1; clear hj1)
     go_meet
     exact HY.out
  case rest =>
   have HJ2 := lh hcut
   obtain ⟨m1, m2, m3, m4, m5, m6, m7⟩ := HB.out 2 _ hcut
   clear hcut
   simp only at m1 m2 m3 m4 m5 m6 m7
   try clear HJ1
   go_upto_if 26 with fail
   go_cut [] from 26 (fun wx => J 3 wx)
   case first =>
    cases hq : d
    . have hq1 : d = false := hq
      have HX := lh (HS.out 2 _ (by decide) (by simpa [FormV.want] using hq) HJ2.out)
      clear hq
      go_wp2
      go_meet
      exact HX.out
    . have hq1 : d = true := hq
      have HX := lh (fun W hj => show Calls Tryz.prog Fo #[.pointer (some ⟨pb, 2, none⟩), .pointer (some ⟨cb, 0, none⟩)] W (fun e W' => (∃ v, e = .returned v) /\ J 3 W') from HO.out 2 W (by decide) (by decide) (by simpa [FormV.want] using hq) hj)
      clear hq
      go_wp2_with ((with_reducible refine (HX.out _ HJ2.out).mono ?_); rintro e w1 ⟨⟨v, rfl⟩, hj1⟩; have HY := lh hj1; clear hj1)
      go_meet
      exact HY.out
   case rest =>
    have HJ3 := lh hcut
    obtain ⟨m1, m2, m3, m4, m5, m6, m7⟩ := HB.out 3 _ hcut
    clear hcut
    simp only at m1 m2 m3 m4 m5 m6 m7
    try clear HJ2
    go_upto_if 33 with fail
    go_cut [] from 33 (fun wx => J 4 wx)
    case first =>
     cases hq : a
     . have hq1 : a = false := hq
       have HX := lh (HS.out 3 _ (by decide) (by simpa [FormV.want] using hq) HJ3.out)
       clear hq
       go_wp2
       go_meet
       exact HX.out
     . have hq1 : a = true := hq
       have HX := lh (fun W hj => show Calls Tryz.prog Fo #[.pointer (some ⟨pb, 5, none⟩), .pointer (some ⟨cb, 0, none⟩)] W (fun e W' => (∃ v, e = .returned v) /\ J 4 W') from HO.out 3 W (by decide) (by decide) (by simpa [FormV.want] using hq) hj)
       clear hq
       go_wp2_with ((with_reducible refine (HX.out _ HJ3.out).mono ?_); rintro e w1 ⟨⟨v, rfl⟩, hj1⟩; have HY := lh hj1; clear hj1)
       go_meet
       exact HY.out
    case rest =>
     have HJ4 := lh hcut
     obtain ⟨m1, m2, m3, m4, m5, m6, m7⟩ := HB.out 4 _ hcut
     clear hcut
     simp only at m1 m2 m3 m4 m5 m6 m7
     try clear HJ3
     go_upto_if 40 with fail
     go_cut [] from 40 (fun wx => J 5 wx)
     case first =>
      cases hq : b
      . have hq1 : b = false := hq
        have HX := lh (HS.out 4 _ (by decide) (by simpa [FormV.want] using hq) HJ4.out)
        clear hq
        go_wp2
        go_meet
        exact HX.out
      . have hq1 : b = true := hq
        have HX := lh (fun W hj => show Calls Tryz.prog Fo #[.pointer (some ⟨pb, 8, none⟩), .pointer (some ⟨cb, 0, none⟩)] W (fun e W' => (∃ v, e = .returned v) /\ J 5 W') from HO.out 4 W (by decide) (by decide) (by simpa [FormV.want] using hq) hj)
        clear hq
        go_wp2_with ((with_reducible refine (HX.out _ HJ4.out).mono ?_); rintro e w1 ⟨⟨v, rfl⟩, hj1⟩; have HY := lh hj1; clear hj1)
        go_meet
        exact HY.out
     case rest =>
      have HJ5 := lh hcut
      obtain ⟨m1, m2, m3, m4, m5, m6, m7⟩ := HB.out 5 _ hcut
      clear hcut
      simp only at m1 m2 m3 m4 m5 m6 m7
      try clear HJ4
      go_upto_if 47 with fail
      go_cut [] from 47 (fun wx => J 6 wx)
      case first =>
       cases hq : c
       . have hq1 : c = false := hq
         have HX := lh (HS.out 5 _ (by decide) (by simpa [FormV.want] using hq) HJ5.out)
         clear hq
         go_wp2
         go_meet
         exact HX.out
       . have hq1 : c = true := hq
         have HX := lh (fun W hj => show Calls Tryz.prog Fo #[.pointer (some ⟨pb, 11, none⟩), .pointer (some ⟨cb, 0, none⟩)] W (fun e W' => (∃ v, e = .returned v) /\ J 6 W') from HO.out 5 W (by decide) (by decide) (by simpa [FormV.want] using hq) hj)
         clear hq
         go_wp2_with ((with_reducible refine (HX.out _ HJ5.out).mono ?_); rintro e w1 ⟨⟨v, rfl⟩, hj1⟩; have HY := lh hj1; clear hj1)
         go_meet
         exact HY.out
      case rest =>
       have HJ6 := lh hcut
       obtain ⟨m1, m2, m3, m4, m5, m6, m7⟩ := HB.out 6 _ hcut
       clear hcut
       simp only at m1 m2 m3 m4 m5 m6 m7
       try clear HJ5
       go_wp2
       go_loopw [8, 55] (fun j i wr => (i = .int .i64 0 /\ Hid (J 6 wr)) \/ (i = .int .i64 1 /\ 1 <= targets /\ Hid (J 7 wr)) \/ (i = .int .i64 2 /\ targets = 2 /\ Hid (J 8 wr))) (fun _ i _ => 3 - (intOf i).toNat)
       case atStart => exact .inl ⟨rfl, HJ6⟩
       case round =>
        rcases hrel with ⟨rfl, hj⟩ | ⟨rfl, h1, hj⟩ | ⟨rfl, h2, hj⟩
        . by_cases hlt : 0 < targets
          . have HX := lh (fun W hj => show Calls Tryz.prog Fn #[.pointer (some ⟨pb, 14, none⟩), .pointer (some ⟨cb, 0, none⟩)] W (fun e W' => (∃ v, e = .returned v) /\ J 7 W') from HN.out 6 W (by decide) (by decide) (by simp [FormV.want]; omega) hj)
            go_wp2_with ((with_reducible refine (HX.out _ hj.out).mono ?_); rintro e w1 ⟨⟨v, rfl⟩, hj1⟩; have HY := lh hj1; clear hj1)
            go_roundw
            case rel => exact .inr (.inl ⟨rfl, by omega, HY⟩)
            case measure => simp [intOf]
          . have H7 := HS.out 6 _ (by decide) (by simp [FormV.want]; omega) hj.out
            have H8 := lh (HS.out 7 _ (by decide) (by simp [FormV.want]; omega) H7)
            clear H7
            go_wp2
            go_end0
            exact ⟨⟨_, rfl⟩, H8.out⟩
        . by_cases hlt : 1 < targets
          . have HX := lh (fun W hj => show Calls Tryz.prog Fn #[.pointer (some ⟨pb, 15, none⟩), .pointer (some ⟨cb, 0, none⟩)] W (fun e W' => (∃ v, e = .returned v) /\ J 8 W') from HN.out 7 W (by decide) (by decide) (by simp [FormV.want]; omega) hj)
            go_wp2_with ((with_reducible refine (HX.out _ hj.out).mono ?_); rintro e w1 ⟨⟨v, rfl⟩, hj1⟩; have HY := lh hj1; clear hj1)
            go_roundw
            case rel => exact .inr (.inr ⟨rfl, by omega, HY⟩)
            case measure => simp [intOf]
          . have H8 := lh (HS.out 7 _ (by decide) (by simp [FormV.want]; omega) hj.out)
            go_wp2
            go_end0
            exact ⟨⟨_, rfl⟩, H8.out⟩
        . subst h2
          go_wp2
          go_end0
          exact ⟨⟨_, rfl⟩, hj.out⟩
end Go.Proofs.YtkncilgmlkeifaaGreatDoor
