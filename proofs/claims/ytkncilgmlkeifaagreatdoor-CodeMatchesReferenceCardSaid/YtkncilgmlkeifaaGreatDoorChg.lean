import Derived.Test.YtkncilgmlkeifaaGreatDoorChk
/-
  CodeMatchesReference: the contracts of changedInst and changedTerm.
-/
set_option linter.unusedVariables false
set_option linter.unusedSimpArgs false
set_option maxRecDepth 100000
set_option maxHeartbeats 8000000
namespace Go.Proofs.YtkncilgmlkeifaaGreatDoor
open Go.ChangeShapes Go.WideShapes Go.ChangeAt Go.RowKit Go.Shelf
def chgI (r y : Int) (o : OpdV) (i : InstV) : InstV :=
 if r = 0 then { i with op := y } else if r = 1 then { i with sub := y } else if r = 2 then { i with n := y } else if r = 3 then { i with d := o } else if r = 4 then { i with a := o } else if r = 5 then { i with b := o } else if r = 6 then { i with c := o } else { i with a := { i.a with n := y } }
def chgT (r y : Int) (o : OpdV) (t : TermV) : TermV :=
 if r = 0 then { t with kind := y } else if r = 1 then { t with sub := y } else if r = 2 then { t with d := o } else if r = 3 then { t with a := o } else if r = 4 then { t with b := o } else if r = 5 then { t with t0 := y } else { t with t1 := y }
theorem chgI_0 (i : InstV) (pt a0 a1 y ok on ov q : Int) (nm : ByteArray) (w : World) (hq : Int.tdiv pt 16 = q) (hr : q % 256 % 8 = 0) :
 Calls Tryz.prog 45 #[i.val, .agg #[.int .u8 pt, .int .u8 a0, .int .u8 a1, y, .string nm, ok, on, .int .i32 ov]] w fun e w' => e = .returned (chgI 0 y ⟨ok, on, ov⟩ i).val /\ Below w.heap.size w w' := by
 obtain ⟨op, sb, n, ⟨dk, dn, dv⟩, ⟨ak, an, av⟩, ⟨bk, bn, bv⟩, ⟨ck, cn, cv⟩⟩ := i
 have HB := lh (show ∀ o1 o2 o3, Below w.heap.size w (((w.alloc o1).alloc o2).alloc o3) from fun o1 o2 o3 => (((Below.refl _ _).alloc (Nat.le_refl _) _).alloc (by simp) _).alloc (by simp; omega) _)
 have HV : (chgI 0 y ⟨ok, on, ov⟩ ⟨op, sb, n, ⟨dk, dn, dv⟩, ⟨ak, an, av⟩, ⟨bk, bn, bv⟩, ⟨ck, cn, cv⟩⟩).val = .agg #[y, sb, n, dk, dn, .int .i32 dv, ak, an, .int .i32 av, bk, bn, .int .i32 bv, ck, cn, .int .i32 cv] := by simp [chgI, InstV.val]
 rw [HV]
 clear HV
 simp only [InstV.val]
 go_enter Tryz.func45, Tryz.ntmps45
 go_wp2
 refine bodyPost_ret (v := .agg #[y, sb, n, dk, dn, .int .i32 dv, ak, an, .int .i32 av, bk, bn, .int .i32 bv, ck, cn, .int .i32 cv]) (by simp [results, Tryz.results45, go_sem]) rfl ⟨rfl, HB.out _ _ _⟩
theorem chgI_1 (i : InstV) (pt a0 a1 y ok on ov q : Int) (nm : ByteArray) (w : World) (hq : Int.tdiv pt 16 = q) (hr : q % 256 % 8 = 1) :
 Calls Tryz.prog 45 #[i.val, .agg #[.int .u8 pt, .int .u8 a0, .int .u8 a1, y, .string nm, ok, on, .int .i32 ov]] w fun e w' => e = .returned (chgI 1 y ⟨ok, on, ov⟩ i).val /\ Below w.heap.size w w' := by
 obtain ⟨op, sb, n, ⟨dk, dn, dv⟩, ⟨ak, an, av⟩, ⟨bk, bn, bv⟩, ⟨ck, cn, cv⟩⟩ := i
 have HB := lh (show ∀ o1 o2 o3, Below w.heap.size w (((w.alloc o1).alloc o2).alloc o3) from fun o1 o2 o3 => (((Below.refl _ _).alloc (Nat.le_refl _) _).alloc (by simp) _).alloc (by simp; omega) _)
 have HV : (chgI 1 y ⟨ok, on, ov⟩ ⟨op, sb, n, ⟨dk, dn, dv⟩, ⟨ak, an, av⟩, ⟨bk, bn, bv⟩, ⟨ck, cn, cv⟩⟩).val = .agg #[op, y, n, dk, dn, .int .i32 dv, ak, an, .int .i32 av, bk, bn, .int .i32 bv, ck, cn, .int .i32 cv] := by simp [chgI, InstV.val]
 rw [HV]
 clear HV
 simp only [InstV.val]
 go_enter Tryz.func45, Tryz.ntmps45
 go_wp2
 refine bodyPost_ret (v := .agg #[op, y, n, dk, dn, .int .i32 dv, ak, an, .int .i32 av, bk, bn, .int .i32 bv, ck, cn, .int .i32 cv]) (by simp [results, Tryz.results45, go_sem]) rfl ⟨rfl, HB.out _ _ _⟩
theorem chgI_2 (i : InstV) (pt a0 a1 y ok on ov q : Int) (nm : ByteArray) (w : World) (hq : Int.tdiv pt 16 = q) (hr : q % 256 % 8 = 2) :
 Calls Tryz.prog 45 #[i.val, .agg #[.int .u8 pt, .int .u8 a0, .int .u8 a1, y, .string nm, ok, on, .int .i32 ov]] w fun e w' => e = .returned (chgI 2 y ⟨ok, on, ov⟩ i).val /\ Below w.heap.size w w' := by
 obtain ⟨op, sb, n, ⟨dk, dn, dv⟩, ⟨ak, an, av⟩, ⟨bk, bn, bv⟩, ⟨ck, cn, cv⟩⟩ := i
 have HB := lh (show ∀ o1 o2 o3, Below w.heap.size w (((w.alloc o1).alloc o2).alloc o3) from fun o1 o2 o3 => (((Below.refl _ _).alloc (Nat.le_refl _) _).alloc (by simp) _).alloc (by simp; omega) _)
 have HV : (chgI 2 y ⟨ok, on, ov⟩ ⟨op, sb, n, ⟨dk, dn, dv⟩, ⟨ak, an, av⟩, ⟨bk, bn, bv⟩, ⟨ck, cn, cv⟩⟩).val = .agg #[op, sb, y, dk, dn, .int .i32 dv, ak, an, .int .i32 av, bk, bn, .int .i32 bv, ck, cn, .int .i32 cv] := by simp [chgI, InstV.val]
 rw [HV]
 clear HV
 simp only [InstV.val]
 go_enter Tryz.func45, Tryz.ntmps45
 go_wp2
 refine bodyPost_ret (v := .agg #[op, sb, y, dk, dn, .int .i32 dv, ak, an, .int .i32 av, bk, bn, .int .i32 bv, ck, cn, .int .i32 cv]) (by simp [results, Tryz.results45, go_sem]) rfl ⟨rfl, HB.out _ _ _⟩
theorem chgI_3 (i : InstV) (pt a0 a1 y ok on ov q : Int) (nm : ByteArray) (w : World) (hq : Int.tdiv pt 16 = q) (hr : q % 256 % 8 = 3) :
 Calls Tryz.prog 45 #[i.val, .agg #[.int .u8 pt, .int .u8 a0, .int .u8 a1, y, .string nm, ok, on, .int .i32 ov]] w fun e w' => e = .returned (chgI 3 y ⟨ok, on, ov⟩ i).val /\ Below w.heap.size w w' := by
 obtain ⟨op, sb, n, ⟨dk, dn, dv⟩, ⟨ak, an, av⟩, ⟨bk, bn, bv⟩, ⟨ck, cn, cv⟩⟩ := i
 have HB := lh (show ∀ o1 o2 o3, Below w.heap.size w (((w.alloc o1).alloc o2).alloc o3) from fun o1 o2 o3 => (((Below.refl _ _).alloc (Nat.le_refl _) _).alloc (by simp) _).alloc (by simp; omega) _)
 have HV : (chgI 3 y ⟨ok, on, ov⟩ ⟨op, sb, n, ⟨dk, dn, dv⟩, ⟨ak, an, av⟩, ⟨bk, bn, bv⟩, ⟨ck, cn, cv⟩⟩).val = .agg #[op, sb, n, ok, on, .int .i32 ov, ak, an, .int .i32 av, bk, bn, .int .i32 bv, ck, cn, .int .i32 cv] := by simp [chgI, InstV.val]
 rw [HV]
 clear HV
 simp only [InstV.val]
 go_enter Tryz.func45, Tryz.ntmps45
 go_wp2
 refine bodyPost_ret (v := .agg #[op, sb, n, ok, on, .int .i32 ov, ak, an, .int .i32 av, bk, bn, .int .i32 bv, ck, cn, .int .i32 cv]) (by simp [results, Tryz.results45, go_sem]) rfl ⟨rfl, HB.out _ _ _⟩
theorem chgI_4 (i : InstV) (pt a0 a1 y ok on ov q : Int) (nm : ByteArray) (w : World) (hq : Int.tdiv pt 16 = q) (hr : q % 256 % 8 = 4) :
 Calls Tryz.prog 45 #[i.val, .agg #[.int .u8 pt, .int .u8 a0, .int .u8 a1, y, .string nm, ok, on, .int .i32 ov]] w fun e w' => e = .returned (chgI 4 y ⟨ok, on, ov⟩ i).val /\ Below w.heap.size w w' := by
 obtain ⟨op, sb, n, ⟨dk, dn, dv⟩, ⟨ak, an, av⟩, ⟨bk, bn, bv⟩, ⟨ck, cn, cv⟩⟩ := i
 have HB := lh (show ∀ o1 o2 o3, Below w.heap.size w (((w.alloc o1).alloc o2).alloc o3) from fun o1 o2 o3 => (((Below.refl _ _).alloc (Nat.le_refl _) _).alloc (by simp) _).alloc (by simp; omega) _)
 have HV : (chgI 4 y ⟨ok, on, ov⟩ ⟨op, sb, n, ⟨dk, dn, dv⟩, ⟨ak, an, av⟩, ⟨bk, bn, bv⟩, ⟨ck, cn, cv⟩⟩).val = .agg #[op, sb, n, dk, dn, .int .i32 dv, ok, on, .int .i32 ov, bk, bn, .int .i32 bv, ck, cn, .int .i32 cv] := by simp [chgI, InstV.val]
 rw [HV]
 clear HV
 simp only [InstV.val]
 go_enter Tryz.func45, Tryz.ntmps45
 go_wp2
 refine bodyPost_ret (v := .agg #[op, sb, n, dk, dn, .int .i32 dv, ok, on, .int .i32 ov, bk, bn, .int .i32 bv, ck, cn, .int .i32 cv]) (by simp [results, Tryz.results45, go_sem]) rfl ⟨rfl, HB.out _ _ _⟩
theorem chgI_5 (i : InstV) (pt a0 a1 y ok on ov q : Int) (nm : ByteArray) (w : World) (hq : Int.tdiv pt 16 = q) (hr : q % 256 % 8 = 5) :
 Calls Tryz.prog 45 #[i.val, .agg #[.int .u8 pt, .int .u8 a0, .int .u8 a1, y, .string nm, ok, on, .int .i32 ov]] w fun e w' => e = .returned (chgI 5 y ⟨ok, on, ov⟩ i).val /\ Below w.heap.size w w' := by
 obtain ⟨op, sb, n, ⟨dk, dn, dv⟩, ⟨ak, an, av⟩, ⟨bk, bn, bv⟩, ⟨ck, cn, cv⟩⟩ := i
 have HB := lh (show ∀ o1 o2 o3, Below w.heap.size w (((w.alloc o1).alloc o2).alloc o3) from fun o1 o2 o3 => (((Below.refl _ _).alloc (Nat.le_refl _) _).alloc (by simp) _).alloc (by simp; omega) _)
 have HV : (chgI 5 y ⟨ok, on, ov⟩ ⟨op, sb, n, ⟨dk, dn, dv⟩, ⟨ak, an, av⟩, ⟨bk, bn, bv⟩, ⟨ck, cn, cv⟩⟩).val = .agg #[op, sb, n, dk, dn, .int .i32 dv, ak, an, .int .i32 av, ok, on, .int .i32 ov, ck, cn, .int .i32 cv] := by simp [chgI, InstV.val]
 rw [HV]
 clear HV
 simp only [InstV.val]
 go_enter Tryz.func45, Tryz.ntmps45
 go_wp2
 refine bodyPost_ret (v := .agg #[op, sb, n, dk, dn, .int .i32 dv, ak, an, .int .i32 av, ok, on, .int .i32 ov, ck, cn, .int .i32 cv]) (by simp [results, Tryz.results45, go_sem]) rfl ⟨rfl, HB.out _ _ _⟩
theorem chgI_6 (i : InstV) (pt a0 a1 y ok on ov q : Int) (nm : ByteArray) (w : World) (hq : Int.tdiv pt 16 = q) (hr : q % 256 % 8 = 6) :
 Calls Tryz.prog 45 #[i.val, .agg #[.int .u8 pt, .int .u8 a0, .int .u8 a1, y, .string nm, ok, on, .int .i32 ov]] w fun e w' => e = .returned (chgI 6 y ⟨ok, on, ov⟩ i).val /\ Below w.heap.size w w' := by
 obtain ⟨op, sb, n, ⟨dk, dn, dv⟩, ⟨ak, an, av⟩, ⟨bk, bn, bv⟩, ⟨ck, cn, cv⟩⟩ := i
 have HB := lh (show ∀ o1 o2 o3, Below w.heap.size w (((w.alloc o1).alloc o2).alloc o3) from fun o1 o2 o3 => (((Below.refl _ _).alloc (Nat.le_refl _) _).alloc (by simp) _).alloc (by simp; omega) _)
 have HV : (chgI 6 y ⟨ok, on, ov⟩ ⟨op, sb, n, ⟨dk, dn, dv⟩, ⟨ak, an, av⟩, ⟨bk, bn, bv⟩, ⟨ck, cn, cv⟩⟩).val = .agg #[op, sb, n, dk, dn, .int .i32 dv, ak, an, .int .i32 av, bk, bn, .int .i32 bv, ok, on, .int .i32 ov] := by simp [chgI, InstV.val]
 rw [HV]
 clear HV
 simp only [InstV.val]
 go_enter Tryz.func45, Tryz.ntmps45
 go_wp2
 refine bodyPost_ret (v := .agg #[op, sb, n, dk, dn, .int .i32 dv, ak, an, .int .i32 av, bk, bn, .int .i32 bv, ok, on, .int .i32 ov]) (by simp [results, Tryz.results45, go_sem]) rfl ⟨rfl, HB.out _ _ _⟩
theorem chgI_7 (i : InstV) (pt a0 a1 y ok on ov q r : Int) (nm : ByteArray) (w : World) (hq : Int.tdiv pt 16 = q) (hr : q % 256 % 8 = r) (h0 : r ≠ 0) (h1 : r ≠ 1) (h2 : r ≠ 2) (h3 : r ≠ 3) (h4 : r ≠ 4) (h5 : r ≠ 5) (h6 : r ≠ 6) :
 Calls Tryz.prog 45 #[i.val, .agg #[.int .u8 pt, .int .u8 a0, .int .u8 a1, y, .string nm, ok, on, .int .i32 ov]] w fun e w' => e = .returned (chgI r y ⟨ok, on, ov⟩ i).val /\ Below w.heap.size w w' := by
 obtain ⟨op, sb, n, ⟨dk, dn, dv⟩, ⟨ak, an, av⟩, ⟨bk, bn, bv⟩, ⟨ck, cn, cv⟩⟩ := i
 have HB := lh (show ∀ o1 o2 o3, Below w.heap.size w (((w.alloc o1).alloc o2).alloc o3) from fun o1 o2 o3 => (((Below.refl _ _).alloc (Nat.le_refl _) _).alloc (by simp) _).alloc (by simp; omega) _)
 have e0 : (r == 0) = false := by simpa using h0
 have e1 : (r == 1) = false := by simpa using h1
 have e2 : (r == 2) = false := by simpa using h2
 have e3 : (r == 3) = false := by simpa using h3
 have e4 : (r == 4) = false := by simpa using h4
 have e5 : (r == 5) = false := by simpa using h5
 have e6 : (r == 6) = false := by simpa using h6
 have HV : (chgI r y ⟨ok, on, ov⟩ ⟨op, sb, n, ⟨dk, dn, dv⟩, ⟨ak, an, av⟩, ⟨bk, bn, bv⟩, ⟨ck, cn, cv⟩⟩).val = .agg #[op, sb, n, dk, dn, .int .i32 dv, ak, y, .int .i32 av, bk, bn, .int .i32 bv, ck, cn, .int .i32 cv] := by simp [chgI, InstV.val, h0, h1, h2, h3, h4, h5, h6]
 rw [HV]
 clear HV h0 h1 h2 h3 h4 h5 h6
 simp only [InstV.val]
 go_enter Tryz.func45, Tryz.ntmps45
 go_wp2
 refine bodyPost_ret (v := .agg #[op, sb, n, dk, dn, .int .i32 dv, ak, y, .int .i32 av, bk, bn, .int .i32 bv, ck, cn, .int .i32 cv]) (by simp [results, Tryz.results45, go_sem]) rfl ⟨rfl, HB.out _ _ _⟩
theorem chgI_any (i : InstV) (pt a0 a1 y ok on ov : Int) (nm : ByteArray) (w : World) (hpt : 0 <= pt /\ pt <= 255) :
 Calls Tryz.prog 45 #[i.val, .agg #[.int .u8 pt, .int .u8 a0, .int .u8 a1, y, .string nm, ok, on, .int .i32 ov]] w fun e w' => e = .returned (chgI (Int.tmod (Int.tdiv pt 16) 8) y ⟨ok, on, ov⟩ i).val /\ Below w.heap.size w w' := by
 obtain ⟨q, hq⟩ : ∃ q, Int.tdiv pt 16 = q := ⟨_, rfl⟩
 obtain ⟨r, hr⟩ : ∃ r, Int.tmod q 8 = r := ⟨_, rfl⟩
 rw [hq, hr]
 have hq0 : 0 <= q /\ q <= 255 := by
  rw [<- hq, Int.tdiv_eq_ediv_of_nonneg hpt.1]
  omega
 have hr' : q % 256 % 8 = r := by
  rw [<- hr, Int.tmod_eq_emod_of_nonneg hq0.1]
  omega
 clear hr
 by_cases h0 : r = 0
 . subst h0
   exact chgI_0 _ _ _ _ _ _ _ _ _ _ _ hq hr'
 by_cases h1 : r = 1
 . subst h1
   exact chgI_1 _ _ _ _ _ _ _ _ _ _ _ hq hr'
 by_cases h2 : r = 2
 . subst h2
   exact chgI_2 _ _ _ _ _ _ _ _ _ _ _ hq hr'
 by_cases h3 : r = 3
 . subst h3
   exact chgI_3 _ _ _ _ _ _ _ _ _ _ _ hq hr'
 by_cases h4 : r = 4
 . subst h4
   exact chgI_4 _ _ _ _ _ _ _ _ _ _ _ hq hr'
 by_cases h5 : r = 5
 . subst h5
   exact chgI_5 _ _ _ _ _ _ _ _ _ _ _ hq hr'
 by_cases h6 : r = 6
 . subst h6
   exact chgI_6 _ _ _ _ _ _ _ _ _ _ _ hq hr'
 exact chgI_7 _ _ _ _ _ _ _ _ _ _ _ _ hq hr' h0 h1 h2 h3 h4 h5 h6
theorem chgT_0 (t : TermV) (pt a0 a1 y ok on ov q : Int) (nm : ByteArray) (w : World) (hq : Int.tdiv pt 16 = q) (hr : q % 256 % 7 = 0) :
 Calls Tryz.prog 44 #[t.val, .agg #[.int .u8 pt, .int .u8 a0, .int .u8 a1, y, .string nm, ok, on, .int .i32 ov]] w fun e w' => e = .returned (chgT 0 y ⟨ok, on, ov⟩ t).val /\ Below w.heap.size w w' := by
 obtain ⟨k, sb, ⟨dk, dn, dv⟩, ⟨ak, an, av⟩, ⟨bk, bn, bv⟩, t0, t1⟩ := t
 have HB := lh (show ∀ o1 o2 o3, Below w.heap.size w (((w.alloc o1).alloc o2).alloc o3) from fun o1 o2 o3 => (((Below.refl _ _).alloc (Nat.le_refl _) _).alloc (by simp) _).alloc (by simp; omega) _)
 have HV : (chgT 0 y ⟨ok, on, ov⟩ ⟨k, sb, ⟨dk, dn, dv⟩, ⟨ak, an, av⟩, ⟨bk, bn, bv⟩, t0, t1⟩).val = .agg #[y, sb, dk, dn, .int .i32 dv, ak, an, .int .i32 av, bk, bn, .int .i32 bv, t0, t1] := by simp [chgT, TermV.val]
 rw [HV]
 clear HV
 simp only [TermV.val]
 go_enter Tryz.func44, Tryz.ntmps44
 go_wp2
 refine bodyPost_ret (v := .agg #[y, sb, dk, dn, .int .i32 dv, ak, an, .int .i32 av, bk, bn, .int .i32 bv, t0, t1]) (by simp [results, Tryz.results44, go_sem]) rfl ⟨rfl, HB.out _ _ _⟩
theorem chgT_1 (t : TermV) (pt a0 a1 y ok on ov q : Int) (nm : ByteArray) (w : World) (hq : Int.tdiv pt 16 = q) (hr : q % 256 % 7 = 1) :
 Calls Tryz.prog 44 #[t.val, .agg #[.int .u8 pt, .int .u8 a0, .int .u8 a1, y, .string nm, ok, on, .int .i32 ov]] w fun e w' => e = .returned (chgT 1 y ⟨ok, on, ov⟩ t).val /\ Below w.heap.size w w' := by
 obtain ⟨k, sb, ⟨dk, dn, dv⟩, ⟨ak, an, av⟩, ⟨bk, bn, bv⟩, t0, t1⟩ := t
 have HB := lh (show ∀ o1 o2 o3, Below w.heap.size w (((w.alloc o1).alloc o2).alloc o3) from fun o1 o2 o3 => (((Below.refl _ _).alloc (Nat.le_refl _) _).alloc (by simp) _).alloc (by simp; omega) _)
 have HV : (chgT 1 y ⟨ok, on, ov⟩ ⟨k, sb, ⟨dk, dn, dv⟩, ⟨ak, an, av⟩, ⟨bk, bn, bv⟩, t0, t1⟩).val = .agg #[k, y, dk, dn, .int .i32 dv, ak, an, .int .i32 av, bk, bn, .int .i32 bv, t0, t1] := by simp [chgT, TermV.val]
 rw [HV]
 clear HV
 simp only [TermV.val]
 go_enter Tryz.func44, Tryz.ntmps44
 go_wp2
 refine bodyPost_ret (v := .agg #[k, y, dk, dn, .int .i32 dv, ak, an, .int .i32 av, bk, bn, .int .i32 bv, t0, t1]) (by simp [results, Tryz.results44, go_sem]) rfl ⟨rfl, HB.out _ _ _⟩
theorem chgT_2 (t : TermV) (pt a0 a1 y ok on ov q : Int) (nm : ByteArray) (w : World) (hq : Int.tdiv pt 16 = q) (hr : q % 256 % 7 = 2) :
 Calls Tryz.prog 44 #[t.val, .agg #[.int .u8 pt, .int .u8 a0, .int .u8 a1, y, .string nm, ok, on, .int .i32 ov]] w fun e w' => e = .returned (chgT 2 y ⟨ok, on, ov⟩ t).val /\ Below w.heap.size w w' := by
 obtain ⟨k, sb, ⟨dk, dn, dv⟩, ⟨ak, an, av⟩, ⟨bk, bn, bv⟩, t0, t1⟩ := t
 have HB := lh (show ∀ o1 o2 o3, Below w.heap.size w (((w.alloc o1).alloc o2).alloc o3) from fun o1 o2 o3 => (((Below.refl _ _).alloc (Nat.le_refl _) _).alloc (by simp) _).alloc (by simp; omega) _)
 have HV : (chgT 2 y ⟨ok, on, ov⟩ ⟨k, sb, ⟨dk, dn, dv⟩, ⟨ak, an, av⟩, ⟨bk, bn, bv⟩, t0, t1⟩).val = .agg #[k, sb, ok, on, .int .i32 ov, ak, an, .int .i32 av, bk, bn, .int .i32 bv, t0, t1] := by simp [chgT, TermV.val]
 rw [HV]
 clear HV
 simp only [TermV.val]
 go_enter Tryz.func44, Tryz.ntmps44
 go_wp2
 refine bodyPost_ret (v := .agg #[k, sb, ok, on, .int .i32 ov, ak, an, .int .i32 av, bk, bn, .int .i32 bv, t0, t1]) (by simp [results, Tryz.results44, go_sem]) rfl ⟨rfl, HB.out _ _ _⟩
theorem chgT_3 (t : TermV) (pt a0 a1 y ok on ov q : Int) (nm : ByteArray) (w : World) (hq : Int.tdiv pt 16 = q) (hr : q % 256 % 7 = 3) :
 Calls Tryz.prog 44 #[t.val, .agg #[.int .u8 pt, .int .u8 a0, .int .u8 a1, y, .string nm, ok, on, .int .i32 ov]] w fun e w' => e = .returned (chgT 3 y ⟨ok, on, ov⟩ t).val /\ Below w.heap.size w w' := by
 obtain ⟨k, sb, ⟨dk, dn, dv⟩, ⟨ak, an, av⟩, ⟨bk, bn, bv⟩, t0, t1⟩ := t
 have HB := lh (show ∀ o1 o2 o3, Below w.heap.size w (((w.alloc o1).alloc o2).alloc o3) from fun o1 o2 o3 => (((Below.refl _ _).alloc (Nat.le_refl _) _).alloc (by simp) _).alloc (by simp; omega) _)
 have HV : (chgT 3 y ⟨ok, on, ov⟩ ⟨k, sb, ⟨dk, dn, dv⟩, ⟨ak, an, av⟩, ⟨bk, bn, bv⟩, t0, t1⟩).val = .agg #[k, sb, dk, dn, .int .i32 dv, ok, on, .int .i32 ov, bk, bn, .int .i32 bv, t0, t1] := by simp [chgT, TermV.val]
 rw [HV]
 clear HV
 simp only [TermV.val]
 go_enter Tryz.func44, Tryz.ntmps44
 go_wp2
 refine bodyPost_ret (v := .agg #[k, sb, dk, dn, .int .i32 dv, ok, on, .int .i32 ov, bk, bn, .int .i32 bv, t0, t1]) (by simp [results, Tryz.results44, go_sem]) rfl ⟨rfl, HB.out _ _ _⟩
theorem chgT_4 (t : TermV) (pt a0 a1 y ok on ov q : Int) (nm : ByteArray) (w : World) (hq : Int.tdiv pt 16 = q) (hr : q % 256 % 7 = 4) :
 Calls Tryz.prog 44 #[t.val, .agg #[.int .u8 pt, .int .u8 a0, .int .u8 a1, y, .string nm, ok, on, .int .i32 ov]] w fun e w' => e = .returned (chgT 4 y ⟨ok, on, ov⟩ t).val /\ Below w.heap.size w w' := by
 obtain ⟨k, sb, ⟨dk, dn, dv⟩, ⟨ak, an, av⟩, ⟨bk, bn, bv⟩, t0, t1⟩ := t
 have HB := lh (show ∀ o1 o2 o3, Below w.heap.size w (((w.alloc o1).alloc o2).alloc o3) from fun o1 o2 o3 => (((Below.refl _ _).alloc (Nat.le_refl _) _).alloc (by simp) _).alloc (by simp; omega) _)
 have HV : (chgT 4 y ⟨ok, on, ov⟩ ⟨k, sb, ⟨dk, dn, dv⟩, ⟨ak, an, av⟩, ⟨bk, bn, bv⟩, t0, t1⟩).val = .agg #[k, sb, dk, dn, .int .i32 dv, ak, an, .int .i32 av, ok, on, .int .i32 ov, t0, t1] := by simp [chgT, TermV.val]
 rw [HV]
 clear HV
 simp only [TermV.val]
 go_enter Tryz.func44, Tryz.ntmps44
 go_wp2
 refine bodyPost_ret (v := .agg #[k, sb, dk, dn, .int .i32 dv, ak, an, .int .i32 av, ok, on, .int .i32 ov, t0, t1]) (by simp [results, Tryz.results44, go_sem]) rfl ⟨rfl, HB.out _ _ _⟩
theorem chgT_5 (t : TermV) (pt a0 a1 y ok on ov q : Int) (nm : ByteArray) (w : World) (hq : Int.tdiv pt 16 = q) (hr : q % 256 % 7 = 5) :
 Calls Tryz.prog 44 #[t.val, .agg #[.int .u8 pt, .int .u8 a0, .int .u8 a1, y, .string nm, ok, on, .int .i32 ov]] w fun e w' => e = .returned (chgT 5 y ⟨ok, on, ov⟩ t).val /\ Below w.heap.size w w' := by
 obtain ⟨k, sb, ⟨dk, dn, dv⟩, ⟨ak, an, av⟩, ⟨bk, bn, bv⟩, t0, t1⟩ := t
 have HB := lh (show ∀ o1 o2 o3, Below w.heap.size w (((w.alloc o1).alloc o2).alloc o3) from fun o1 o2 o3 => (((Below.refl _ _).alloc (Nat.le_refl _) _).alloc (by simp) _).alloc (by simp; omega) _)
 have HV : (chgT 5 y ⟨ok, on, ov⟩ ⟨k, sb, ⟨dk, dn, dv⟩, ⟨ak, an, av⟩, ⟨bk, bn, bv⟩, t0, t1⟩).val = .agg #[k, sb, dk, dn, .int .i32 dv, ak, an, .int .i32 av, bk, bn, .int .i32 bv, y, t1] := by simp [chgT, TermV.val]
 rw [HV]
 clear HV
 simp only [TermV.val]
 go_enter Tryz.func44, Tryz.ntmps44
 go_wp2
 refine bodyPost_ret (v := .agg #[k, sb, dk, dn, .int .i32 dv, ak, an, .int .i32 av, bk, bn, .int .i32 bv, y, t1]) (by simp [results, Tryz.results44, go_sem]) rfl ⟨rfl, HB.out _ _ _⟩
theorem chgT_6 (t : TermV) (pt a0 a1 y ok on ov q r : Int) (nm : ByteArray) (w : World) (hq : Int.tdiv pt 16 = q) (hr : q % 256 % 7 = r) (h0 : r ≠ 0) (h1 : r ≠ 1) (h2 : r ≠ 2) (h3 : r ≠ 3) (h4 : r ≠ 4) (h5 : r ≠ 5) :
 Calls Tryz.prog 44 #[t.val, .agg #[.int .u8 pt, .int .u8 a0, .int .u8 a1, y, .string nm, ok, on, .int .i32 ov]] w fun e w' => e = .returned (chgT r y ⟨ok, on, ov⟩ t).val /\ Below w.heap.size w w' := by
 obtain ⟨k, sb, ⟨dk, dn, dv⟩, ⟨ak, an, av⟩, ⟨bk, bn, bv⟩, t0, t1⟩ := t
 have HB := lh (show ∀ o1 o2 o3, Below w.heap.size w (((w.alloc o1).alloc o2).alloc o3) from fun o1 o2 o3 => (((Below.refl _ _).alloc (Nat.le_refl _) _).alloc (by simp) _).alloc (by simp; omega) _)
 have e0 : (r == 0) = false := by simpa using h0
 have e1 : (r == 1) = false := by simpa using h1
 have e2 : (r == 2) = false := by simpa using h2
 have e3 : (r == 3) = false := by simpa using h3
 have e4 : (r == 4) = false := by simpa using h4
 have e5 : (r == 5) = false := by simpa using h5
 have HV : (chgT r y ⟨ok, on, ov⟩ ⟨k, sb, ⟨dk, dn, dv⟩, ⟨ak, an, av⟩, ⟨bk, bn, bv⟩, t0, t1⟩).val = .agg #[k, sb, dk, dn, .int .i32 dv, ak, an, .int .i32 av, bk, bn, .int .i32 bv, t0, y] := by simp [chgT, TermV.val, h0, h1, h2, h3, h4, h5]
 rw [HV]
 clear HV h0 h1 h2 h3 h4 h5
 simp only [TermV.val]
 go_enter Tryz.func44, Tryz.ntmps44
 go_wp2
 refine bodyPost_ret (v := .agg #[k, sb, dk, dn, .int .i32 dv, ak, an, .int .i32 av, bk, bn, .int .i32 bv, t0, y]) (by simp [results, Tryz.results44, go_sem]) rfl ⟨rfl, HB.out _ _ _⟩
theorem chgT_any (t : TermV) (pt a0 a1 y ok on ov : Int) (nm : ByteArray) (w : World) (hpt : 0 <= pt /\ pt <= 255) :
 Calls Tryz.prog 44 #[t.val, .agg #[.int .u8 pt, .int .u8 a0, .int .u8 a1, y, .string nm, ok, on, .int .i32 ov]] w fun e w' => e = .returned (chgT (Int.tmod (Int.tdiv pt 16) 7) y ⟨ok, on, ov⟩ t).val /\ Below w.heap.size w w' := by
 obtain ⟨q, hq⟩ : ∃ q, Int.tdiv pt 16 = q := ⟨_, rfl⟩
 obtain ⟨r, hr⟩ : ∃ r, Int.tmod q 7 = r := ⟨_, rfl⟩
 rw [hq, hr]
 have hq0 : 0 <= q /\ q <= 255 := by
  rw [<- hq, Int.tdiv_eq_ediv_of_nonneg hpt.1]
  omega
 have hr' : q % 256 % 7 = r := by
  rw [<- hr, Int.tmod_eq_emod_of_nonneg hq0.1]
  omega
 clear hr
 by_cases h0 : r = 0
 . subst h0
   exact chgT_0 _ _ _ _ _ _ _ _ _ _ _ hq hr'
 by_cases h1 : r = 1
 . subst h1
   exact chgT_1 _ _ _ _ _ _ _ _ _ _ _ hq hr'
 by_cases h2 : r = 2
 . subst h2
   exact chgT_2 _ _ _ _ _ _ _ _ _ _ _ hq hr'
 by_cases h3 : r = 3
 . subst h3
   exact chgT_3 _ _ _ _ _ _ _ _ _ _ _ hq hr'
 by_cases h4 : r = 4
 . subst h4
   exact chgT_4 _ _ _ _ _ _ _ _ _ _ _ hq hr'
 by_cases h5 : r = 5
 . subst h5
   exact chgT_5 _ _ _ _ _ _ _ _ _ _ _ hq hr'
 exact chgT_6 _ _ _ _ _ _ _ _ _ _ _ _ hq hr' h0 h1 h2 h3 h4 h5
end Go.Proofs.YtkncilgmlkeifaaGreatDoor
