import Derived.Test.YtkncilgmlkeifaaGreatDoorTkp
import Derived.Test.YtkncilgmlkeifaaGreatDoorAll
import Derived.Test.YtkncilgmlkeifaaGreatDoorChk
import Derived.Test.YtkncilgmlkeifaaGreatDoorTxt
import Derived.Deep.LoopGhost
import Derived.Lib.ItoaNum
import Derived.Lib.ItoaLen
import Derived.Laws.BytesArg
import Derived.Deep.RegionHeld3
/-
  The reference's writer: contracts of tail, Number, shown, numbers, Line, End, TextIn.
-/
set_option linter.unusedVariables false
set_option linter.unusedSimpArgs false
set_option maxRecDepth 100000
set_option maxHeartbeats 4000000
namespace Go.Proofs.YtkncilgmlkeifaaGreatDoor
open Go.ChangeShapes Go.WideShapes Go.ChangeAt Go.RowKit
theorem conv1 (w : World) (m : Int) : (convert 22 9 (.slice (some ⟨w.heap.size, 0, none⟩) 1 1)).run Tryz.prog (w.alloc (.cells #[.int .u8 m] 5)) = .ok (.string ⟨#[UInt8.ofNat m.toNat]⟩) (w.alloc (.cells #[.int .u8 m] 5)) := by
 refine (run_convert_bytes_arg (w.alloc (.cells #[.int .u8 m] 5)) 22 5 Tryz.underlying22 Tryz.underlying5 w.heap.size 0 1 1 [m] rfl (fun i hi => ?_) 9 Tryz.underlying9).trans ?_
 . obtain rfl : i = 0 := by omega
   simp
 . simp [strOfNums]
theorem digs_step {u : Nat} (h : ¬ u < 10) : Lib.decDigits u = Lib.decDigits (u / 10) ++ [UInt8.ofNat (48 + u % 10)] := by
 rw [Lib.decDigits, dif_neg h]
theorem digs_one {u : Nat} (h : u < 10) : Lib.decDigits u = [UInt8.ofNat (48 + u)] := by
 rw [Lib.decDigits, dif_pos h]
theorem dec_len20 (q : Int) (h : -9223372036854775808 <= q /\ q <= 9223372036854775807) : (Lib.decDigits q.natAbs).length <= 20 := by
 rw [Lib.decDigits_length]
 exact Lib.nDigits_le20 _ (by omega)
theorem tail_any : ∀ (k : Nat) (n : Int) (w : World), n.natAbs <= k -> -9223372036854775808 <= n /\ n <= 9223372036854775807 -> Calls Tryz.prog 127 #[n] w fun e w' => e = .returned (.string ⟨(Lib.decDigits n.natAbs).toArray⟩) /\ Below w.heap.size w w' := by
 intro k
 induction k with
 | zero =>
  intro n w hk hn
  obtain rfl : n = 0 := by omega
  go_enter Tryz.func127, Tryz.ntmps127
  go_wp2
  rw [conv1]
  go_wp2
  exact bodyPost_ret (v := .string ⟨#[48]⟩) (by simp [results, Tryz.results127, go_sem]) rfl ⟨by rw [show Int.natAbs 0 = 0 from rfl, digs_one (by decide)]; rfl, bo _⟩
 | succ k ih =>
  intro n w hk hn
  obtain ⟨d, hd⟩ : ∃ d, Int.tmod n 10 = d := ⟨_, rfl⟩
  obtain ⟨q, hq⟩ : ∃ q, Int.tdiv n 10 = q := ⟨_, rfl⟩
  have hdq : 10 * q + d = n := by rw [<- hd, <- hq]; exact Int.mul_tdiv_add_tmod n 10
  have hdn : d.natAbs = n.natAbs % 10 := by rw [<- hd]; exact Int.natAbs_tmod n 10
  have hqn : q.natAbs = n.natAbs / 10 := by rw [<- hq]; exact Int.natAbs_tdiv n 10
  have IH := lh (fun W => ih q W (by omega) (by omega))
  clear ih
  have hbd : d.natAbs < 10 := by omega
  have fin : ∀ (e : Int), e = d \/ e = -d -> 0 <= e -> UInt8.ofNat (48 + e).toNat = UInt8.ofNat (48 + n.natAbs % 10) := fun e he h0 => by
   have : (48 + e).toNat = 48 + n.natAbs % 10 := by omega
   rw [this]
  have FIN := lh fin
  have hb : ∀ (W : World) (o : Obj), Below W.heap.size W (W.alloc o) := fun W o => bo o
  clear hdn fin
  by_cases hq0 : q = 0
  . rw [hq0] at hq hdq hqn
    have hn10 : n.natAbs < 10 := by omega
    by_cases h0 : d < 0
    . have HR := lh (show (⟨#[UInt8.ofNat (48 + -d).toNat]⟩ : ByteArray) = ⟨(Lib.decDigits n.natAbs).toArray⟩ by rw [FIN.out (-d) (.inr rfl) (by omega), digs_one hn10, Nat.mod_eq_of_lt hn10])
      go_enter Tryz.func127, Tryz.ntmps127
      go_wp2
      rw [conv1]
      go_wp2
      exact bodyPost_ret (v := .string ⟨#[UInt8.ofNat (48 + -d).toNat]⟩) (by simp [results, Tryz.results127, go_sem]) rfl ⟨by rw [HR.out], hb _ _⟩
    . have HR := lh (show (⟨#[UInt8.ofNat (48 + d).toNat]⟩ : ByteArray) = ⟨(Lib.decDigits n.natAbs).toArray⟩ by rw [FIN.out d (.inl rfl) (by omega), digs_one hn10, Nat.mod_eq_of_lt hn10])
      go_enter Tryz.func127, Tryz.ntmps127
      go_wp2
      rw [conv1]
      go_wp2
      exact bodyPost_ret (v := .string ⟨#[UInt8.ofNat (48 + d).toNat]⟩) (by simp [results, Tryz.results127, go_sem]) rfl ⟨by rw [HR.out], hb _ _⟩
  . have hn10 : ¬ n.natAbs < 10 := by omega
    have HD := lh (digs_step hn10)
    have hl := dec_len20 q (by omega)
    have hl2 : ¬ 9223372036854775807 < (Lib.decDigits q.natAbs).length + 1 := by omega
    clear hl
    rw [<- hqn] at HD
    clear hn10 hqn
    by_cases h0 : d < 0
    . go_enter Tryz.func127, Tryz.ntmps127
      go_wp2
      rw [conv1]
      go_wp2_with (first | (go_at_call 127; refine (IH.out _).mono ?_; rintro e w1 ⟨rfl, hb1⟩))
      refine bodyPost_ret (v := .string (⟨(Lib.decDigits q.natAbs).toArray⟩ ++ ⟨#[UInt8.ofNat (48 + -d).toNat]⟩)) (by simp [results, Tryz.results127, go_sem]) rfl ⟨?_, ?_⟩
      . rw [HD.out, FIN.out (-d) (.inr rfl) (by omega), show (⟨#[UInt8.ofNat (48 + n.natAbs % 10)]⟩ : ByteArray) = ⟨[UInt8.ofNat (48 + n.natAbs % 10)].toArray⟩ from rfl, ByteArray.mk_append_mk]
      . exact (hb _ _).trans (hb1.mono (by simp))
    . go_enter Tryz.func127, Tryz.ntmps127
      go_wp2
      rw [conv1]
      go_wp2_with (first | (go_at_call 127; refine (IH.out _).mono ?_; rintro e w1 ⟨rfl, hb1⟩))
      refine bodyPost_ret (v := .string (⟨(Lib.decDigits q.natAbs).toArray⟩ ++ ⟨#[UInt8.ofNat (48 + d).toNat]⟩)) (by simp [results, Tryz.results127, go_sem]) rfl ⟨?_, ?_⟩
      . rw [HD.out, FIN.out d (.inl rfl) (by omega), show (⟨#[UInt8.ofNat (48 + n.natAbs % 10)]⟩ : ByteArray) = ⟨[UInt8.ofNat (48 + n.natAbs % 10)].toArray⟩ from rfl, ByteArray.mk_append_mk]
      . exact (hb _ _).trans (hb1.mono (by simp))
theorem ret_s {a b : ByteArray} (h : a = b) : Ending.returned (.string a) = .returned (.string b) := by rw [h]
theorem Number_any (n : Int) (w : World) (hn : I64 n) : Calls Tryz.prog 90 #[n] w fun e w' => e = .returned (.string ⟨(Lib.itoa n).toArray⟩) /\ Below w.heap.size w w' := by
 have HT := lh (fun W => tail_any n.natAbs n W (Nat.le_refl _) hn)
 have hl := dec_len20 n hn
 have hl2 : ¬ 9223372036854775807 < 1 + (Lib.decDigits n.natAbs).length := by omega
 clear hl
 by_cases h0 : n < 0
 . have e : Lib.itoa n = 45 :: Lib.decDigits n.natAbs := by unfold Lib.itoa; rw [if_pos h0]
   have E := lh e
   clear e
   go_enter Tryz.func90, Tryz.ntmps90
   go_wp2_with (first | (go_at_call 127; refine (HT.out _).mono ?_; rintro e w1 ⟨rfl, hb1⟩))
   refine bodyPost_ret (v := .string (⟨#[45]⟩ ++ ⟨(Lib.decDigits n.natAbs).toArray⟩)) (by simp [results, Tryz.results90, go_sem]) rfl ⟨ret_s ?_, hb1⟩
   rw [E.out]
   exact ByteArray.mk_append_mk [45] _
 . have e : Lib.itoa n = Lib.decDigits n.natAbs := by unfold Lib.itoa; rw [if_neg h0]; congr 1; omega
   have E := lh e
   clear e hl2
   go_enter Tryz.func90, Tryz.ntmps90
   go_wp2_with (first | (go_at_call 127; refine (HT.out _).mono ?_; rintro e w1 ⟨rfl, hb1⟩))
   exact bodyPost_ret (v := .string ⟨(Lib.decDigits n.natAbs).toArray⟩) (by simp [results, Tryz.results90, go_sem]) rfl ⟨by rw [E.out], hb1⟩
def shwT (o : OpdV) : List UInt8 := if o.k = 2 then 32 :: 114 :: Lib.itoa o.n else 32 :: Lib.itoa o.v
theorem shown_any (o : OpdV) (w : World) (hr : o.Rng) : Calls Tryz.prog 92 #[.agg #[o.k, o.n, .int .i32 o.v]] w fun e w' => e = .returned (.string ⟨(shwT o).toArray⟩) /\ Below w.heap.size w w' := by
 have hv64 : I64 o.v := by have := hr.v; unfold I32b at this; unfold I64; omega
 have HN := lh (fun W => Number_any o.n W hr.n)
 have HV := lh (fun W => Number_any o.v W hv64)
 have hl1 := Lib.itoa_length_le o.n hr.n.1 hr.n.2
 have hl2 := Lib.itoa_length_le o.v hv64.1 hv64.2
 have k1 : ¬ 9223372036854775807 < 2 + (Lib.itoa o.n).length := by omega
 have k2 : ¬ 9223372036854775807 < 1 + (Lib.itoa o.v).length := by omega
 have v1 : -2147483648 <= o.v := hr.v.1
 have v2 : o.v <= 2147483647 := hr.v.2
 have hb : ∀ (W : World) (o : Obj), Below W.heap.size W (W.alloc o) := fun W o => bo o
 clear hl1 hl2 hv64 hr
 obtain ⟨k, n, v⟩ := o
 simp only at HN HV k1 k2 v1 v2 ⊢
 by_cases hk : k = 2
 . subst hk
   go_enter Tryz.func92, Tryz.ntmps92
   go_wp2_with (first | (go_at_call 90; refine (HN.out _).mono ?_; rintro e w1 ⟨rfl, hb1⟩))
   refine bodyPost_ret (v := .string (⟨#[32, 114]⟩ ++ ⟨(Lib.itoa n).toArray⟩)) (by simp [results, Tryz.results92, go_sem]) rfl ⟨ret_s ?_, (hb _ _).trans (hb1.mono (by simp))⟩
   exact ByteArray.mk_append_mk [32, 114] _
 . have hk1 : (k == 2) = false := by simpa using hk
   go_enter Tryz.func92, Tryz.ntmps92
   go_wp2_with (first | (go_at_call 90; refine (HV.out _).mono ?_; rintro e w1 ⟨rfl, hb1⟩))
   refine bodyPost_ret (v := .string (⟨#[32]⟩ ++ ⟨(Lib.itoa v).toArray⟩)) (by simp [results, Tryz.results92, go_sem]) rfl ⟨ret_s ?_, (hb _ _).trans (hb1.mono (by simp))⟩
   unfold shwT
   rw [if_neg hk]
   exact ByteArray.mk_append_mk [32] _
theorem numbers_any (A : Option Addr) (n c : Nat) (f : Nat -> Int) (w : World) (hn : n <= 1000) (hr : RI w w.heap.size A n f) (hf : ∀ j, j < n -> I64 (f j)) :
 Calls Tryz.prog 51 #[.slice A n c] w fun e w' => e = .returned (.string ⟨(numsT f n).toArray⟩) /\ Below w.heap.size w w' := by
 have HR := lh hr
 have HN := lh (fun (j : Nat) (hj : j < n) W => Number_any (f j) W (hf j hj))
 have HL := lh (fun (k : Nat) (hk : k < n) => show ¬ 9223372036854775807 < (numsT f k).length + (1 + (Lib.itoa (f k)).length) /\ ¬ 9223372036854775807 < 1 + (Lib.itoa (f k)).length from by
  have h1 := numsT_len hf k (by omega)
  have h2 := Lib.itoa_length_le (f k) (hf k hk).1 (hf k hk).2
  omega)
 clear hr hf
 go_enter Tryz.func51, Tryz.ntmps51
 go_wp2
 go_loopg [3, 4] n (fun g z3 z4 wx => ∃ k : Nat, z3 = .string ⟨(numsT f k).toArray⟩ /\ z4 = .int .i64 k /\ k + g = n /\ Hid (Below w.heap.size w wx))
 case atStart => exact ⟨0, rfl, rfl, by omega, lh (Below.refl _ _)⟩
 case round =>
  obtain ⟨k, rfl, rfl, hkg, HB⟩ := hrel
  cases gk with
  | zero =>
   have hk0 : ¬ ((k : Int) < (n : Int)) := by omega
   obtain rfl : k = n := by omega
   go_wp2
   go_ret
   exact ⟨rfl, HB.out⟩
  | succ g =>
   have hk1 : k < n := by omega
   have hk2 : (k : Int) < (n : Int) := by omega
   obtain ⟨b1, o1, rfl, _, hc1⟩ := (HR.out.below HB.out) (by omega)
   have m1 := hc1 k hk1
   clear hc1
   obtain ⟨l1, l2⟩ := HL.out k hk1
   have HNk := lh (HN.out k hk1)
   obtain ⟨wo, rfl⟩ : ∃ wo : World, wo = wr := ⟨_, rfl⟩
   go_wp2_with (first | (go_at_call 90; refine (HNk.out _).mono ?_; rintro e w1 ⟨rfl, hb1⟩))
   go_roundg g
   case measure => omega
   case rel =>
    refine ⟨k + 1, ?_, by go_num, by omega, lh (HB.out.trans (hb1.mono HB.out.size))⟩
    show Value.string _ = Value.string _
    congr 1
def two (x y : Int) (j : Nat) : Int := if j = 0 then x else y
def endS (t : TermV) : List UInt8 :=
 if t.kind = 1 then [106, 117, 109, 112] ++ numsT (two t.t0 t.t1) 1 ++ [10]
 else if t.kind = 2 then [98, 114, 97, 110, 99, 104] ++ shwT t.a ++ numsT (two t.t0 t.t1) 2 ++ [10]
 else if t.kind = 3 then [98, 97, 114, 114, 105, 101, 114] ++ numsT (two t.t0 t.t1) 1 ++ [10]
 else if t.kind = 4 then [99, 111, 108, 108, 101, 99, 116] ++ numsT (fun _ => t.sub) 1 ++ shwT t.d ++ shwT t.a ++ shwT t.b ++ numsT (two t.t0 t.t1) 1 ++ [10]
 else [101, 120, 105, 116, 10]
theorem sq1 (b : Nat) (W : World) : (Instr.sliceAt 51 (.pointer (some ⟨b, 11, none⟩)) none (some (.int .i64 1)) none).run Tryz.prog W = .ok (.slice (some ⟨b, 11, none⟩) 1 2) W := by kernel_rfl
theorem sq2 (b : Nat) (W : World) : (Instr.sliceAt 51 (.pointer (some ⟨b, 11, none⟩)) none none none).run Tryz.prog W = .ok (.slice (some ⟨b, 11, none⟩) 2 2) W := by kernel_rfl
theorem shwT_len {o : OpdV} (h : o.Rng) : (shwT o).length <= 30 := by
 have hv := h.v
 unfold I32b at hv
 have h1 := Lib.itoa_length_le o.n h.n.1 h.n.2
 have h2 := Lib.itoa_length_le o.v (by omega) (by omega)
 unfold shwT
 split <;> simp <;> omega
theorem two_rng {x y : Int} (hx : I64 x) (hy : I64 y) (j : Nat) : I64 (two x y j) := by
 unfold two
 split
 . exact hx
 . exact hy
theorem ri_two {w W : World} {k s dk dn dv ak an av bk bn bv x y : Int} (h : OneK w 53 #[k, s, dk, dn, .int .i32 dv, ak, an, .int .i32 av, bk, bn, .int .i32 bv, x, y] W) (n : Nat) (hn : n <= 2) : RI W W.heap.size (some ⟨w.heap.size, 11, none⟩) n (two x y) := fun _ => by
 refine ⟨w.heap.size, 11, rfl, by have := h.size; omega, fun j hj => ?_⟩
 rw [h.ck (11 + j)]
 have : j = 0 \/ j = 1 := by omega
 rcases this with rfl | rfl <;> rfl
theorem bs4 (a b c d : List UInt8) : (⟨a.toArray⟩ : ByteArray) ++ ⟨b.toArray⟩ ++ ⟨c.toArray⟩ ++ ⟨d.toArray⟩ = ⟨(a ++ b ++ c ++ d).toArray⟩ := by
 rw [ByteArray.mk_append_mk, ByteArray.mk_append_mk, ByteArray.mk_append_mk]
theorem bs3 (a b c : List UInt8) : (⟨a.toArray⟩ : ByteArray) ++ ⟨b.toArray⟩ ++ ⟨c.toArray⟩ = ⟨(a ++ b ++ c).toArray⟩ := by
 rw [ByteArray.mk_append_mk, ByteArray.mk_append_mk]
theorem End_j (t : TermV) (w : World) (hr : t.parts.Rng) (hk : t.kind = 1 \/ t.kind = 3 \/ (t.kind ≠ 2 /\ t.kind ≠ 4)) : Calls Tryz.prog 53 #[t.val] w fun e w' => e = .returned (.string ⟨(endS t).toArray⟩) /\ Below w.heap.size w w' := by
 obtain ⟨k, s, ⟨dk, dn, dv⟩, ⟨ak, an, av⟩, ⟨bk, bn, bv⟩, x, y⟩ := t
 have HK := lh (OneK.start (w := w) (T := 53) (K := #[k, s, dk, dn, .int .i32 dv, ak, an, .int .i32 av, bk, bn, .int .i32 bv, x, y]))
 have hrt : ∀ j, I64 (two x y j) := two_rng hr.t0 hr.t1
 have HT := lh (fun W (hW : OneK w 53 #[k, s, dk, dn, .int .i32 dv, ak, an, .int .i32 av, bk, bn, .int .i32 bv, x, y] W) => numbers_any (some ⟨w.heap.size, 11, none⟩) 1 2 (two x y) W (by decide) (ri_two hW 1 (by decide)) (fun j _ => hrt j))
 have hl := numsT_len (n := 1) (fun j _ => hrt j) 1 (Nat.le_refl _)
 obtain ⟨N, hN⟩ : ∃ N, numsT (two x y) 1 = N := ⟨_, rfl⟩
 rw [hN] at hl
 have hs1 := sq1 w.heap.size
 simp only [TermV.val] at hk ⊢
 have k1 : ¬ 9223372036854775807 < 4 + N.length := by omega
 have k2 : ¬ 9223372036854775807 < 4 + N.length + 1 := by omega
 have k3 : ¬ 9223372036854775807 < 7 + N.length := by omega
 have k4 : ¬ 9223372036854775807 < 7 + N.length + 1 := by omega
 unfold endS
 simp only
 rw [hN] at HT ⊢
 clear hl hN hrt hr
 by_cases h1 : k = 1
 . subst h1
   go_enter Tryz.func53, Tryz.ntmps53
   go_wp2_with (first | (go_at_call 51; (with_reducible refine (HT.out _ HK.out).mono ?_); rintro e w1 ⟨rfl, hb1⟩))
   refine bodyPost_ret (v := .string (⟨#[106, 117, 109, 112]⟩ ++ ⟨N.toArray⟩ ++ ⟨#[10]⟩)) (by simp [results, Tryz.results53, go_sem]) rfl ⟨ret_s ?_, HK.out.below.trans (hb1.mono (by simp))⟩
   exact bs3 [106, 117, 109, 112] N [10]
 . by_cases h3 : k = 3
   . subst h3
     go_enter Tryz.func53, Tryz.ntmps53
     go_wp2_with (first | (go_at_call 51; (with_reducible refine (HT.out _ HK.out).mono ?_); rintro e w1 ⟨rfl, hb1⟩))
     refine bodyPost_ret (v := .string (⟨#[98, 97, 114, 114, 105, 101, 114]⟩ ++ ⟨N.toArray⟩ ++ ⟨#[10]⟩)) (by simp [results, Tryz.results53, go_sem]) rfl ⟨ret_s ?_, HK.out.below.trans (hb1.mono (by simp))⟩
     exact bs3 [98, 97, 114, 114, 105, 101, 114] N [10]
   . have h24 : k ≠ 2 /\ k ≠ 4 := by omega
     have e1 : (k == 1) = false := by simpa using h1
     have e2 : (k == 2) = false := by simpa using h24.1
     have e3 : (k == 3) = false := by simpa using h3
     have e4 : (k == 4) = false := by simpa using h24.2
     rw [if_neg h1, if_neg h24.1, if_neg h3, if_neg h24.2]
     clear hk h1 h3 h24
     go_enter Tryz.func53, Tryz.ntmps53
     go_wp2
     exact bodyPost_ret (v := .string ⟨#[101, 120, 105, 116, 10]⟩) (by simp [results, Tryz.results53, go_sem]) rfl ⟨rfl, HK.out.below⟩
--GEN
theorem OneK.drew {w W : World} {T : TypeId} {K : Array Value} (h : OneK w T K W) : OneK w T K W.drew := ⟨⟨h.on.os, h.on.tape, h.on.output, h.on.size, h.on.block⟩⟩
theorem bs7 (a b c d e f g : List UInt8) : (⟨a.toArray⟩ : ByteArray) ++ ⟨b.toArray⟩ ++ ⟨c.toArray⟩ ++ ⟨d.toArray⟩ ++ ⟨e.toArray⟩ ++ ⟨f.toArray⟩ ++ ⟨g.toArray⟩ = ⟨(a ++ b ++ c ++ d ++ e ++ f ++ g).toArray⟩ := by
 simp only [ByteArray.mk_append_mk]
theorem ri_one (W : World) (s : Int) (b : Nat) (hb : b = W.heap.size) : RI (W.alloc (.cells #[s] 3)).drew (W.alloc (.cells #[s] 3)).drew.heap.size (some ⟨b, 0, none⟩) 1 (fun _ => s) := fun _ => by
 subst hb
 refine ⟨W.heap.size, 0, rfl, by show W.heap.size < (W.alloc _).heap.size; simp, fun j hj => ?_⟩
 obtain rfl : j = 0 := by omega
 show (W.alloc _).cell? _ = _
 simp
theorem End_b (t : TermV) (w : World) (hr : t.parts.Rng) (hk : t.kind = 2) : Calls Tryz.prog 53 #[t.val] w fun e w' => e = .returned (.string ⟨(endS t).toArray⟩) /\ Below w.heap.size w w' := by
 obtain ⟨k, s, ⟨dk, dn, dv⟩, ⟨ak, an, av⟩, ⟨bk, bn, bv⟩, x, y⟩ := t
 simp only at hk
 subst hk
 have HKI := lh (OneK.start (w := w) (T := 53) (K := #[(2:Int), s, dk, dn, .int .i32 dv, ak, an, .int .i32 av, bk, bn, .int .i32 bv, x, y]))
 have hrt : ∀ j, I64 (two x y j) := two_rng hr.t0 hr.t1
 have HT := lh (fun W (hW : OneK w 53 #[(2:Int), s, dk, dn, .int .i32 dv, ak, an, .int .i32 av, bk, bn, .int .i32 bv, x, y] W) => numbers_any (some ⟨w.heap.size, 11, none⟩) 2 2 (two x y) W (by decide) (ri_two hW 2 (by decide)) (fun j _ => hrt j))
 have HSA := lh (fun W => shown_any ⟨ak, an, av⟩ W hr.a)
 have hl := numsT_len (n := 2) (fun j _ => hrt j) 2 (Nat.le_refl _)
 have hla := shwT_len (o := ⟨ak, an, av⟩) hr.a
 obtain ⟨N, hN⟩ : ∃ N, numsT (two x y) 2 = N := ⟨_, rfl⟩
 obtain ⟨A, hA⟩ : ∃ A, shwT ⟨ak, an, av⟩ = A := ⟨_, rfl⟩
 rw [hN] at hl
 rw [hA] at hla HSA
 have hs1 := sq2 w.heap.size
 simp only [TermV.val]
 have k1 : ¬ 9223372036854775807 < 6 + A.length := by omega
 have k2 : ¬ 9223372036854775807 < 6 + A.length + N.length := by omega
 have k3 : ¬ 9223372036854775807 < 6 + A.length + N.length + 1 := by omega
 have HR := lh (show endS ⟨2, s, ⟨dk, dn, dv⟩, ⟨ak, an, av⟩, ⟨bk, bn, bv⟩, x, y⟩ = [98, 114, 97, 110, 99, 104] ++ A ++ N ++ [10] by unfold endS; simp only; rw [if_neg (by decide), if_pos trivial, hN, hA])
 rw [hN] at HT
 rw [HR.out]
 have HS := lh (fun W (h : OneK w 53 #[(2:Int), s, dk, dn, .int .i32 dv, ak, an, .int .i32 av, bk, bn, .int .i32 bv, x, y] W) => show (fun w' => w'.cell? ⟨w.heap.size, 5, none⟩ = some (.int .i64 ak) /\ w'.cell? ⟨w.heap.size, 6, none⟩ = some (.int .i64 an) /\ w'.cell? ⟨w.heap.size, 7, none⟩ = some (.int .i32 av) /\ OneK w 53 #[(2:Int), s, dk, dn, .int .i32 dv, ak, an, .int .i32 av, bk, bn, .int .i32 bv, x, y] w') W from ⟨h.ck 5, h.ck 6, h.ck 7, h⟩)
 have HK0 := lh HKI.out.drew
 clear hl hla hN hA hrt hr HR
 go_enter Tryz.func53, Tryz.ntmps53
 go_wp2
 refine wp_region_held_drew (S := (fun w' => w'.cell? ⟨w.heap.size, 5, none⟩ = some (.int .i64 ak) /\ w'.cell? ⟨w.heap.size, 6, none⟩ = some (.int .i64 an) /\ w'.cell? ⟨w.heap.size, 7, none⟩ = some (.int .i32 av) /\ OneK w 53 #[(2:Int), s, dk, dn, .int .i32 dv, ak, an, .int .i32 av, bk, bn, .int .i32 bv, x, y] w')) (by kernel_rfl) ?_ (fun hHeld => ?_)
 . (try dsimp only); (first | exact HS.out _ HK0.out | exact HS.out _ HK1.out  | exact HS.out _ HK2.out | exact HS.out _ HKa.out)
 refine tk 0 ?_
 refine tk 1 ?_
 refine tk 4 ?_
 refine tk 5 ?_
 refine am 2 (fun K hK => ?_) ?_
 . (go_simp; go_at_call 92; refine (HSA.out _).mono ?_; rintro e w1 ⟨rfl, hb1⟩; have HK1 := lh (HK0.out.step hb1); clear hb1; try go_wp2_with fail)
   refine hK.out _ _ ?_ (fun hHeld => ?_)
   . (try dsimp only); (first | exact HS.out _ HK0.out | exact HS.out _ HK1.out  | exact HS.out _ HK2.out | exact HS.out _ HKa.out)
   clear hK K
   try simp only [pe]
   refine tk 3 ?_
   refine am 6 (fun K hK => ?_) ?_
   . (go_simp; go_at_call 51; refine (HT.out _ HK1.out).mono ?_; rintro e w2 ⟨rfl, hb2⟩; have HK2 := lh (HK1.out.step hb2); clear hb2; try go_wp2_with fail)
     refine hK.out _ _ ?_ (fun hHeld => ?_)
     . (try dsimp only); (first | exact HS.out _ HK0.out | exact HS.out _ HK1.out  | exact HS.out _ HK2.out | exact HS.out _ HKa.out)
     clear hK K
     try simp only [pe]
     refine tk 7 ?_
     refine tk 8 ?_
     refine tk 9 ?_
     refine wpAnyH_done (by kernel_rfl) ?_ _
     go_wp2
     refine bodyPost_ret (v := .string (⟨#[98, 114, 97, 110, 99, 104]⟩ ++ ⟨A.toArray⟩ ++ ⟨N.toArray⟩ ++ ⟨#[10]⟩)) (by simp [results, Tryz.results53, go_sem]) rfl ⟨ret_s ?_, HK2.out.below⟩
     exact bs4 [98, 114, 97, 110, 99, 104] A N [10]
   exact AllReadyH.nil
 exact AllReadyH.nil
theorem End_c (t : TermV) (w : World) (hr : t.parts.Rng) (hk : t.kind = 4) : Calls Tryz.prog 53 #[t.val] w fun e w' => e = .returned (.string ⟨(endS t).toArray⟩) /\ Below w.heap.size w w' := by
 obtain ⟨k, s, ⟨dk, dn, dv⟩, ⟨ak, an, av⟩, ⟨bk, bn, bv⟩, x, y⟩ := t
 simp only at hk
 subst hk
 have HKI := lh (OneK.start (w := w) (T := 53) (K := #[(4:Int), s, dk, dn, .int .i32 dv, ak, an, .int .i32 av, bk, bn, .int .i32 bv, x, y]))
 have hrt : ∀ j, I64 (two x y j) := two_rng hr.t0 hr.t1
 have hsb : I64 s := hr.sub
 have HT := lh (fun W (hW : OneK w 53 #[(4:Int), s, dk, dn, .int .i32 dv, ak, an, .int .i32 av, bk, bn, .int .i32 bv, x, y] W) => numbers_any (some ⟨w.heap.size, 11, none⟩) 1 2 (two x y) W (by decide) (ri_two hW 1 (by decide)) (fun j _ => hrt j))
 have HU := lh (fun (W : World) (b : Nat) (hb : b = W.heap.size) => numbers_any (some ⟨b, 0, none⟩) 1 1 (fun _ => s) ((W.alloc (.cells #[s] 3)).drew) (by decide) (ri_one W s b hb) (fun _ _ => hsb))
 have HSA := lh (fun W => shown_any ⟨ak, an, av⟩ W hr.a)
 have HSB := lh (fun W => shown_any ⟨bk, bn, bv⟩ W hr.b)
 have HSD := lh (fun W => shown_any ⟨dk, dn, dv⟩ W hr.d)
 have hl := numsT_len (n := 1) (fun j _ => hrt j) 1 (Nat.le_refl _)
 have hl2 := numsT_len (n := 1) (f := fun _ => s) (fun j _ => hsb) 1 (Nat.le_refl _)
 have hla := shwT_len (o := ⟨ak, an, av⟩) hr.a
 have hlb := shwT_len (o := ⟨bk, bn, bv⟩) hr.b
 have hld := shwT_len (o := ⟨dk, dn, dv⟩) hr.d
 obtain ⟨N, hN⟩ : ∃ N, numsT (two x y) 1 = N := ⟨_, rfl⟩
 obtain ⟨M, hM⟩ : ∃ M, numsT (fun _ => s) 1 = M := ⟨_, rfl⟩
 obtain ⟨A, hA⟩ : ∃ A, shwT ⟨ak, an, av⟩ = A := ⟨_, rfl⟩
 obtain ⟨B, hB⟩ : ∃ B, shwT ⟨bk, bn, bv⟩ = B := ⟨_, rfl⟩
 obtain ⟨D, hD⟩ : ∃ D, shwT ⟨dk, dn, dv⟩ = D := ⟨_, rfl⟩
 rw [hN] at hl
 rw [hM] at hl2
 rw [hA] at hla HSA
 rw [hB] at hlb HSB
 rw [hD] at hld HSD
 have hs1 := sq1 w.heap.size
 simp only [TermV.val]
 have k1 : ¬ 9223372036854775807 < 7 + M.length := by omega
 have k2 : ¬ 9223372036854775807 < 7 + M.length + D.length := by omega
 have k3 : ¬ 9223372036854775807 < 7 + M.length + D.length + A.length := by omega
 have k4 : ¬ 9223372036854775807 < 7 + M.length + D.length + A.length + B.length := by omega
 have k5 : ¬ 9223372036854775807 < 7 + M.length + D.length + A.length + B.length + N.length := by omega
 have k6 : ¬ 9223372036854775807 < 7 + M.length + D.length + A.length + B.length + N.length + 1 := by omega
 have HR := lh (show endS ⟨4, s, ⟨dk, dn, dv⟩, ⟨ak, an, av⟩, ⟨bk, bn, bv⟩, x, y⟩ = [99, 111, 108, 108, 101, 99, 116] ++ M ++ D ++ A ++ B ++ N ++ [10] by unfold endS; simp only; rw [if_neg (by decide), if_neg (by decide), if_neg (by decide), if_pos trivial, hN, hA, hB, hD, hM])
 rw [hN] at HT
 rw [hM] at HU
 rw [HR.out]
 have HS := lh (fun W (h : OneK w 53 #[(4:Int), s, dk, dn, .int .i32 dv, ak, an, .int .i32 av, bk, bn, .int .i32 bv, x, y] W) => show (fun w' => w'.cell? ⟨w.heap.size, 1, none⟩ = some (.int .i64 s) /\ w'.cell? ⟨w.heap.size, 2, none⟩ = some (.int .i64 dk) /\ w'.cell? ⟨w.heap.size, 3, none⟩ = some (.int .i64 dn) /\ w'.cell? ⟨w.heap.size, 4, none⟩ = some (.int .i32 dv) /\ w'.cell? ⟨w.heap.size, 5, none⟩ = some (.int .i64 ak) /\ w'.cell? ⟨w.heap.size, 6, none⟩ = some (.int .i64 an) /\ w'.cell? ⟨w.heap.size, 7, none⟩ = some (.int .i32 av) /\ w'.cell? ⟨w.heap.size, 8, none⟩ = some (.int .i64 bk) /\ w'.cell? ⟨w.heap.size, 9, none⟩ = some (.int .i64 bn) /\ w'.cell? ⟨w.heap.size, 10, none⟩ = some (.int .i32 bv) /\ OneK w 53 #[(4:Int), s, dk, dn, .int .i32 dv, ak, an, .int .i32 av, bk, bn, .int .i32 bv, x, y] w') W from ⟨h.ck 1, h.ck 2, h.ck 3, h.ck 4, h.ck 5, h.ck 6, h.ck 7, h.ck 8, h.ck 9, h.ck 10, h⟩)
 have HKd := lh HKI.out.drew
 have HK0 := lh (HKI.out.step (bo (.cells #[s] 3))).drew
 clear hl hl2 hla hlb hld hN hA hB hD hM hrt hr HR hsb
 go_enter Tryz.func53, Tryz.ntmps53
 go_wp2
 refine wp_region_held_drew (S := (fun w' => w'.cell? ⟨w.heap.size, 1, none⟩ = some (.int .i64 s) /\ w'.cell? ⟨w.heap.size, 2, none⟩ = some (.int .i64 dk) /\ w'.cell? ⟨w.heap.size, 3, none⟩ = some (.int .i64 dn) /\ w'.cell? ⟨w.heap.size, 4, none⟩ = some (.int .i32 dv) /\ w'.cell? ⟨w.heap.size, 5, none⟩ = some (.int .i64 ak) /\ w'.cell? ⟨w.heap.size, 6, none⟩ = some (.int .i64 an) /\ w'.cell? ⟨w.heap.size, 7, none⟩ = some (.int .i32 av) /\ w'.cell? ⟨w.heap.size, 8, none⟩ = some (.int .i64 bk) /\ w'.cell? ⟨w.heap.size, 9, none⟩ = some (.int .i64 bn) /\ w'.cell? ⟨w.heap.size, 10, none⟩ = some (.int .i32 bv) /\ OneK w 53 #[(4:Int), s, dk, dn, .int .i32 dv, ak, an, .int .i32 av, bk, bn, .int .i32 bv, x, y] w')) (by kernel_rfl) ?_ (fun hHeld => ?_)
 . (try dsimp only); (first | exact HS.out _ HKd.out | exact HS.out _ HK0.out | exact HS.out _ HK1.out | exact HS.out _ HK2.out | exact HS.out _ HK3.out | exact HS.out _ HK4.out | exact HS.out _ HK5.out)
 refine tk 0 ?_
 refine tk 1 ?_
 refine tk 5 ?_
 refine tk 6 ?_
 refine tk 9 ?_
 refine tk 10 ?_
 refine tk 13 ?_
 refine tk 14 ?_
 refine tk 17 ?_
 refine tk 18 ?_
 refine am 2 (fun K hK => ?_) ?_
 . go_simp
   refine hK.out _ _ ?_ (fun hHeld => ?_)
   . (try dsimp only); (first | exact HS.out _ HKd.out | exact HS.out _ HK0.out | exact HS.out _ HK1.out | exact HS.out _ HK2.out | exact HS.out _ HK3.out | exact HS.out _ HK4.out | exact HS.out _ HK5.out)
   clear hK K
   try simp only [pe]
   refine am 3 (fun K hK => ?_) ?_
   . (go_simp; go_at_call 51; refine (HU.out _ _ (by simp)).mono ?_; rintro e w1 ⟨rfl, hb1⟩; have HK1 := lh (HK0.out.step hb1); clear hb1; try go_wp2_with fail)
     refine hK.out _ _ ?_ (fun hHeld => ?_)
     . (try dsimp only); (first | exact HS.out _ HKd.out | exact HS.out _ HK0.out | exact HS.out _ HK1.out | exact HS.out _ HK2.out | exact HS.out _ HK3.out | exact HS.out _ HK4.out | exact HS.out _ HK5.out)
     clear hK K
     try simp only [pe]
     refine tk 4 ?_
     refine am 7 (fun K hK => ?_) ?_
     . (go_simp; go_at_call 92; refine (HSD.out _).mono ?_; rintro e w2 ⟨rfl, hb2⟩; have HK2 := lh (HK1.out.step hb2); clear hb2; try go_wp2_with fail)
       refine hK.out _ _ ?_ (fun hHeld => ?_)
       . (try dsimp only); (first | exact HS.out _ HKd.out | exact HS.out _ HK0.out | exact HS.out _ HK1.out | exact HS.out _ HK2.out | exact HS.out _ HK3.out | exact HS.out _ HK4.out | exact HS.out _ HK5.out)
       clear hK K
       try simp only [pe]
       refine tk 8 ?_
       refine am 11 (fun K hK => ?_) ?_
       . (go_simp; go_at_call 92; refine (HSA.out _).mono ?_; rintro e w3 ⟨rfl, hb3⟩; have HK3 := lh (HK2.out.step hb3); clear hb3; try go_wp2_with fail)
         refine hK.out _ _ ?_ (fun hHeld => ?_)
         . (try dsimp only); (first | exact HS.out _ HKd.out | exact HS.out _ HK0.out | exact HS.out _ HK1.out | exact HS.out _ HK2.out | exact HS.out _ HK3.out | exact HS.out _ HK4.out | exact HS.out _ HK5.out)
         clear hK K
         try simp only [pe]
         refine tk 12 ?_
         refine am 15 (fun K hK => ?_) ?_
         . (go_simp; go_at_call 92; refine (HSB.out _).mono ?_; rintro e w4 ⟨rfl, hb4⟩; have HK4 := lh (HK3.out.step hb4); clear hb4; try go_wp2_with fail)
           refine hK.out _ _ ?_ (fun hHeld => ?_)
           . (try dsimp only); (first | exact HS.out _ HKd.out | exact HS.out _ HK0.out | exact HS.out _ HK1.out | exact HS.out _ HK2.out | exact HS.out _ HK3.out | exact HS.out _ HK4.out | exact HS.out _ HK5.out)
           clear hK K
           try simp only [pe]
           refine tk 16 ?_
           refine am 19 (fun K hK => ?_) ?_
           . (go_simp; go_at_call 51; refine (HT.out _ HK4.out).mono ?_; rintro e w5 ⟨rfl, hb5⟩; have HK5 := lh (HK4.out.step hb5); clear hb5; try go_wp2_with fail)
             refine hK.out _ _ ?_ (fun hHeld => ?_)
             . (try dsimp only); (first | exact HS.out _ HKd.out | exact HS.out _ HK0.out | exact HS.out _ HK1.out | exact HS.out _ HK2.out | exact HS.out _ HK3.out | exact HS.out _ HK4.out | exact HS.out _ HK5.out)
             clear hK K
             try simp only [pe]
             refine tk 20 ?_
             refine tk 21 ?_
             refine tk 22 ?_
             refine wpAnyH_done (by kernel_rfl) ?_ _
             go_wp2
             refine bodyPost_ret (v := .string (⟨#[99, 111, 108, 108, 101, 99, 116]⟩ ++ ⟨M.toArray⟩ ++ ⟨D.toArray⟩ ++ ⟨A.toArray⟩ ++ ⟨B.toArray⟩ ++ ⟨N.toArray⟩ ++ ⟨#[10]⟩)) (by simp [results, Tryz.results53, go_sem]) rfl ⟨ret_s ?_, HK5.out.below⟩
             exact bs7 [99, 111, 108, 108, 101, 99, 116] M D A B N [10]
           exact AllReadyH.nil
         exact AllReadyH.nil
       exact AllReadyH.nil
     exact AllReadyH.nil
   exact AllReadyH.nil
 exact AllReadyH.nil
theorem End_any (t : TermV) (w : World) (hr : t.parts.Rng) : Calls Tryz.prog 53 #[t.val] w fun e w' => e = .returned (.string ⟨(endS t).toArray⟩) /\ Below w.heap.size w w' := by
 by_cases h2 : t.kind = 2
 . exact End_b t w hr h2
 . by_cases h4 : t.kind = 4
   . exact End_c t w hr h4
   . exact End_j t w hr (.inr (.inr ⟨h2, h4⟩))
end Go.Proofs.YtkncilgmlkeifaaGreatDoor
