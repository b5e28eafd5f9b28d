/-
  The walk of LaunchPacks.
-/
import Derived.Test.YtjknmancnfeifaaPkN
import Derived.Test.YtjknmancnfeifaaPkM
import Derived.Test.YtjknmancnfeifaaExC
import Derived.Deep.DeepCutAuto
set_option linter.unusedVariables false
set_option linter.unusedSimpArgs false
namespace Go.Proofs.Ytjknmancnfeifaa
open Go.ChangeShapes Go.WideShapes Go.ChangeAt Go.RowKit

theorem pkN_pos {L d : Int} {n j : Nat} (h : j < pkN L d n) : L.toNat ≤ 65536 := by
  unfold pkN at h
  split at h
  · rename_i hk; have := hk.2.1; omega
  · omega
set_option maxRecDepth 100000 in
set_option maxHeartbeats 8000000 in
theorem packs_walk (L d : Int) (n c : Nat) (A : Option Addr) (f : Nat → Int) (w : World) (hnc : n ≤ c) (hc : c ≤ 9223372036854775807) (hd0 : 0 ≤ d) (hd : d < 18446744073709551616)
    (hr : RF w w.heap.size .i64 A n f) :
    Calls Try.prog 7 #[.slice A n c, .int .i64 L, .int .u64 d] w fun e w' => e = .returned (.bool true) ∧ Below w.heap.size w w' := by
  obtain ⟨j0, hj, hy0, hy1, hy2⟩ := info_parts info3
  obtain ⟨m0, hm0, hbits⟩ := and63 L
  obtain ⟨m, hm⟩ : ∃ m : Nat, (1 : Int) + (m0 : Int) = (m : Int) := ⟨m0 + 1, by omega⟩
  have hm1 : 1 ≤ m := by omega
  have hm64 : m ≤ 64 := by omega
  have hn300 : min n 300 ≤ 300 := Nat.min_le_right _ _
  have hnn := Nat.min_le_left n 300
  have hr1 := hr.less (Nat.min_le_left n 300)
  have hmin : (300 < n ∧ min n 300 = 300) ∨ (n ≤ 300 ∧ min n 300 = n) := by omega
  obtain ⟨n1, hn1⟩ : ∃ n1, min n 300 = n1 := ⟨_, rfl⟩
  rw [hn1] at hr1 hn300 hmin hnn
  have HR := Lib.hid hr1
  have HM0 := Lib.hid hm0
  clear hr hr1 hn1 hm0
  have hsz1 : n1 ≤ 65536 := by omega
  have hcc1 : n1 ≤ c := by omega
  have H1 := Lib.hid (fun (W : World) hW => pack_all L d n1 c A f W hd0 hd hsz1 hcc1 (HR.out.on (w' := W) hW))
  have H2 := Lib.hid (fun (W : World) hW => PackIn_all L d n1 c A f W hd0 hd hsz1 (HR.out.on (w' := W) hW))
  have H3 := Lib.hid (fun (W : World) hW => pack_all m d n1 c A f W hd0 hd hsz1 hcc1 (HR.out.on (w' := W) hW))
  have H4 := Lib.hid (fun (W : World) hW => PackIn_all m d n1 c A f W hd0 hd hsz1 (HR.out.on (w' := W) hW))
  have HS := Lib.hid (fun (l : Int) (W : World) c1 c2 A1 A2 h1 h2 => SamePacked_true (pkN l d n1) c1 c2 (pkE l d) A1 A2 (fun _ => l.toNat) (warpF (livL d l.toNat) n1 f) (warpF (livL d l.toNat) n1 f) W (by have := pkN_le l d n1; omega) (fun _ hj => pkN_pos hj) h1 h2 (fun _ _ _ _ => rfl))
  go_enter Try.func7, Try.ntmps7
  go_upto_region 4 with (go_at_call 9; (with_reducible refine (examples_any _).mono ?_); rintro e w1 ⟨rfl, hb1⟩; have HB1 := Lib.hid hb1; clear hb1)
  go_cut [8] (fun v8 wx => v8 = .slice A n1 c ∧ wx = w1)
  case first =>
    rcases hmin with ⟨h, rfl⟩ | ⟨h, rfl⟩
    · go_wp2
      go_meet
      exact ⟨rfl, rfl⟩
    · have h2 : ¬ 300 < n1 := by omega
      go_wp2
      go_meet
      exact ⟨rfl, rfl⟩
  case rest =>
    obtain ⟨rfl, rfl⟩ := hcut
    clear hmin
    go_wp2_with (first
    | (go_at_call 22; (with_reducible refine (H1.out _ HB1.out).mono ?_); rintro e w2 ⟨A2, c2, rfl, hR2, hb2⟩; have HR2 := Lib.hid hR2; have HB2 := Lib.hid (HB1.out.trans (hb2.mono HB1.out.size)); clear hR2 hb2)
    | (go_at_call 23; (with_reducible refine (H2.out _ HB2.out).mono ?_); rintro e w3 ⟨A3, c3, rfl, hR3, hb3⟩; have HR2' := Lib.hid (HR2.out.on hb3); have HR3 := Lib.hid hR3; have HB3 := Lib.hid (HB2.out.trans (hb3.mono HB2.out.size)); clear hR3 hb3)
    | (go_at_call 21; (with_reducible refine (HS.out L _ _ _ _ _ HR2'.out HR3.out).mono ?_); rintro e w4 ⟨rfl, hb4⟩; have HB4 := Lib.hid (HB3.out.trans (hb4.mono HB3.out.size)); clear hb4)
    | (go_at_call 22; (with_reducible refine (H3.out _ HB4.out).mono ?_); rintro e w5 ⟨A5, c5, rfl, hR5, hb5⟩; have HR5 := Lib.hid hR5; have HB5 := Lib.hid (HB4.out.trans (hb5.mono HB4.out.size)); clear hR5 hb5)
    | (go_at_call 23; (with_reducible refine (H4.out _ HB5.out).mono ?_); rintro e w6 ⟨A6, c6, rfl, hR6, hb6⟩; have HR5' := Lib.hid (HR5.out.on hb6); have HR6 := Lib.hid hR6; have HB6 := Lib.hid (HB5.out.trans (hb6.mono HB5.out.size)); clear hR6 hb6)
    | (go_at_call 21; (with_reducible refine (HS.out m _ _ _ _ _ HR5'.out HR6.out).mono ?_); rintro e w7 ⟨rfl, hb7⟩; have HB7 := Lib.hid (HB6.out.trans (hb7.mono HB6.out.size)); clear hb7))
    have hz7 := HB7.out.size
    clear H1 H2 H3 H4 HS HR
    go_loopw [10, 11] (fun v i wr => ∃ q : Nat, q ≤ n1 ∧ i = .int .i64 q ∧ wr.ownsRow w7.heap.size 3 1 v q (cellsN (List.range q)) ∧ Below w7.heap.size w7 wr) (fun _ i _ => n1 - (intOf i).toNat)
    case atStart => exact ⟨0, Nat.zero_le _, rfl, World.ownsRow_lit _ #[] 0 (Nat.le_refl _) (by unfold maxLen; omega) rfl, (Below.refl _ _).alloc (Nat.le_refl _) _⟩
    case round =>
      obtain ⟨q, hq, rfl, hown, hbel⟩ := hrel
      by_cases hqn : q < n1
      · have HL := Lib.hid hbel
        have hz := hbel.size
        clear hbel
        go_wp2_with (at_builtin; refine wpList_append_own_at _ rfl _ _ 49 rfl w7.heap.size 3 j0 (.int .i64 0) 1 8 Try.underlying49 hj hy0 hy1 hy2 rfl (by decide) _ _ _ rfl (hown.alloc _) ⟨wr.heap.size, 0, none⟩ 1 1 [.int .i64 (q : Int)] rfl rfl (cell_one_new _ _ _) (by simp [Value.oneCell']) (by unfold maxLen; omega) (by omega) (by simp; omega) ?_; intro v' w2 hown1 hgrow _ hat)
        go_roundw
        case rel => exact ⟨q + 1, by omega, by go_num, by rw [List.range_succ, cellsN_snoc]; exact hown1, (HL.out.alloc hz _).grown hgrow (by simp; omega) (fun j hj => (hown.lt j hj).1)⟩
        case measure => simp [intOf]; omega
      · obtain rfl : q = n1 := by omega
        obtain ⟨A8, c8, rfl, hqc, hro⟩ := own_reads hown
        have HL := Lib.hid (HB7.out.trans (hbel.mono hz7))
        have HRO := Lib.hid hro
        clear hown hbel hro hz7
        by_cases hok : packOk m d
        · obtain ⟨_, _, hne⟩ := hok
          rw [Int.toNat_natCast] at hne
          have HP := Lib.hid (pack_yes m d q c8 A8 (fun z => (z : Int)) wr (by omega) hm64 hd0 hd hsz1 hqc HRO.out hne)
          obtain ⟨a, ha⟩ : ∃ a, (livL d m).length = a := ⟨_, rfl⟩
          have ha1 : 1 ≤ a := by
            cases h : livL d m with
            | nil => exact absurd h hne
            | cons x l => rw [h] at ha; simp at ha; omega
          rw [ha] at HP
          have HA := Lib.hid ha
          have HA1 := Lib.hid ha1
          clear ha hne ha1
          obtain ⟨cn, hcn⟩ : ∃ cn, chN q a = cn := ⟨_, rfl⟩
          rw [hcn] at HP
          have HCN := Lib.hid hcn
          clear hcn
          go_wp2_with (go_at_call 22; (with_reducible refine HP.out.mono ?_); rintro e w9 ⟨A9, c9, rfl, hR9, hb9⟩; have HR9 := Lib.hid hR9; have HB9 := Lib.hid (HL.out.trans (hb9.mono HL.out.size)); clear hR9 hb9)
          have hal : Below w9.heap.size w9 (w9.alloc (.cells #[.slice A9 cn c9, .int .i64 0] 66)) := (Below.refl _ _).alloc (Nat.le_refl _) _
          have hRW := HR9.out.on hal
          have hc0 := (Pkd.new w9 (.slice A9 cn c9)).c0
          have HBX := Lib.hid (HB9.out.trans (hal.mono HB9.out.size))
          obtain ⟨b9, hb9⟩ : ∃ b9, w9.heap.size = b9 := ⟨_, rfl⟩
          obtain ⟨W, hW⟩ : ∃ W, w9.alloc (.cells #[.slice A9 cn c9, .int .i64 0] 66) = W := ⟨_, rfl⟩
          rw [hb9] at hc0
          rw [hW] at hRW hc0 HBX ⊢
          rw [hb9]
          have HRW := Lib.hid hRW
          clear hRW hal hW hb9 HR9 HB9 HP HRO HL
          have hcq : cn ≤ 364 := by
            have h1 : cn ≤ q + a - 1 := by rw [← HCN.out]; exact Nat.div_le_self _ _
            have h2 := livL_len d m
            rw [HA.out] at h2
            omega
          go_loop [13, 14] (fun nx i => ∃ r : Nat, r ≤ cn ∧ i = .int .i64 r ∧ nx = .int .i64 (nxt a q d r 0 : Nat)) (fun _ i => cn - (intOf i).toNat)
          case atStart => exact ⟨0, Nat.zero_le _, rfl, by rw [nxt_zero]; simp⟩
          case round =>
            obtain ⟨r, hrc, rfl, rfl⟩ := hrel
            by_cases hrn : r < cn
            · obtain ⟨b, off, A', c', rfl, hb, hcell, hrf⟩ := HRW.out.at_ hrn
              have hnl := nxt_lt (a := a) (n := q) (i := r) (d := d) HA1.out (by rw [HCN.out]; exact hrn)
              obtain ⟨b', off', hA', hb', hcs⟩ := hrf (by omega)
              subst hA'
              have HCS := Lib.hid hcs
              obtain ⟨x0, hx0⟩ : ∃ x0, nxt a q d r 0 = x0 := ⟨_, rfl⟩
              rw [hx0] at hnl ⊢
              have HX0 := Lib.hid hx0
              clear hcs hrf hx0
              go_wp2
              go_loop [13, 15] (fun nx kk => ∃ k : Nat, k ≤ m ∧ kk = .int .i64 k ∧ nx = .int .i64 (nxt a q d r k : Nat)) (fun _ kk => m - (intOf kk).toNat)
              case atStart => exact ⟨0, Nat.zero_le _, rfl, by rw [HX0.out]⟩
              case round =>
                obtain ⟨k, hkm, rfl, rfl⟩ := hrel
                by_cases hk : k < m
                · have hck := HCS.out k hk
                  have hxq : nxt a q d r k ≤ q := nxt_le
                  have hk64 : (k : Int) < 64 := by omega
                  by_cases hal : alive d k = true
                  · have ha2 : (bits BinOp.and IntKind.u64 (d / 2 ^ k) 1 == 0) = true := hal
                    by_cases hnx : nxt a q d r k < q
                    · obtain ⟨e1, e2⟩ := nxt_yes (f := fun z => (z : Int)) HA.out hk hal hnx
                      rw [e1] at hck
                      have E2 := Lib.hid e2
                      obtain ⟨y, hy⟩ : ∃ y, nxt a q d r k = y := ⟨_, rfl⟩
                      rw [hy] at hck hxq hnx E2 ⊢
                      clear e1 e2 hal hy
                      go_wp2
                      go_round
                      case rel => exact ⟨k + 1, by omega, by go_num, by rw [E2.out]; go_num⟩
                      case measure => simp [intOf]; omega
                    · obtain ⟨e1, e2⟩ := nxt_full (f := fun z => (z : Int)) HA.out hk hal hnx
                      rw [e1] at hck
                      have E2 := Lib.hid e2
                      obtain ⟨y, hy⟩ : ∃ y, nxt a q d r k = y := ⟨_, rfl⟩
                      rw [hy] at hxq hnx E2 ⊢
                      clear e1 e2 hal hy
                      go_wp2
                      go_round
                      case rel => exact ⟨k + 1, by omega, by go_num, by rw [E2.out]⟩
                      case measure => simp [intOf]; omega
                  · have ha2 : (bits BinOp.and IntKind.u64 (d / 2 ^ k) 1 == 0) = false := by simpa [alive] using hal
                    obtain ⟨e1, e2⟩ := nxt_dead (f := fun z => (z : Int)) (n := q) (i := r) HA.out hk (by simpa using hal)
                    rw [e1] at hck
                    have E2 := Lib.hid e2
                    obtain ⟨y, hy⟩ : ∃ y, nxt a q d r k = y := ⟨_, rfl⟩
                    rw [hy] at hxq E2 ⊢
                    clear e1 e2 hal hy
                    go_wp2
                    go_round
                    case rel => exact ⟨k + 1, by omega, by go_num, by rw [E2.out]⟩
                    case measure => simp [intOf]; omega
                · obtain rfl : k = m := by omega
                  have E2 := Lib.hid (nxt_end (n := q) (i := r) HA.out)
                  obtain ⟨y, hy⟩ : ∃ y, nxt a q d r k = y := ⟨_, rfl⟩
                  rw [hy] at E2 ⊢
                  clear hy
                  go_wp2
                  go_round
                  case rel => exact ⟨r + 1, by omega, by go_num, by rw [E2.out]⟩
                  case measure => simp [intOf]; omega
            · obtain rfl : r = cn := by omega
              have hlast := nxt_last (a := a) (n := q) (i := r) (d := d) HA1.out HCN.out.symm
              rw [hlast]
              clear hlast
              go_wp2
              go_ret
              exact ⟨rfl, HBX.out⟩
        · have HP := Lib.hid (pack_no m d q c8 A8 wr hd0 hd hok)
          clear hok
          go_wp2_with (go_at_call 22; (with_reducible refine HP.out.mono ?_); rintro e w9 ⟨rfl, hb9⟩; have HB9 := Lib.hid (HL.out.trans (hb9.mono HL.out.size)); clear hb9)
          go_ret
          exact ⟨rfl, HB9.out.alloc HB9.out.size _⟩
end Go.Proofs.Ytjknmancnfeifaa
