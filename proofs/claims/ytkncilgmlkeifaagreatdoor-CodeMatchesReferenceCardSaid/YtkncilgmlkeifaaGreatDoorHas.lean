/-
  Package code: the contract of has.
-/
import Derived.Test.YtkncilgmlkeifaaGreatDoorOth
import Derived.Test.YtkncilgmlkeifaaGreatDoorAll
import Derived.StillTailTactics
import Derived.Deep.RegionWith
import Derived.ChangeKeysEq
set_option linter.unusedVariables false
set_option linter.unusedSimpArgs false
namespace Go.Proofs.YtkncilgmlkeifaaGreatDoor
open Go.ChangeShapes Go.WideShapes Go.ChangeAt Go.RowKit Go.Shelf
structure FormV.Good (f : FormV) : Prop where
 word : f.word.toList ≠ []
 subs : 0 <= f.subs /\ f.subs < 4294967296
 table : 0 <= f.table /\ f.table <= 4
 targets : 0 <= f.targets /\ f.targets <= 2
theorem FormV.Good.tab {f : FormV} (hG : f.Good) (h : (f.table != 0) = true) : 1 <= f.table := by
 have h1 := hG.table.1
 have h2 : f.table ≠ 0 := by simpa using h
 omega
structure HasK (w : World) (K F Q : Array Value) (wx : World) : Prop where
 on : Below (w.heap.size + 3) (((w.alloc (.cells K 110)).alloc (.cells F 117)).alloc (.cells Q 147)) wx
section
variable {w wx : World} {K F Q : Array Value}
theorem HasK.start (hb : Below (((w.alloc (.cells K 110)).alloc (.cells F 117)).alloc (.cells Q 147)).heap.size (((w.alloc (.cells K 110)).alloc (.cells F 117)).alloc (.cells Q 147)) wx) : HasK w K F Q wx := ⟨hb.mono (by simp only [World.size_alloc]; omega)⟩
theorem HasK.size (h : HasK w K F Q wx) : w.heap.size + 3 <= wx.heap.size := by
 have := h.on.size
 simp only [World.size_alloc] at this
 omega
theorem HasK.step {w' : World} (h : HasK w K F Q wx) (hb : Below wx.heap.size wx w') : HasK w K F Q w' := ⟨h.on.trans (hb.mono h.size)⟩
theorem HasK.drew (h : HasK w K F Q wx) : HasK w K F Q wx.drew := ⟨h.on.drew⟩
theorem HasK.below (h : HasK w K F Q wx) : Below w.heap.size w wx := ((((Below.refl _ _).alloc (Nat.le_refl _) _).alloc (by simp) _).alloc (by simp; omega) _).trans (h.on.mono (by omega))
theorem HasK.ck (h : HasK w K F Q wx) (o : Nat) : wx.cell? ⟨w.heap.size, o, none⟩ = K[o]? := by
 rw [h.on.cell (p := ⟨w.heap.size, o, none⟩) (by simp), World.cell?_alloc_lt _ _ _ (by simp; omega), World.cell?_alloc_lt _ _ _ (by simp), World.cell?_alloc_at _ _ _ _ rfl]
theorem HasK.cf (h : HasK w K F Q wx) (o : Nat) : wx.cell? ⟨w.heap.size + 1, o, none⟩ = F[o]? := by
 rw [h.on.cell (p := ⟨w.heap.size + 1, o, none⟩) (by simp), World.cell?_alloc_lt _ _ _ (by simp), World.cell?_alloc_at _ _ _ _ (by simp)]
theorem HasK.cq (h : HasK w K F Q wx) (o : Nat) : wx.cell? ⟨w.heap.size + 1 + 1, o, none⟩ = Q[o]? := by
 rw [h.on.cell (p := ⟨w.heap.size + 1 + 1, o, none⟩) (by simp), World.cell?_alloc_at _ _ _ _ (by simp)]
end
def zeroP (o : PartV) : Bool := ((o.sub == 0) && ((o.n == 0) && ((o.d.k == 0) && ((o.d.n == 0) && ((o.d.v == 0) && ((o.a.k == 0) && ((o.a.n == 0) && ((o.a.v == 0) && ((o.b.k == 0) && ((o.b.n == 0) && ((o.b.v == 0) && ((o.c.k == 0) && ((o.c.n == 0) && ((o.c.v == 0) && ((o.t0 == 0) && (o.t1 == 0))))))))))))))))
theorem info3z : (Tryz.prog.info? 3).map (fun i => (i.zero, i.size, i.bytes)) = some (some (.int .i64 0), 1, 8) := by kernel_rfl
theorem cells3z : Tryz.prog.cellsOf 3 = 1 := by kernel_rfl
theorem eq51 (d : Nat) (x y : Int) (w : World) : (Op.equalIn (d + 2) 51 (.agg #[x, y]) (.agg #[(0:Int), (0:Int)])).run Tryz.prog w = .ok (x == 0 && y == 0) w := by
 obtain ⟨i0, hi, _, _, _⟩ := info_parts info3z
 rw [run_equalIn_array w (d + 1) _ _ Tryz.underlying51 hi, cells3z]
 have r2 : List.range 2 = [0, 1] := rfl
 rw [r2]
 cases hx : (x == 0) <;> cases hy : (y == 0) <;> simp [Op.eqItems, go_sem, hx, hy, part]
theorem parts_neq (rs rn rt0 rt1 rdk rdn rdv rak ran rav rbk rbn rbv rck rcn rcv : Int) (w : World) :
 (binOp .neq 147 (.agg #[rs, rn, rdk, rdn, .int .i32 rdv, rak, ran, .int .i32 rav, rbk, rbn, .int .i32 rbv, rck, rcn, .int .i32 rcv, rt0, rt1]) (.agg #[(0:Int), (0:Int), (0:Int), (0:Int), .int .i32 0, (0:Int), (0:Int), .int .i32 0, (0:Int), (0:Int), .int .i32 0, (0:Int), (0:Int), .int .i32 0, (0:Int), (0:Int)])).run Tryz.prog w
  = .ok (.bool (!zeroP ⟨rs, rn, ⟨rdk, rdn, rdv⟩, ⟨rak, ran, rav⟩, ⟨rbk, rbn, rbv⟩, ⟨rck, rcn, rcv⟩, rt0, rt1⟩)) w := by
 have e51 := fun (W : World) => eq51 9997 rt0 rt1 W
 simp only [zeroP]
 go_simp
 clear e51
 by_cases h : rs = 0
 rotate_left
 . have hb : (rs == 0) = false := by simpa using h
   rw [if_neg h]
   simp only [hb, Bool.not_false, Bool.true_or]
 have hb : (rs == 0) = true := by simpa using h
 rw [if_pos h]
 simp only [hb, Bool.not_true, Bool.false_or]
 clear hb
 clear h
 by_cases h : rn = 0
 rotate_left
 . have hb : (rn == 0) = false := by simpa using h
   rw [if_neg h]
   simp only [hb, Bool.not_false, Bool.true_or]
 have hb : (rn == 0) = true := by simpa using h
 rw [if_pos h]
 simp only [hb, Bool.not_true, Bool.false_or]
 clear hb
 clear h
 by_cases h : rdk = 0
 rotate_left
 . have hb : (rdk == 0) = false := by simpa using h
   rw [if_neg h]
   simp only [hb, Bool.not_false, Bool.true_or]
 have hb : (rdk == 0) = true := by simpa using h
 rw [if_pos h]
 simp only [hb, Bool.not_true, Bool.false_or]
 clear hb
 clear h
 by_cases h : rdn = 0
 rotate_left
 . have hb : (rdn == 0) = false := by simpa using h
   rw [if_neg h]
   simp only [hb, Bool.not_false, Bool.true_or]
 have hb : (rdn == 0) = true := by simpa using h
 rw [if_pos h]
 simp only [hb, Bool.not_true, Bool.false_or]
 clear hb
 clear h
 by_cases h : rdv = 0
 rotate_left
 . have hb : (rdv == 0) = false := by simpa using h
   rw [if_neg h]
   simp only [hb, Bool.not_false, Bool.true_or]
 have hb : (rdv == 0) = true := by simpa using h
 rw [if_pos h]
 simp only [hb, Bool.not_true, Bool.false_or]
 clear hb
 clear h
 by_cases h : rak = 0
 rotate_left
 . have hb : (rak == 0) = false := by simpa using h
   rw [if_neg h]
   simp only [hb, Bool.not_false, Bool.true_or]
 have hb : (rak == 0) = true := by simpa using h
 rw [if_pos h]
 simp only [hb, Bool.not_true, Bool.false_or]
 clear hb
 clear h
 by_cases h : ran = 0
 rotate_left
 . have hb : (ran == 0) = false := by simpa using h
   rw [if_neg h]
   simp only [hb, Bool.not_false, Bool.true_or]
 have hb : (ran == 0) = true := by simpa using h
 rw [if_pos h]
 simp only [hb, Bool.not_true, Bool.false_or]
 clear hb
 clear h
 by_cases h : rav = 0
 rotate_left
 . have hb : (rav == 0) = false := by simpa using h
   rw [if_neg h]
   simp only [hb, Bool.not_false, Bool.true_or]
 have hb : (rav == 0) = true := by simpa using h
 rw [if_pos h]
 simp only [hb, Bool.not_true, Bool.false_or]
 clear hb
 clear h
 by_cases h : rbk = 0
 rotate_left
 . have hb : (rbk == 0) = false := by simpa using h
   rw [if_neg h]
   simp only [hb, Bool.not_false, Bool.true_or]
 have hb : (rbk == 0) = true := by simpa using h
 rw [if_pos h]
 simp only [hb, Bool.not_true, Bool.false_or]
 clear hb
 clear h
 by_cases h : rbn = 0
 rotate_left
 . have hb : (rbn == 0) = false := by simpa using h
   rw [if_neg h]
   simp only [hb, Bool.not_false, Bool.true_or]
 have hb : (rbn == 0) = true := by simpa using h
 rw [if_pos h]
 simp only [hb, Bool.not_true, Bool.false_or]
 clear hb
 clear h
 by_cases h : rbv = 0
 rotate_left
 . have hb : (rbv == 0) = false := by simpa using h
   rw [if_neg h]
   simp only [hb, Bool.not_false, Bool.true_or]
 have hb : (rbv == 0) = true := by simpa using h
 rw [if_pos h]
 simp only [hb, Bool.not_true, Bool.false_or]
 clear hb
 clear h
 by_cases h : rck = 0
 rotate_left
 . have hb : (rck == 0) = false := by simpa using h
   rw [if_neg h]
   simp only [hb, Bool.not_false, Bool.true_or]
 have hb : (rck == 0) = true := by simpa using h
 rw [if_pos h]
 simp only [hb, Bool.not_true, Bool.false_or]
 clear hb
 clear h
 by_cases h : rcn = 0
 rotate_left
 . have hb : (rcn == 0) = false := by simpa using h
   rw [if_neg h]
   simp only [hb, Bool.not_false, Bool.true_or]
 have hb : (rcn == 0) = true := by simpa using h
 rw [if_pos h]
 simp only [hb, Bool.not_true, Bool.false_or]
 clear hb
 clear h
 by_cases h : rcv = 0
 rotate_left
 . have hb : (rcv == 0) = false := by simpa using h
   rw [if_neg h]
   simp only [hb, Bool.not_false, Bool.true_or]
 have hb : (rcv == 0) = true := by simpa using h
 rw [if_pos h]
 simp only [hb, Bool.not_true, Bool.false_or]
 clear hb
 clear h
 cases h1 : (rt0 == 0) <;> cases h2 : (rt1 == 0) <;> simp_all
def hasV (p sl r : Int) (n1 n3 : Nat) (sp : Nat -> Int) (f : FormV) (q : PartV) : Bool :=
 zeroP (othV f q) && (((!(f.subs != 0) || hasB f.subs q.sub) && (!(f.table != 0) || idxB p sl n1 sp f.table q.n)) &&
  (((!f.d || regB r q.d) && ((!f.a || valB r q.a) && ((!f.b || valB r q.b) && (!f.c || valB r q.c)))) &&
   (List.range f.targets.toNat).all fun j => wthB (if j = 0 then q.t0 else q.t1) 0 ((n3 : Int) - 1)))
section
variable (g s r sl p : Int) (n1 c1 n2 c2 n3 c3 : Nat) (A1 A2 A3 : Option Addr) (nm : Nat -> ByteArray) (sp ty ln : Nat -> Int)
set_option maxRecDepth 100000 in
set_option maxHeartbeats 8000000 in
theorem has_any (f : FormV) (q : PartV) (w : World) (hG : f.Good) (hr : RAr w w.heap.size A1 n1 nm sp ty ln) (r0 : 0 <= r) (r1 : r <= 9223372036854775807) (p0 : 0 <= p) (p1 : p <= 9223372036854775807) (s0 : 0 <= sl) (s1 : sl <= 9223372036854775807) (hn1 : n1 <= 65536) (hn3 : n3 <= 65536) :
 Calls Tryz.prog 147 #[.agg #[g, s, r, sl, p, .slice A1 n1 c1, .slice A2 n2 c2, .slice A3 n3 c3], f.val, q.val] w fun e w' => e = .returned (.bool (hasV p sl r n1 n3 sp f q)) /\ Below w.heap.size w w' := by
 have HO := lh (fun W => others_any f q W hG.targets)
 have HS := lh (fun W => setHas_any f.subs q.sub W hG.subs.1 hG.subs.2)
 have HI := lh (fun (W : World) (hW : Below w.heap.size w W) (h1 : 1 <= f.table) => isIndex_any g s r sl p n1 c1 n2 c2 n3 c3 A1 A2 A3 nm sp ty ln f.table q.n W ⟨h1, hG.table.2⟩ p0 p1 s0 s1 hn1 (show RAr W W.heap.size A1 n1 nm sp ty ln from fun hn => by
  obtain ⟨b, off, e, hlt, hc⟩ := (hr.below hW) hn
  exact ⟨b, off, e, by have := hW.size; omega, hc⟩))
 have HD := lh (fun (W : World) => isRegister_any g s r sl p n1 c1 n2 c2 n3 c3 A1 A2 A3 q.d.k q.d.n q.d.v W r0 r1)
 have HA := lh (fun (W : World) => isValue_any g s r sl p n1 c1 n2 c2 n3 c3 A1 A2 A3 q.a.k q.a.n q.a.v W r0 r1)
 have HBB := lh (fun (W : World) => isValue_any g s r sl p n1 c1 n2 c2 n3 c3 A1 A2 A3 q.b.k q.b.n q.b.v W r0 r1)
 have HC := lh (fun (W : World) => isValue_any g s r sl p n1 c1 n2 c2 n3 c3 A1 A2 A3 q.c.k q.c.n q.c.v W r0 r1)
 have HT := lh (fun (h : (f.table != 0) = true) => hG.tab h)
 unfold hasV
 obtain ⟨o, ho⟩ : ∃ o, othV f q = o := ⟨_, rfl⟩
 rw [ho] at HO ⊢
 obtain ⟨bs, hbs⟩ : ∃ bs, hasB f.subs q.sub = bs := ⟨_, rfl⟩
 rw [hbs] at HS ⊢
 obtain ⟨bi, hbi⟩ : ∃ bi, idxB p sl n1 sp f.table q.n = bi := ⟨_, rfl⟩
 rw [hbi] at HI ⊢
 obtain ⟨bd, hbd⟩ : ∃ bd, regB r ⟨q.d.k, q.d.n, q.d.v⟩ = bd := ⟨_, rfl⟩
 rw [hbd] at HD
 obtain ⟨ba, hba⟩ : ∃ ba, valB r ⟨q.a.k, q.a.n, q.a.v⟩ = ba := ⟨_, rfl⟩
 rw [hba] at HA
 obtain ⟨bb, hbb⟩ : ∃ bb, valB r ⟨q.b.k, q.b.n, q.b.v⟩ = bb := ⟨_, rfl⟩
 rw [hbb] at HBB
 obtain ⟨bc, hbc⟩ : ∃ bc, valB r ⟨q.c.k, q.c.n, q.c.v⟩ = bc := ⟨_, rfl⟩
 rw [hbc] at HC
 rw [show regB r q.d = bd from hbd, show valB r q.a = ba from hba, show valB r q.b = bb from hbb, show valB r q.c = bc from hbc]
 obtain ⟨tgt, htgt⟩ : ∃ tgt : Bool, ((List.range f.targets.toNat).all fun j => wthB (if j = 0 then q.t0 else q.t1) 0 ((n3 : Int) - 1)) = tgt := ⟨_, rfl⟩
 rw [htgt]
 have hw := hG.word
 have HG := lh hG
 clear ho hbs hbi hbd hba hbb hbc hG
 obtain ⟨⟨word⟩, subs, table, d, a, b, c, targets⟩ := f
 obtain ⟨qs, qn, ⟨qdk, qdn, qdv⟩, ⟨qak, qan, qav⟩, ⟨qbk, qbn, qbv⟩, ⟨qck, qcn, qcv⟩, qt0, qt1⟩ := q
 obtain ⟨rs, rn, ⟨rdk, rdn, rdv⟩, ⟨rak, ran, rav⟩, ⟨rbk, rbn, rbv⟩, ⟨rck, rcn, rcv⟩, rt0, rt1⟩ := o
 replace hw : word ≠ [] := hw
 simp only [FormV.val, PartV.val] at HO HS HI HD HA HBB HC HT htgt ⊢
 have hneq := parts_neq rs rn rt0 rt1 rdk rdn rdv rak ran rav rbk rbn rbv rck rcn rcv
 obtain ⟨z, hz⟩ : ∃ z, zeroP ⟨rs, rn, ⟨rdk, rdn, rdv⟩, ⟨rak, ran, rav⟩, ⟨rbk, rbn, rbv⟩, ⟨rck, rcn, rcv⟩, rt0, rt1⟩ = z := ⟨_, rfl⟩
 rw [hz] at hneq ⊢
 have HTGT := lh htgt
 obtain ⟨g3, hg3⟩ : ∃ g3, ((!(subs != 0) || bs) && (!(table != 0) || bi)) = g3 := ⟨_, rfl⟩
 obtain ⟨g5, hg5⟩ : ∃ g5, ((!d || bd) && ((!a || ba) && ((!b || bb) && (!c || bc)))) = g5 := ⟨_, rfl⟩
 rw [hg3, hg5]
 have HG3 := lh hg3; have HG5 := lh hg5
 clear hz htgt hg3 hg5
 cases z
 . simp only [Bool.not_false] at hneq
   go_enter Tryz.func147, Tryz.ntmps147
   go_wp2_with (go_at_call 166; (with_reducible refine (HO.out _).mono ?_); rintro e w1 ⟨rfl, hb1⟩; have HB1 := lh (HasK.start hb1); clear hb1)
   go_ret
   exact ⟨rfl, HB1.out.below⟩
 . simp only [Bool.not_true] at hneq
   go_enter Tryz.func147, Tryz.ntmps147
   go_upto_region 3 with (go_at_call 166; (with_reducible refine (HO.out _).mono ?_); rintro e w1 ⟨rfl, hb1⟩; have HB := lh (HasK.start hb1); have ck := HB.out.ck; have cf := HB.out.cf; have cq := HB.out.cq; clear hb1)
   clear hneq HO
   go_cut [1, 41] from 7 (fun v1 v wx => v = .bool (!g3) /\ HasK w #[g, s, r, sl, p, .slice A1 n1 c1, .slice A2 n2 c2, .slice A3 n3 c3] #[.string ⟨⟨word⟩⟩, .int .u32 subs, table, .bool d, .bool a, .bool b, .bool c, targets] #[qs, qn, qdk, qdn, .int .i32 qdv, qak, qan, .int .i32 qav, qbk, qbn, .int .i32 qbv, qck, qcn, .int .i32 qcv, qt0, qt1] wx)
   case first =>
    cases hs1 : (subs != 0) <;> cases ht1 : (table != 0) <;> cases bs <;> cases bi
    all_goals
     go_wp2_with (first | (go_at_call 167; (with_reducible refine (HS.out _).mono ?_); rintro e w' ⟨rfl, rfl⟩) | (go_at_call 168; (with_reducible refine (HI.out _ HB.out.below (HT.out ht1)).mono ?_); rintro e w1 ⟨rfl, hb1⟩; have HB2 := lh (HB.out.step hb1); clear HB hb1 ck cf cq; have HB := HB2; clear HB2; have ck := HB.out.ck; have cf := HB.out.cf; have cq := HB.out.cq))
     go_meet
     exact ⟨congrArg Value.bool (by rw [<- HG3.out, hs1, ht1]; rfl), HB.out⟩
   case rest =>
    obtain ⟨rfl, hk⟩ := hcut
    have HB := lh hk; have ck := HB.out.ck; have cf := HB.out.cf; have cq := HB.out.cq; clear hk HG3 HS HI HT
    cases g3
    . go_wp2
      go_ret
      exact ⟨rfl, HB.out.below⟩
    . go_upto_region 5 with fail
      go_cut [83] from 7 (fun v wx => v = .bool (!g5) /\ HasK w #[g, s, r, sl, p, .slice A1 n1 c1, .slice A2 n2 c2, .slice A3 n3 c3] #[.string ⟨⟨word⟩⟩, .int .u32 subs, table, .bool d, .bool a, .bool b, .bool c, targets] #[qs, qn, qdk, qdn, .int .i32 qdv, qak, qan, .int .i32 qav, qbk, qbn, .int .i32 qbv, qck, qcn, .int .i32 qcv, qt0, qt1] wx)
      case first =>
       cases d
       rotate_left
       . cases bd
         . skip
           go_wp2_with (((first | go_at_call 169 | go_at_call 170); (with_reducible first | refine (HD.out _).mono ?_ | refine (HA.out _).mono ?_ | refine (HBB.out _).mono ?_ | refine (HC.out _).mono ?_); rintro e w1 ⟨rfl, hb1⟩; have HB2 := lh (HB.out.step hb1); clear HB hb1 ck cf cq; have HB := HB2; clear HB2; have ck := HB.out.ck; have cf := HB.out.cf; have cq := HB.out.cq))
           go_meet
           exact ⟨congrArg Value.bool (by rw [<- HG5.out]; first | rfl | simp), HB.out⟩
         . skip
           cases a
           rotate_left
           . cases ba
             . skip
               go_wp2_with (((first | go_at_call 169 | go_at_call 170); (with_reducible first | refine (HD.out _).mono ?_ | refine (HA.out _).mono ?_ | refine (HBB.out _).mono ?_ | refine (HC.out _).mono ?_); rintro e w1 ⟨rfl, hb1⟩; have HB2 := lh (HB.out.step hb1); clear HB hb1 ck cf cq; have HB := HB2; clear HB2; have ck := HB.out.ck; have cf := HB.out.cf; have cq := HB.out.cq))
               go_meet
               exact ⟨congrArg Value.bool (by rw [<- HG5.out]; first | rfl | simp), HB.out⟩
             . skip
               cases b
               rotate_left
               . cases bb
                 . skip
                   go_wp2_with (((first | go_at_call 169 | go_at_call 170); (with_reducible first | refine (HD.out _).mono ?_ | refine (HA.out _).mono ?_ | refine (HBB.out _).mono ?_ | refine (HC.out _).mono ?_); rintro e w1 ⟨rfl, hb1⟩; have HB2 := lh (HB.out.step hb1); clear HB hb1 ck cf cq; have HB := HB2; clear HB2; have ck := HB.out.ck; have cf := HB.out.cf; have cq := HB.out.cq))
                   go_meet
                   exact ⟨congrArg Value.bool (by rw [<- HG5.out]; first | rfl | simp), HB.out⟩
                 . skip
                   cases c
                   rotate_left
                   . cases bc
                     . skip
                       go_wp2_with (((first | go_at_call 169 | go_at_call 170); (with_reducible first | refine (HD.out _).mono ?_ | refine (HA.out _).mono ?_ | refine (HBB.out _).mono ?_ | refine (HC.out _).mono ?_); rintro e w1 ⟨rfl, hb1⟩; have HB2 := lh (HB.out.step hb1); clear HB hb1 ck cf cq; have HB := HB2; clear HB2; have ck := HB.out.ck; have cf := HB.out.cf; have cq := HB.out.cq))
                       go_meet
                       exact ⟨congrArg Value.bool (by rw [<- HG5.out]; first | rfl | simp), HB.out⟩
                     . skip
                       go_wp2_with (((first | go_at_call 169 | go_at_call 170); (with_reducible first | refine (HD.out _).mono ?_ | refine (HA.out _).mono ?_ | refine (HBB.out _).mono ?_ | refine (HC.out _).mono ?_); rintro e w1 ⟨rfl, hb1⟩; have HB2 := lh (HB.out.step hb1); clear HB hb1 ck cf cq; have HB := HB2; clear HB2; have ck := HB.out.ck; have cf := HB.out.cf; have cq := HB.out.cq))
                       go_meet
                       exact ⟨congrArg Value.bool (by rw [<- HG5.out]; first | rfl | simp), HB.out⟩
                   go_wp2_with (((first | go_at_call 169 | go_at_call 170); (with_reducible first | refine (HD.out _).mono ?_ | refine (HA.out _).mono ?_ | refine (HBB.out _).mono ?_ | refine (HC.out _).mono ?_); rintro e w1 ⟨rfl, hb1⟩; have HB2 := lh (HB.out.step hb1); clear HB hb1 ck cf cq; have HB := HB2; clear HB2; have ck := HB.out.ck; have cf := HB.out.cf; have cq := HB.out.cq))
                   go_meet
                   exact ⟨congrArg Value.bool (by rw [<- HG5.out]; first | rfl | simp), HB.out⟩
               cases c
               rotate_left
               . cases bc
                 . skip
                   go_wp2_with (((first | go_at_call 169 | go_at_call 170); (with_reducible first | refine (HD.out _).mono ?_ | refine (HA.out _).mono ?_ | refine (HBB.out _).mono ?_ | refine (HC.out _).mono ?_); rintro e w1 ⟨rfl, hb1⟩; have HB2 := lh (HB.out.step hb1); clear HB hb1 ck cf cq; have HB := HB2; clear HB2; have ck := HB.out.ck; have cf := HB.out.cf; have cq := HB.out.cq))
                   go_meet
                   exact ⟨congrArg Value.bool (by rw [<- HG5.out]; first | rfl | simp), HB.out⟩
                 . skip
                   go_wp2_with (((first | go_at_call 169 | go_at_call 170); (with_reducible first | refine (HD.out _).mono ?_ | refine (HA.out _).mono ?_ | refine (HBB.out _).mono ?_ | refine (HC.out _).mono ?_); rintro e w1 ⟨rfl, hb1⟩; have HB2 := lh (HB.out.step hb1); clear HB hb1 ck cf cq; have HB := HB2; clear HB2; have ck := HB.out.ck; have cf := HB.out.cf; have cq := HB.out.cq))
                   go_meet
                   exact ⟨congrArg Value.bool (by rw [<- HG5.out]; first | rfl | simp), HB.out⟩
               go_wp2_with (((first | go_at_call 169 | go_at_call 170); (with_reducible first | refine (HD.out _).mono ?_ | refine (HA.out _).mono ?_ | refine (HBB.out _).mono ?_ | refine (HC.out _).mono ?_); rintro e w1 ⟨rfl, hb1⟩; have HB2 := lh (HB.out.step hb1); clear HB hb1 ck cf cq; have HB := HB2; clear HB2; have ck := HB.out.ck; have cf := HB.out.cf; have cq := HB.out.cq))
               go_meet
               exact ⟨congrArg Value.bool (by rw [<- HG5.out]; first | rfl | simp), HB.out⟩
           cases b
           rotate_left
           . cases bb
             . skip
               go_wp2_with (((first | go_at_call 169 | go_at_call 170); (with_reducible first | refine (HD.out _).mono ?_ | refine (HA.out _).mono ?_ | refine (HBB.out _).mono ?_ | refine (HC.out _).mono ?_); rintro e w1 ⟨rfl, hb1⟩; have HB2 := lh (HB.out.step hb1); clear HB hb1 ck cf cq; have HB := HB2; clear HB2; have ck := HB.out.ck; have cf := HB.out.cf; have cq := HB.out.cq))
               go_meet
               exact ⟨congrArg Value.bool (by rw [<- HG5.out]; first | rfl | simp), HB.out⟩
             . skip
               cases c
               rotate_left
               . cases bc
                 . skip
                   go_wp2_with (((first | go_at_call 169 | go_at_call 170); (with_reducible first | refine (HD.out _).mono ?_ | refine (HA.out _).mono ?_ | refine (HBB.out _).mono ?_ | refine (HC.out _).mono ?_); rintro e w1 ⟨rfl, hb1⟩; have HB2 := lh (HB.out.step hb1); clear HB hb1 ck cf cq; have HB := HB2; clear HB2; have ck := HB.out.ck; have cf := HB.out.cf; have cq := HB.out.cq))
                   go_meet
                   exact ⟨congrArg Value.bool (by rw [<- HG5.out]; first | rfl | simp), HB.out⟩
                 . skip
                   go_wp2_with (((first | go_at_call 169 | go_at_call 170); (with_reducible first | refine (HD.out _).mono ?_ | refine (HA.out _).mono ?_ | refine (HBB.out _).mono ?_ | refine (HC.out _).mono ?_); rintro e w1 ⟨rfl, hb1⟩; have HB2 := lh (HB.out.step hb1); clear HB hb1 ck cf cq; have HB := HB2; clear HB2; have ck := HB.out.ck; have cf := HB.out.cf; have cq := HB.out.cq))
                   go_meet
                   exact ⟨congrArg Value.bool (by rw [<- HG5.out]; first | rfl | simp), HB.out⟩
               go_wp2_with (((first | go_at_call 169 | go_at_call 170); (with_reducible first | refine (HD.out _).mono ?_ | refine (HA.out _).mono ?_ | refine (HBB.out _).mono ?_ | refine (HC.out _).mono ?_); rintro e w1 ⟨rfl, hb1⟩; have HB2 := lh (HB.out.step hb1); clear HB hb1 ck cf cq; have HB := HB2; clear HB2; have ck := HB.out.ck; have cf := HB.out.cf; have cq := HB.out.cq))
               go_meet
               exact ⟨congrArg Value.bool (by rw [<- HG5.out]; first | rfl | simp), HB.out⟩
           cases c
           rotate_left
           . cases bc
             . skip
               go_wp2_with (((first | go_at_call 169 | go_at_call 170); (with_reducible first | refine (HD.out _).mono ?_ | refine (HA.out _).mono ?_ | refine (HBB.out _).mono ?_ | refine (HC.out _).mono ?_); rintro e w1 ⟨rfl, hb1⟩; have HB2 := lh (HB.out.step hb1); clear HB hb1 ck cf cq; have HB := HB2; clear HB2; have ck := HB.out.ck; have cf := HB.out.cf; have cq := HB.out.cq))
               go_meet
               exact ⟨congrArg Value.bool (by rw [<- HG5.out]; first | rfl | simp), HB.out⟩
             . skip
               go_wp2_with (((first | go_at_call 169 | go_at_call 170); (with_reducible first | refine (HD.out _).mono ?_ | refine (HA.out _).mono ?_ | refine (HBB.out _).mono ?_ | refine (HC.out _).mono ?_); rintro e w1 ⟨rfl, hb1⟩; have HB2 := lh (HB.out.step hb1); clear HB hb1 ck cf cq; have HB := HB2; clear HB2; have ck := HB.out.ck; have cf := HB.out.cf; have cq := HB.out.cq))
               go_meet
               exact ⟨congrArg Value.bool (by rw [<- HG5.out]; first | rfl | simp), HB.out⟩
           go_wp2_with (((first | go_at_call 169 | go_at_call 170); (with_reducible first | refine (HD.out _).mono ?_ | refine (HA.out _).mono ?_ | refine (HBB.out _).mono ?_ | refine (HC.out _).mono ?_); rintro e w1 ⟨rfl, hb1⟩; have HB2 := lh (HB.out.step hb1); clear HB hb1 ck cf cq; have HB := HB2; clear HB2; have ck := HB.out.ck; have cf := HB.out.cf; have cq := HB.out.cq))
           go_meet
           exact ⟨congrArg Value.bool (by rw [<- HG5.out]; first | rfl | simp), HB.out⟩
       cases a
       rotate_left
       . cases ba
         . skip
           go_wp2_with (((first | go_at_call 169 | go_at_call 170); (with_reducible first | refine (HD.out _).mono ?_ | refine (HA.out _).mono ?_ | refine (HBB.out _).mono ?_ | refine (HC.out _).mono ?_); rintro e w1 ⟨rfl, hb1⟩; have HB2 := lh (HB.out.step hb1); clear HB hb1 ck cf cq; have HB := HB2; clear HB2; have ck := HB.out.ck; have cf := HB.out.cf; have cq := HB.out.cq))
           go_meet
           exact ⟨congrArg Value.bool (by rw [<- HG5.out]; first | rfl | simp), HB.out⟩
         . skip
           cases b
           rotate_left
           . cases bb
             . skip
               go_wp2_with (((first | go_at_call 169 | go_at_call 170); (with_reducible first | refine (HD.out _).mono ?_ | refine (HA.out _).mono ?_ | refine (HBB.out _).mono ?_ | refine (HC.out _).mono ?_); rintro e w1 ⟨rfl, hb1⟩; have HB2 := lh (HB.out.step hb1); clear HB hb1 ck cf cq; have HB := HB2; clear HB2; have ck := HB.out.ck; have cf := HB.out.cf; have cq := HB.out.cq))
               go_meet
               exact ⟨congrArg Value.bool (by rw [<- HG5.out]; first | rfl | simp), HB.out⟩
             . skip
               cases c
               rotate_left
               . cases bc
                 . skip
                   go_wp2_with (((first | go_at_call 169 | go_at_call 170); (with_reducible first | refine (HD.out _).mono ?_ | refine (HA.out _).mono ?_ | refine (HBB.out _).mono ?_ | refine (HC.out _).mono ?_); rintro e w1 ⟨rfl, hb1⟩; have HB2 := lh (HB.out.step hb1); clear HB hb1 ck cf cq; have HB := HB2; clear HB2; have ck := HB.out.ck; have cf := HB.out.cf; have cq := HB.out.cq))
                   go_meet
                   exact ⟨congrArg Value.bool (by rw [<- HG5.out]; first | rfl | simp), HB.out⟩
                 . skip
                   go_wp2_with (((first | go_at_call 169 | go_at_call 170); (with_reducible first | refine (HD.out _).mono ?_ | refine (HA.out _).mono ?_ | refine (HBB.out _).mono ?_ | refine (HC.out _).mono ?_); rintro e w1 ⟨rfl, hb1⟩; have HB2 := lh (HB.out.step hb1); clear HB hb1 ck cf cq; have HB := HB2; clear HB2; have ck := HB.out.ck; have cf := HB.out.cf; have cq := HB.out.cq))
                   go_meet
                   exact ⟨congrArg Value.bool (by rw [<- HG5.out]; first | rfl | simp), HB.out⟩
               go_wp2_with (((first | go_at_call 169 | go_at_call 170); (with_reducible first | refine (HD.out _).mono ?_ | refine (HA.out _).mono ?_ | refine (HBB.out _).mono ?_ | refine (HC.out _).mono ?_); rintro e w1 ⟨rfl, hb1⟩; have HB2 := lh (HB.out.step hb1); clear HB hb1 ck cf cq; have HB := HB2; clear HB2; have ck := HB.out.ck; have cf := HB.out.cf; have cq := HB.out.cq))
               go_meet
               exact ⟨congrArg Value.bool (by rw [<- HG5.out]; first | rfl | simp), HB.out⟩
           cases c
           rotate_left
           . cases bc
             . skip
               go_wp2_with (((first | go_at_call 169 | go_at_call 170); (with_reducible first | refine (HD.out _).mono ?_ | refine (HA.out _).mono ?_ | refine (HBB.out _).mono ?_ | refine (HC.out _).mono ?_); rintro e w1 ⟨rfl, hb1⟩; have HB2 := lh (HB.out.step hb1); clear HB hb1 ck cf cq; have HB := HB2; clear HB2; have ck := HB.out.ck; have cf := HB.out.cf; have cq := HB.out.cq))
               go_meet
               exact ⟨congrArg Value.bool (by rw [<- HG5.out]; first | rfl | simp), HB.out⟩
             . skip
               go_wp2_with (((first | go_at_call 169 | go_at_call 170); (with_reducible first | refine (HD.out _).mono ?_ | refine (HA.out _).mono ?_ | refine (HBB.out _).mono ?_ | refine (HC.out _).mono ?_); rintro e w1 ⟨rfl, hb1⟩; have HB2 := lh (HB.out.step hb1); clear HB hb1 ck cf cq; have HB := HB2; clear HB2; have ck := HB.out.ck; have cf := HB.out.cf; have cq := HB.out.cq))
               go_meet
               exact ⟨congrArg Value.bool (by rw [<- HG5.out]; first | rfl | simp), HB.out⟩
           go_wp2_with (((first | go_at_call 169 | go_at_call 170); (with_reducible first | refine (HD.out _).mono ?_ | refine (HA.out _).mono ?_ | refine (HBB.out _).mono ?_ | refine (HC.out _).mono ?_); rintro e w1 ⟨rfl, hb1⟩; have HB2 := lh (HB.out.step hb1); clear HB hb1 ck cf cq; have HB := HB2; clear HB2; have ck := HB.out.ck; have cf := HB.out.cf; have cq := HB.out.cq))
           go_meet
           exact ⟨congrArg Value.bool (by rw [<- HG5.out]; first | rfl | simp), HB.out⟩
       cases b
       rotate_left
       . cases bb
         . skip
           go_wp2_with (((first | go_at_call 169 | go_at_call 170); (with_reducible first | refine (HD.out _).mono ?_ | refine (HA.out _).mono ?_ | refine (HBB.out _).mono ?_ | refine (HC.out _).mono ?_); rintro e w1 ⟨rfl, hb1⟩; have HB2 := lh (HB.out.step hb1); clear HB hb1 ck cf cq; have HB := HB2; clear HB2; have ck := HB.out.ck; have cf := HB.out.cf; have cq := HB.out.cq))
           go_meet
           exact ⟨congrArg Value.bool (by rw [<- HG5.out]; first | rfl | simp), HB.out⟩
         . skip
           cases c
           rotate_left
           . cases bc
             . skip
               go_wp2_with (((first | go_at_call 169 | go_at_call 170); (with_reducible first | refine (HD.out _).mono ?_ | refine (HA.out _).mono ?_ | refine (HBB.out _).mono ?_ | refine (HC.out _).mono ?_); rintro e w1 ⟨rfl, hb1⟩; have HB2 := lh (HB.out.step hb1); clear HB hb1 ck cf cq; have HB := HB2; clear HB2; have ck := HB.out.ck; have cf := HB.out.cf; have cq := HB.out.cq))
               go_meet
               exact ⟨congrArg Value.bool (by rw [<- HG5.out]; first | rfl | simp), HB.out⟩
             . skip
               go_wp2_with (((first | go_at_call 169 | go_at_call 170); (with_reducible first | refine (HD.out _).mono ?_ | refine (HA.out _).mono ?_ | refine (HBB.out _).mono ?_ | refine (HC.out _).mono ?_); rintro e w1 ⟨rfl, hb1⟩; have HB2 := lh (HB.out.step hb1); clear HB hb1 ck cf cq; have HB := HB2; clear HB2; have ck := HB.out.ck; have cf := HB.out.cf; have cq := HB.out.cq))
               go_meet
               exact ⟨congrArg Value.bool (by rw [<- HG5.out]; first | rfl | simp), HB.out⟩
           go_wp2_with (((first | go_at_call 169 | go_at_call 170); (with_reducible first | refine (HD.out _).mono ?_ | refine (HA.out _).mono ?_ | refine (HBB.out _).mono ?_ | refine (HC.out _).mono ?_); rintro e w1 ⟨rfl, hb1⟩; have HB2 := lh (HB.out.step hb1); clear HB hb1 ck cf cq; have HB := HB2; clear HB2; have ck := HB.out.ck; have cf := HB.out.cf; have cq := HB.out.cq))
           go_meet
           exact ⟨congrArg Value.bool (by rw [<- HG5.out]; first | rfl | simp), HB.out⟩
       cases c
       rotate_left
       . cases bc
         . skip
           go_wp2_with (((first | go_at_call 169 | go_at_call 170); (with_reducible first | refine (HD.out _).mono ?_ | refine (HA.out _).mono ?_ | refine (HBB.out _).mono ?_ | refine (HC.out _).mono ?_); rintro e w1 ⟨rfl, hb1⟩; have HB2 := lh (HB.out.step hb1); clear HB hb1 ck cf cq; have HB := HB2; clear HB2; have ck := HB.out.ck; have cf := HB.out.cf; have cq := HB.out.cq))
           go_meet
           exact ⟨congrArg Value.bool (by rw [<- HG5.out]; first | rfl | simp), HB.out⟩
         . skip
           go_wp2_with (((first | go_at_call 169 | go_at_call 170); (with_reducible first | refine (HD.out _).mono ?_ | refine (HA.out _).mono ?_ | refine (HBB.out _).mono ?_ | refine (HC.out _).mono ?_); rintro e w1 ⟨rfl, hb1⟩; have HB2 := lh (HB.out.step hb1); clear HB hb1 ck cf cq; have HB := HB2; clear HB2; have ck := HB.out.ck; have cf := HB.out.cf; have cq := HB.out.cq))
           go_meet
           exact ⟨congrArg Value.bool (by rw [<- HG5.out]; first | rfl | simp), HB.out⟩
       go_wp2_with (((first | go_at_call 169 | go_at_call 170); (with_reducible first | refine (HD.out _).mono ?_ | refine (HA.out _).mono ?_ | refine (HBB.out _).mono ?_ | refine (HC.out _).mono ?_); rintro e w1 ⟨rfl, hb1⟩; have HB2 := lh (HB.out.step hb1); clear HB hb1 ck cf cq; have HB := HB2; clear HB2; have ck := HB.out.ck; have cf := HB.out.cf; have cq := HB.out.cq))
       go_meet
       exact ⟨congrArg Value.bool (by rw [<- HG5.out]; first | rfl | simp), HB.out⟩
      case rest =>
       obtain ⟨rfl, hk⟩ := hcut
       have HB := lh hk; have ck := HB.out.ck; have cf := HB.out.cf; have cq := HB.out.cq; clear hk HG5 HD HA HBB HC
       cases g5
       . go_wp2
         go_ret
         exact ⟨rfl, HB.out.below⟩
       . go_upto_region 7 with fail
         have HAL := lh (fun (W : World) (hW : HasK w #[g, s, r, sl, p, .slice A1 n1 c1, .slice A2 n2 c2, .slice A3 n3 c3] #[.string ⟨⟨word⟩⟩, .int .u32 subs, table, .bool d, .bool a, .bool b, .bool c, targets] #[qs, qn, qdk, qdn, .int .i32 qdv, qak, qan, .int .i32 qav, qbk, qbn, .int .i32 qbv, qck, qcn, .int .i32 qcv, qt0, qt1] W) (n : Nat) (hn : n <= 2) => allI_any n 2 129 (.agg #[g, s, r, sl, p, .slice A1 n1 c1, .slice A2 n2 c2, .slice A3 n3 c3]) (some ⟨w.heap.size + 1 + 1, 14, none⟩) (fun j => if j = 0 then qt0 else qt1) (fun j => wthB (if j = 0 then qt0 else qt1) 0 ((n3 : Int) - 1)) W (by omega) (fun _ => ⟨_, _, rfl, by have := hW.size; omega, fun j hj => by
          have h2 : j = 0 \/ j = 1 := by omega
          rcases h2 with rfl | rfl
          . exact hW.cq 14
          . exact hW.cq 15⟩) (enters_of Tryz.func129 (by kernel_rfl) rfl) (fun j V _ _ => isTarget_any g s r sl p n1 c1 n2 c2 n3 c3 A1 A2 A3 _ V hn3))
         have ht := HG.out.targets
         simp only at ht
         have ht3 : targets = ((0 : Nat) : Int) \/ targets = ((1 : Nat) : Int) \/ targets = ((2 : Nat) : Int) := by omega
         clear ht HG
         have HB0 := HB
         rcases ht3 with rfl | rfl | rfl
         . have HAL2 := lh (fun (W : World) hW => HAL.out W hW 0 (by decide))
           have HX := lh HTGT.out
           rw [Int.toNat_natCast] at HX
           simp only [HX.out] at HAL2
           clear HAL HTGT HX
           go_region_with (go_at_call 171; (with_reducible refine (HAL2.out _ HB.out.drew).mono ?_); rintro e w1 ⟨rfl, hb1⟩; have HB2 := lh (HB.out.drew.step hb1))
           all_goals
            go_wp2
            go_ret
            exact ⟨rfl, HB2.out.below⟩
         . have HAL2 := lh (fun (W : World) hW => HAL.out W hW 1 (by decide))
           have HX := lh HTGT.out
           rw [Int.toNat_natCast] at HX
           simp only [HX.out] at HAL2
           clear HAL HTGT HX
           go_region_with (go_at_call 171; (with_reducible refine (HAL2.out _ HB.out.drew).mono ?_); rintro e w1 ⟨rfl, hb1⟩; have HB2 := lh (HB.out.drew.step hb1))
           all_goals
            go_wp2
            go_ret
            exact ⟨rfl, HB2.out.below⟩
         . have HAL2 := lh (fun (W : World) hW => HAL.out W hW 2 (by decide))
           have HX := lh HTGT.out
           rw [Int.toNat_natCast] at HX
           simp only [HX.out] at HAL2
           clear HAL HTGT HX
           go_region_with (go_at_call 171; (with_reducible refine (HAL2.out _ HB.out.drew).mono ?_); rintro e w1 ⟨rfl, hb1⟩; have HB2 := lh (HB.out.drew.step hb1))
           all_goals
            go_wp2
            go_ret
            exact ⟨rfl, HB2.out.below⟩
end
end Go.Proofs.YtkncilgmlkeifaaGreatDoor
