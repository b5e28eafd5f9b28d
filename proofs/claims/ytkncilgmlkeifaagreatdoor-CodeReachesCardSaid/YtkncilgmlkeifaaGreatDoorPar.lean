/-
  Package code: the contract of Parse.
-/
import Derived.Test.YtkncilgmlkeifaaGreatDoorCdm
import Derived.Test.YtkncilgmlkeifaaGreatDoorRdx
set_option linter.unusedVariables false
set_option linter.unusedSimpArgs false
namespace Go.Proofs.YtkncilgmlkeifaaGreatDoor
open Go.ChangeShapes Go.WideShapes Go.ChangeAt Go.RowKit Go.Shelf

/-- The text is that of the code that is read. -/
def parseB (s : ByteArray) : Bool := decide (chkC (readV s) = 0) && decide ((⟨(txtC (readV s)).toArray⟩ : ByteArray) = s)
def parseC (s : ByteArray) : CdV := if parseB s = true then readV s else cd0
def parseE (s : ByteArray) : Int := if parseB s = true then 0 else 3
def ParsePost (s : ByteArray) (w : World) (e : Ending) (w' : World) : Prop := ∃ a, e = .returned (.tuple #[cdval (parseC s) a, .int .i64 (parseE s)]) ∧ CdK (parseC s) a w' ∧ Below w.heap.size w w'
def noAd : CdA := ⟨none, 0, none, 0, none, 0, fun _ => none, fun _ => 0⟩
theorem cd0_mem (W : World) : CdK cd0 noAd W := fun W' _ =>
  ⟨fun h => absurd h (by decide), fun h => absurd h (by decide), fun h => absurd h (by decide), fun j h => absurd h (by simp [cd0]), fun j h => absurd h (by simp [cd0]), fun j => by
    show ((([] : List ArV).getD j noA).1).size ≤ _
    simp [noA]
    decide⟩
theorem OneK.set {w wx : World} {T : TypeId} {K : Array Value} (h : OneK w T K wx) {p : Addr} (hp : w.heap.size + 1 ≤ p.block) (v : Value) : OneK w T K (wx.setCell p v) := ⟨h.on.setCell hp v⟩
theorem OneK.alloc {w wx : World} {T : TypeId} {K : Array Value} (h : OneK w T K wx) (o : Obj) : OneK w T K (wx.alloc o) := h.step ((Below.refl _ _).alloc (Nat.le_refl _) _)
theorem OneK.free {w wx : World} {T : TypeId} {K : Array Value} (h : OneK w T K wx) (o : Nat) : wx.frozen? ⟨w.heap.size, o, none⟩ = false := by simp [World.frozen?, h.blk]
set_option maxRecDepth 100000 in
set_option maxHeartbeats 8000000 in
theorem Parse_c (s : ByteArray) (w : World) (hs : s.size ≤ 65536) (hE : EnvP w) : Calls Tryz.prog 32 #[.string s] w (ParsePost s w) := by
  have HK0 := Lib.hid (OneK.start (w := w) (T := 36) (K := zer8))
  have HR := Lib.hid (fun (W : World) (hW : OneK w 36 zer8 W) => read_c s W hs (hE.on hW.below))
  have HP := Lib.hid (show ParsePost s w = fun e w' => ∃ a, e = .returned (.tuple #[cdval (parseC s) a, .int .i64 (parseE s)]) ∧ CdK (parseC s) a w' ∧ Below w.heap.size w w' from rfl)
  have hfit := readK_fits s hs
  have hok := (readK_ok s (nLines s)).rng
  have HTE := Lib.hid (fun (a : CdA) (W : World) (hM : CdK (readV s) a W) (hz : chkC (readV s) ≠ 0) => Text_cerr (readV s) a W hM.mem hfit hz)
  have HTO := Lib.hid (fun (a : CdA) (W : World) (hM : CdK (readV s) a W) (hW : OneK w 36 zer8 W) (hz : chkC (readV s) = 0) => Text_cok (readV s) a W hM.mem hfit hok (hE.on hW.below).tab hz)
  unfold ReadPost at HR
  unfold parseC parseE parseB at HP
  obtain ⟨c, hc⟩ : ∃ c, readV s = c := ⟨_, rfl⟩
  rw [hc] at HR HP HTE HTO
  obtain ⟨z, hz⟩ : ∃ z, chkC c = z := ⟨_, rfl⟩
  rw [hz] at HP HTE HTO
  obtain ⟨T, hT⟩ : ∃ T : ByteArray, (⟨(txtC c).toArray⟩ : ByteArray) = T := ⟨_, rfl⟩
  rw [hT] at HP HTO
  clear hfit hok hc hz hT hE
  simp only [cdval] at HR HTE HTO
  have HBL := Lib.hid (fun (W : World) (hW : OneK w 36 zer8 W) (v0 v1 v2 v3 v4 v5 v6 v7 : Value) => ((((((((hW.below.setCell (Nat.le_refl _) v0 (p := ⟨w.heap.size, 0, none⟩)).setCell (Nat.le_refl _) v1 (p := ⟨w.heap.size, 1, none⟩)).setCell (Nat.le_refl _) v2 (p := ⟨w.heap.size, 2, none⟩)).setCell (Nat.le_refl _) v3 (p := ⟨w.heap.size, 3, none⟩)).setCell (Nat.le_refl _) v4 (p := ⟨w.heap.size, 4, none⟩)).setCell (Nat.le_refl _) v5 (p := ⟨w.heap.size, 5, none⟩)).setCell (Nat.le_refl _) v6 (p := ⟨w.heap.size, 6, none⟩)).setCell (Nat.le_refl _) v7 (p := ⟨w.heap.size, 7, none⟩)))
  by_cases hz : z = 0
  · subst hz
    have HT := Lib.hid (fun a W hM hW => HTO.out a W hM hW rfl)
    clear HTE HTO
    by_cases hts : T = s
    · subst hts
      rw [show (decide ((0 : Int) = 0) && decide (T = T)) = true by simp] at HP
      go_enter Tryz.func32, Tryz.ntmps32
      go_wp2_with (first
        | (go_at_call 62; (with_reducible refine (HR.out _ HK0.out).mono ?_); rintro e w1 ⟨a, rfl, hM, hb⟩; have HK1 := Lib.hid (HK0.out.step hb); have HM := Lib.hid hM; clear hM hb)
        | (go_at_call 15; (with_reducible refine (HT.out a _ (HM.out.on ?_) (HK1.out.alloc _)).mono ?_); exact (Below.refl _ _).alloc (Nat.le_refl _) _; rintro e w2 ⟨rfl, hb2⟩; have HK2 := Lib.hid ((HK1.out.alloc _).step hb2); have HM2 := Lib.hid ((HM.out.on ((Below.refl _ _).alloc (Nat.le_refl _) _)).on hb2); have ck := HK2.out.ck; have cf := HK2.out.free; obtain ⟨cc, cg⟩ := bcell hb2; clear hb2))
      refine bodyPost_ret (v := .tuple #[cdval c a, .int .i64 0]) (by simp [results, Tryz.results32, go_sem, ck, cdval]) rfl ?_
      rw [HP.out]
      exact ⟨a, rfl, HM2.out.k (k36_store HK2.out.blk _ _ _ _ _ _ _ _), HBL.out _ HK2.out _ _ _ _ _ _ _ _⟩
    · have hne := bs_ne hts
      rw [show (decide ((0 : Int) = 0) && decide (T = s)) = false by simp [hts]] at HP
      clear hts
      go_enter Tryz.func32, Tryz.ntmps32
      go_wp2_with (first
        | (go_at_call 62; (with_reducible refine (HR.out _ HK0.out).mono ?_); rintro e w1 ⟨a, rfl, hM, hb⟩; have HK1 := Lib.hid (HK0.out.step hb); have HM := Lib.hid hM; clear hM hb)
        | (go_at_call 15; (with_reducible refine (HT.out a _ (HM.out.on ?_) (HK1.out.alloc _)).mono ?_); exact (Below.refl _ _).alloc (Nat.le_refl _) _; rintro e w2 ⟨rfl, hb2⟩; have HK2 := Lib.hid ((HK1.out.alloc _).step hb2); have ck := HK2.out.ck; have cf := HK2.out.free; clear hb2))
      refine bodyPost_ret (v := .tuple #[cdval cd0 noAd, .int .i64 3]) (by simp [results, Tryz.results32, go_sem, ck, cdval, cd0, noAd]) rfl ?_
      rw [HP.out]
      exact ⟨noAd, rfl, cd0_mem _, HBL.out _ HK2.out _ _ _ _ _ _ _ _⟩
  · have HT := Lib.hid (fun a W hM => HTE.out a W hM hz)
    have hzb : (z != 0) = true := by simpa using hz
    rw [show (decide (z = 0) && decide (T = s)) = false by simp [hz]] at HP
    clear HTE HTO hz
    go_enter Tryz.func32, Tryz.ntmps32
    go_wp2_with (first
      | (go_at_call 62; (with_reducible refine (HR.out _ HK0.out).mono ?_); rintro e w1 ⟨a, rfl, hM, hb⟩; have HK1 := Lib.hid (HK0.out.step hb); have HM := Lib.hid hM; clear hM hb)
      | (go_at_call 15; (with_reducible refine (HT.out a _ (HM.out.on ?_)).mono ?_); exact (Below.refl _ _).alloc (Nat.le_refl _) _; rintro e w2 ⟨rfl, hb2⟩; have HK2 := Lib.hid ((HK1.out.alloc _).step hb2); have ck := HK2.out.ck; have cf := HK2.out.free; clear hb2))
    refine bodyPost_ret (v := .tuple #[cdval cd0 noAd, .int .i64 3]) (by simp [results, Tryz.results32, go_sem, ck, cdval, cd0, noAd]) rfl ?_
    rw [HP.out]
    exact ⟨noAd, rfl, cd0_mem _, HBL.out _ HK2.out _ _ _ _ _ _ _ _⟩
end Go.Proofs.YtkncilgmlkeifaaGreatDoor
