/-
  Contracts of the reference's Of and IdIn.
-/
import Derived.Test.YtjknmancnfeifaaNumB
set_option linter.unusedVariables false
set_option linter.unusedSimpArgs false
namespace Go.Proofs.Ytjknmancnfeifaa
open Go.ChangeShapes Go.WideShapes Go.ChangeAt Go.RowKit
attribute [local go_sem ↓] Go.wp_at_zero Go.wp_at_succ

theorem blk3 (w : World) (a b : Obj) (cs : Array Value) (t : TypeId) : (((w.alloc a).alloc b).alloc (.cells cs t)).heap[w.heap.size + 1 + 1]? = some (.cells cs t (0, 0)) := by
  have := heap_alloc_new ((w.alloc a).alloc b) (.cells cs t)
  rw [World.size_alloc, World.size_alloc] at this
  exact this
theorem box2 {w : World} {b : Nat} {x y : Value} {t : TypeId} (h : w.heap[b]? = some (.cells #[x, y] t (0, 0))) (a c : Value) (o : Obj) : (((w.setCell ⟨b, 0, none⟩ a).setCell ⟨b, 1, none⟩ c).alloc o).heap[b]? = some (.cells #[a, c] t (0, 0)) := by
  have hlt : b < w.heap.size := lt_of_block h
  rw [Below.heap_alloc _ _ _ (by simpa [World.setCell] using hlt)]
  simp [World.setCell, Array.getElem?_modify, h]
section
variable (g s r sl p gr : Int) (n1 c1 n2 c2 n3 c3 na ca : Nat) (A1 A2 A3 AA : Option Addr)
theorem ROf_any (item : Int) (w : World) (hg : 1 ≤ g) (hi : 0 ≤ item) (hi2 : item ≤ 9223372036854775807) :
    Calls Try.prog 34 #[.agg #[.int .i64 g, .int .i64 s, .int .i64 r, .int .i64 sl, .int .i64 p, .slice A1 n1 c1, .slice A2 n2 c2, .slice A3 n3 c3], .int .i64 item] w fun e w' => e = .returned (.tuple #[.int .i64 (item / g), .int .i64 (item % g)]) ∧ Below w.heap.size w w' := by
  have h0 : ¬ g = 0 := by omega
  have q1 : 0 ≤ item / g := Int.ediv_nonneg hi (by omega)
  have q2 : item / g ≤ item := Int.ediv_le_self _ hi
  have m1 : 0 ≤ item % g := Int.emod_nonneg _ h0
  have m2 : item % g < g := Int.emod_lt_of_pos _ (by omega)
  go_enter Try.func34, Try.ntmps34
  go_wp2
  go_quiet (fail)
  go_wp2
  go_ret2
  exact ⟨rfl, below_drewN ((Below.refl _ _).alloc (Nat.le_refl _) _) _⟩

set_option maxRecDepth 100000 in
set_option maxHeartbeats 1600000 in
theorem IdIn_yes (item op : Int) (w : World) (hk : chkB g s p gr na = true) (ho1 : 1 ≤ op) (ho7 : op ≤ 7) (hi0 : 0 ≤ item) (hi1 : item < gr * g) :
    Calls Try.prog 15 #[.agg #[.int .i64 g, .int .i64 s, .int .i64 r, .int .i64 sl, .int .i64 p, .slice A1 n1 c1, .slice A2 n2 c2, .slice A3 n3 c3], .agg #[.int .i64 gr, .slice AA na ca], .int .i64 item, .int .i64 op] w fun e w' => e = .returned (.agg #[.int .i32 (idN g s gr item op), .int .i64 0]) ∧ Below w.heap.size w w' := by
  obtain ⟨a1, a2, a3, a4, a5, a6, a7, a8⟩ := chk_pos hk
  have HO := fun W => ROf_any g s r sl p n1 c1 n2 c2 n3 c3 A1 A2 A3 item W a1 hi0 (by omega)
  have HOO := Lib.hid HO
  have h0 : ¬ g = 0 := by omega
  have hs0 : ¬ s = 0 := by omega
  have q1 : 0 ≤ item / g := Int.ediv_nonneg hi0 (by omega)
  have q2 : item / g ≤ item := Int.ediv_le_self _ hi0
  have m1 : 0 ≤ item % g := Int.emod_nonneg _ h0
  have m2 : item % g < g := Int.emod_lt_of_pos _ (by omega)
  have r1 : 0 ≤ item % g % s := Int.emod_nonneg _ hs0
  have r2 : item % g % s < s := Int.emod_lt_of_pos _ (by omega)
  have u1 : 0 ≤ item % g / s := Int.ediv_nonneg m1 (by omega)
  have u2 : item % g / s ≤ item % g := Int.ediv_le_self _ m1
  clear HO hk
  go_enter Try.func15, Try.ntmps15
  go_wp2_with (go_at_call 34; (with_reducible refine (HOO.out _).mono ?_); rintro e w2 ⟨rfl, hb⟩; obtain ⟨hcel, hfro⟩ := bcell hb; have hz2 : w.heap.size + 2 < w2.heap.size := (by have := hb.size; simp at this; omega); have HB2 := Lib.hid hb; clear hb)
  have d0 : w2.cell? ⟨w.heap.size, 0, none⟩ = some (.int .i64 g) := by
    rw [hcel _ _ (by simp; omega), World.cell?_alloc_lt _ _ _ (by simp; omega), World.cell?_alloc_lt _ _ _ (by simp), World.cell?_alloc_at _ _ _ _ rfl]; rfl
  have d1 : w2.cell? ⟨w.heap.size, 1, none⟩ = some (.int .i64 s) := by
    rw [hcel _ _ (by simp; omega), World.cell?_alloc_lt _ _ _ (by simp; omega), World.cell?_alloc_lt _ _ _ (by simp), World.cell?_alloc_at _ _ _ _ rfl]; rfl
  have d2 : w2.cell? ⟨w.heap.size + 1, 0, none⟩ = some (.int .i64 gr) := by
    rw [hcel _ _ (by simp), World.cell?_alloc_lt _ _ _ (by simp), World.cell?_alloc_at _ _ _ _ (by simp)]; rfl
  have hblk : w2.heap[w.heap.size + 1 + 1]? = some (.cells #[.int .i32 0, .int .i64 0] 45 (0, 0)) := (HB2.out.block _ (by simp)).trans (blk3 w _ _ _ _)
  have e0 : w2.cell? ⟨w.heap.size + 1 + 1, 0, none⟩ = some (.int .i32 0) := by simp [World.cell?, hblk]
  have e1 : w2.cell? ⟨w.heap.size + 1 + 1, 1, none⟩ = some (.int .i64 0) := by simp [World.cell?, hblk]
  have f0 : w2.frozen? ⟨w.heap.size + 1 + 1, 0, none⟩ = false := by simp [World.frozen?, hblk]
  have f1 : w2.frozen? ⟨w.heap.size + 1 + 1, 1, none⟩ = false := by simp [World.frozen?, hblk]
  have y0 : ∀ (a c : Value) (o : Obj), (((w2.setCell ⟨w.heap.size + 1 + 1, 0, none⟩ a).setCell ⟨w.heap.size + 1 + 1, 1, none⟩ c).alloc o).cell? ⟨w.heap.size + 1 + 1, 0, none⟩ = some a := fun a c o => by simp only [World.cell?, box2 hblk a c o]; rfl
  have y1 : ∀ (a c : Value) (o : Obj), (((w2.setCell ⟨w.heap.size + 1 + 1, 0, none⟩ a).setCell ⟨w.heap.size + 1 + 1, 1, none⟩ c).alloc o).cell? ⟨w.heap.size + 1 + 1, 1, none⟩ = some c := fun a c o => by simp only [World.cell?, box2 hblk a c o]; rfl
  have Y0 := Lib.hid y0
  have Y1 := Lib.hid y1
  have hz3 : ¬ w.heap.size + 1 + 1 = w2.heap.size := by omega
  have hb1 := Lib.hid (((((Below.refl w.heap.size w).alloc (Nat.le_refl _) _).alloc (by simp) _).alloc (by simp; omega) _).trans (HB2.out.mono (by simp; omega)))
  clear hcel hfro HB2 hblk y0 y1
  have x1 := World.new_ne w2 ⟨w.heap.size, 0, none⟩ d0
  have x2 := World.new_ne w2 ⟨w.heap.size, 1, none⟩ d1
  have x3 := World.new_ne w2 ⟨w.heap.size + 1, 0, none⟩ d2
  have x4 := World.new_ne w2 ⟨w.heap.size + 1 + 1, 0, none⟩ e0
  have x5 := World.new_ne w2 ⟨w.heap.size + 1 + 1, 1, none⟩ e1
  go_region_held3 (fun w' => w'.cell? ⟨w.heap.size, 0, none⟩ = some (.int .i64 g) ∧ w'.cell? ⟨w.heap.size, 1, none⟩ = some (.int .i64 s) ∧ w'.cell? ⟨w.heap.size + 1, 0, none⟩ = some (.int .i64 gr)) (go_keep) (fail)
  have hcl : (w2.alloc (.cells #[.int .i64 0, .int .i64 item, .int .i64 (item % g), .int .i64 (item / g), .int .i64 (gr * g), .int .i64 g, .int .i64 (item % g % s), .int .i64 (item % g / s)] 3)).cell? ⟨w2.heap.size, op.toNat, none⟩ = some (.int .i64 (idN g s gr item op)) := by
    rw [World.cell?_alloc_at _ _ _ _ rfl]
    have hop : op = 1 ∨ op = 2 ∨ op = 3 ∨ op = 4 ∨ op = 5 ∨ op = 6 ∨ op = 7 := by omega
    rcases hop with rfl | rfl | rfl | rfl | rfl | rfl | rfl <;> rfl
  have hid1 : -2147483648 ≤ idN g s gr item op ∧ idN g s gr item op ≤ 2147483647 := by
    unfold idN
    repeat' split
    all_goals omega
  obtain ⟨hid1, hid2⟩ := hid1
  all_goals go_wp2
  have y0 := Y0.out
  have y1 := Y1.out
  all_goals exact bodyPost_ret (v := .agg #[.int .i32 (idN g s gr item op), .int .i64 0]) (by simp [results, Try.results15, go_sem, y0, y1]) rfl ⟨rfl, ((((hb1.out.setCell (by simp; omega) _).setCell (by simp; omega) _).alloc (by simp [World.setCell]; omega) _).drew)⟩

set_option maxRecDepth 100000 in
set_option maxHeartbeats 1600000 in
theorem IdIn_no (item op : Int) (w : World) (hk : chkB g s p gr na = true) (h : ¬ (1 ≤ op ∧ op ≤ 7 ∧ 0 ≤ item ∧ item < gr * g)) :
    Calls Try.prog 15 #[.agg #[.int .i64 g, .int .i64 s, .int .i64 r, .int .i64 sl, .int .i64 p, .slice A1 n1 c1, .slice A2 n2 c2, .slice A3 n3 c3], .agg #[.int .i64 gr, .slice AA na ca], .int .i64 item, .int .i64 op] w fun e w' => e = .returned (.agg #[.int .i32 0, .int .i64 1]) ∧ Below w.heap.size w w' := by
  obtain ⟨a1, a2, a3, a4, a5, a6, a7, a8⟩ := chk_pos hk
  have hcs : op < 1 ∨ 7 < op ∨ (1 ≤ op ∧ op ≤ 7 ∧ item < 0) ∨ (1 ≤ op ∧ op ≤ 7 ∧ 0 ≤ item ∧ gr * g ≤ item) := by omega
  clear h hk
  rcases hcs with h | h | ⟨h1, h2, h⟩ | ⟨h1, h2, h3, h⟩
  all_goals
    go_enter Try.func15, Try.ntmps15
    go_wp2
    exact bodyPost_ret (v := .agg #[.int .i32 0, .int .i64 1]) (by simp [results, Try.results15, go_sem]) rfl ⟨rfl, (((Below.refl _ _).alloc (Nat.le_refl _) _).alloc (by simp) _).alloc (by simp; omega) _⟩
end
end Go.Proofs.Ytjknmancnfeifaa
