/-
  The walk of ScalarFixed: for all a and b of 32 bits and every n of 16 bits the law returns true.
-/
import Derived.Test.YtikkmcgbmiddaaaDoorFixA
import Derived.Test.YtikkmcgbmiddaaaDoorFixB
import Derived.Test.YtikkmcgbmiddaaaDoorFixC
namespace Go.Proofs.YtikkmcgbmiddaaaDoor
open Go.ChangeShapes Go.WideShapes Go.ChangeAt Go.RowKit
set_option linter.unusedVariables false

theorem i16_of_wf {n : Int} (h : (Lit.int .i16 n).wf = true) : -32768 ≤ n ∧ n ≤ 32767 := by
  simp only [Lit.wf, IntKind.min, IntKind.max, IntKind.signed, IntKind.bits, Bool.and_eq_true, decide_eq_true_eq, if_true] at h; omega
theorem u8_of_wf {n : Int} (h : (Lit.int .u8 n).wf = true) : 0 ≤ n ∧ n ≤ 255 := by
  simp only [Lit.wf, IntKind.min, IntKind.max, IntKind.signed, IntKind.bits, Bool.and_eq_true] at h
  have h2 := h.2; have h1 := h.1
  simp at h1 h2; omega
theorem fix_walk (a b n : Int) (w : World) (ra : I32 a) (rb : I32 b) (hn : -32768 ≤ n ∧ n ≤ 32767) (he : Env w) :
    Calls Tryd.prog 6 #[.int .i32 a, .int .i32 b, .int .i16 n] w fun e w' => e = .returned (.bool true) ∧ Run w w' := by
  obtain ⟨hn0, hn1⟩ := hn
  by_cases h0 : b = 0
  · subst h0
    exact fix_in_0 a n w ra hn0 hn1 he (by omega) (by omega)
  · by_cases hp : 0 < b
    · by_cases h1 : a * b < -140737488355328
      · by_cases g1 : b * 2147483647 ≤ 65536 * a
        · exact fix_lo_pge a b n w ra rb hn0 hn1 he hp g1 h1
        · by_cases g2 : 65536 * a ≤ -(b) * 2147483647
          · exact fix_lo_ple a b n w ra rb hn0 hn1 he hp g2 h1
          · exact fix_lo_pin a b n w ra rb hn0 hn1 he hp (by omega) (by omega) h1
      · by_cases h2 : 140737488355328 ≤ a * b
        · by_cases g1 : b * 2147483647 ≤ 65536 * a
          · exact fix_hi_pge a b n w ra rb hn0 hn1 he hp g1 h2
          · by_cases g2 : 65536 * a ≤ -(b) * 2147483647
            · exact fix_hi_ple a b n w ra rb hn0 hn1 he hp g2 h2
            · exact fix_hi_pin a b n w ra rb hn0 hn1 he hp (by omega) (by omega) h2
        · by_cases g1 : b * 2147483647 ≤ 65536 * a
          · exact fix_in_pge a b n w ra rb hn0 hn1 he hp g1 (by omega) (by omega)
          · by_cases g2 : 65536 * a ≤ -(b) * 2147483647
            · exact fix_in_ple a b n w ra rb hn0 hn1 he hp g2 (by omega) (by omega)
            · exact fix_in_pin a b n w ra rb hn0 hn1 he hp (by omega) (by omega) (by omega) (by omega)
    · have hb : b < 0 := by omega
      by_cases h1 : a * b < -140737488355328
      · by_cases g1 : -b * 2147483647 ≤ -(65536 * a)
        · exact fix_lo_nge a b n w ra rb hn0 hn1 he hb g1 h1
        · by_cases g2 : -(65536 * a) ≤ -(-b) * 2147483647
          · exact fix_lo_nle a b n w ra rb hn0 hn1 he hb g2 h1
          · exact fix_lo_nin a b n w ra rb hn0 hn1 he hb (by omega) (by omega) h1
      · by_cases h2 : 140737488355328 ≤ a * b
        · by_cases g1 : -b * 2147483647 ≤ -(65536 * a)
          · exact fix_hi_nge a b n w ra rb hn0 hn1 he hb g1 h2
          · by_cases g2 : -(65536 * a) ≤ -(-b) * 2147483647
            · exact fix_hi_nle a b n w ra rb hn0 hn1 he hb g2 h2
            · exact fix_hi_nin a b n w ra rb hn0 hn1 he hb (by omega) (by omega) h2
        · by_cases g1 : -b * 2147483647 ≤ -(65536 * a)
          · exact fix_in_nge a b n w ra rb hn0 hn1 he hb g1 (by omega) (by omega)
          · by_cases g2 : -(65536 * a) ≤ -(-b) * 2147483647
            · exact fix_in_nle a b n w ra rb hn0 hn1 he hb g2 (by omega) (by omega)
            · exact fix_in_nin a b n w ra rb hn0 hn1 he hb (by omega) (by omega) (by omega) (by omega)
end Go.Proofs.YtikkmcgbmiddaaaDoor
