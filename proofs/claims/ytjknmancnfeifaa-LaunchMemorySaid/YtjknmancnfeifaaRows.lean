/-
  No cell of these rows narrows 'for every input' (looked for: loops, veiled, ifaces, maps, wideKeys, modest, calm, conditions, laid).
  DERIVED. THE GIVEN ROWS OF THIS SEAT. 6 by the template 'for every input the law returns true; each argument reads behind the call as it read before'; 0 by the template 'total and deterministic' (their statements: YtjknmancnfeifaaTotals.lean).
  GIVEN WITH THE SEED: the statements are not yours to turn. If you find one false, say at which input.
  Laid BY PROGRAM, IN A SANDBOX (cutbox-rows.mjs): the forced cells as the released guide's own fill.sh prints them over the translation 5c99ee26657a55c5… (all of the seat's roots in one cut). By AI agents, Wed Nov 11 2026. No macro, syntax, notation, axiom, sorry.
-/
import Derived.Test.YtjknmancnfeifaaChecked
import GoSem.Claim
import GoSem.ClaimJoined
import GoSem.ClaimMapViews
import Derived.JoinedTies
import Derived.KernelRfl
namespace Go.Proofs.Ytjknmancnfeifaa
/- THE CELL 'sum', in the pinned program and in every row, IS THE sha256 OF THE DUMP (.gsa) THAT YtjknmancnfeifaaProg.lean LOADS. Nothing in Lean hashes anything: it is a label: what it is worth is what the hold of that sum in a sandbox is worth. -/
noncomputable def Try.pinned : Pinned := { name := "ytjknmancnfeifaa", sum := "5c99ee26657a55c53bce9e856a0a01f2602317c00c6d2d021b039a1890a39a24", checked := Try.checked }
namespace Rows
def none {H : Type} : Left H := { results := [], args := [] }

/-- 'warpwrightlaw04.LaunchMatchesReference': WHATEVER THE INPUT: true; the input reads as it did. -/
def launchMatchesReferenceSpec : ChangeSpec := { name := "launchMatchesReference", fn := fun _ => fun
  | [d1, d2, d3] => { results := [.lit (.bool true)], args := [d1, d2, d3] }
  | _ => none }
def launchMatchesReferenceRow : OpenClaim := { program := "ytjknmancnfeifaa", sum := "5c99ee26657a55c53bce9e856a0a01f2602317c00c6d2d021b039a1890a39a24", func := "warpwright/warpwrightlaw04.LaunchMatchesReference", spec := "launchMatchesReference", unfollowed := true, recurses := true, apart := false }
def LaunchMatchesReferenceSaid : Prop := launchMatchesReferenceRow.holds Try.pinned (OpenSpec.ofChange launchMatchesReferenceSpec)

/-- ITS FALSE NEIGHBOUR: 'it returns false'. Refute it at one input. -/
def launchMatchesReferenceWrong : ChangeSpec := { name := "launchMatchesReference", fn := fun _ => fun
  | [d1, d2, d3] => { results := [.lit (.bool false)], args := [d1, d2, d3] }
  | _ => none }
def LaunchMatchesReferenceWrongFalsely : Prop := launchMatchesReferenceRow.holds Try.pinned (OpenSpec.ofChange launchMatchesReferenceWrong)

/-- 'warpwrightlaw04.LaunchNumbers': WHATEVER THE INPUT: true; the input reads as it did. -/
def launchNumbersSpec : ChangeSpec := { name := "launchNumbers", fn := fun _ => fun
  | [d1, d2, d3] => { results := [.lit (.bool true)], args := [d1, d2, d3] }
  | _ => none }
def launchNumbersRow : OpenClaim := { program := "ytjknmancnfeifaa", sum := "5c99ee26657a55c53bce9e856a0a01f2602317c00c6d2d021b039a1890a39a24", func := "warpwright/warpwrightlaw04.LaunchNumbers", spec := "launchNumbers", unfollowed := true, recurses := true, apart := false }
def LaunchNumbersSaid : Prop := launchNumbersRow.holds Try.pinned (OpenSpec.ofChange launchNumbersSpec)

/-- ITS FALSE NEIGHBOUR: 'it returns false'. Refute it at one input. -/
def launchNumbersWrong : ChangeSpec := { name := "launchNumbers", fn := fun _ => fun
  | [d1, d2, d3] => { results := [.lit (.bool false)], args := [d1, d2, d3] }
  | _ => none }
def LaunchNumbersWrongFalsely : Prop := launchNumbersRow.holds Try.pinned (OpenSpec.ofChange launchNumbersWrong)

/-- 'warpwrightlaw04.LaunchCollects': WHATEVER THE INPUT: true; the input reads as it did. -/
def launchCollectsSpec : ChangeSpec := { name := "launchCollects", fn := fun _ => fun
  | [d1, d2, d3] => { results := [.lit (.bool true)], args := [d1, d2, d3] }
  | _ => none }
def launchCollectsRow : OpenClaim := { program := "ytjknmancnfeifaa", sum := "5c99ee26657a55c53bce9e856a0a01f2602317c00c6d2d021b039a1890a39a24", func := "warpwright/warpwrightlaw04.LaunchCollects", spec := "launchCollects", unfollowed := true, recurses := true, apart := false }
def LaunchCollectsSaid : Prop := launchCollectsRow.holds Try.pinned (OpenSpec.ofChange launchCollectsSpec)

/-- ITS FALSE NEIGHBOUR: 'it returns false'. Refute it at one input. -/
def launchCollectsWrong : ChangeSpec := { name := "launchCollects", fn := fun _ => fun
  | [d1, d2, d3] => { results := [.lit (.bool false)], args := [d1, d2, d3] }
  | _ => none }
def LaunchCollectsWrongFalsely : Prop := launchCollectsRow.holds Try.pinned (OpenSpec.ofChange launchCollectsWrong)

/-- 'warpwrightlaw04.LaunchShuffles': WHATEVER THE INPUT: true; the input reads as it did. -/
def launchShufflesSpec : ChangeSpec := { name := "launchShuffles", fn := fun _ => fun
  | [d1, d2, d3] => { results := [.lit (.bool true)], args := [d1, d2, d3] }
  | _ => none }
def launchShufflesRow : OpenClaim := { program := "ytjknmancnfeifaa", sum := "5c99ee26657a55c53bce9e856a0a01f2602317c00c6d2d021b039a1890a39a24", func := "warpwright/warpwrightlaw04.LaunchShuffles", spec := "launchShuffles", unfollowed := true, recurses := true, apart := false }
def LaunchShufflesSaid : Prop := launchShufflesRow.holds Try.pinned (OpenSpec.ofChange launchShufflesSpec)

/-- ITS FALSE NEIGHBOUR: 'it returns false'. Refute it at one input. -/
def launchShufflesWrong : ChangeSpec := { name := "launchShuffles", fn := fun _ => fun
  | [d1, d2, d3] => { results := [.lit (.bool false)], args := [d1, d2, d3] }
  | _ => none }
def LaunchShufflesWrongFalsely : Prop := launchShufflesRow.holds Try.pinned (OpenSpec.ofChange launchShufflesWrong)

/-- 'warpwrightlaw04.LaunchPacks': WHATEVER THE INPUT: true; the input reads as it did. -/
def launchPacksSpec : ChangeSpec := { name := "launchPacks", fn := fun _ => fun
  | [d1, d2, d3] => { results := [.lit (.bool true)], args := [d1, d2, d3] }
  | _ => none }
def launchPacksRow : OpenClaim := { program := "ytjknmancnfeifaa", sum := "5c99ee26657a55c53bce9e856a0a01f2602317c00c6d2d021b039a1890a39a24", func := "warpwright/warpwrightlaw04.LaunchPacks", spec := "launchPacks", unfollowed := true, recurses := true, apart := false }
def LaunchPacksSaid : Prop := launchPacksRow.holds Try.pinned (OpenSpec.ofChange launchPacksSpec)

/-- ITS FALSE NEIGHBOUR: 'it returns false'. Refute it at one input. -/
def launchPacksWrong : ChangeSpec := { name := "launchPacks", fn := fun _ => fun
  | [d1, d2, d3] => { results := [.lit (.bool false)], args := [d1, d2, d3] }
  | _ => none }
def LaunchPacksWrongFalsely : Prop := launchPacksRow.holds Try.pinned (OpenSpec.ofChange launchPacksWrong)

/-- 'warpwrightlaw04.LaunchMemory': WHATEVER THE INPUT: true; the input reads as it did. -/
def launchMemorySpec : ChangeSpec := { name := "launchMemory", fn := fun _ => fun
  | [d1, d2, d3] => { results := [.lit (.bool true)], args := [d1, d2, d3] }
  | _ => none }
def launchMemoryRow : OpenClaim := { program := "ytjknmancnfeifaa", sum := "5c99ee26657a55c53bce9e856a0a01f2602317c00c6d2d021b039a1890a39a24", func := "warpwright/warpwrightlaw04.LaunchMemory", spec := "launchMemory", unfollowed := true, recurses := true, apart := false }
def LaunchMemorySaid : Prop := launchMemoryRow.holds Try.pinned (OpenSpec.ofChange launchMemorySpec)

/-- ITS FALSE NEIGHBOUR: 'it returns false'. Refute it at one input. -/
def launchMemoryWrong : ChangeSpec := { name := "launchMemory", fn := fun _ => fun
  | [d1, d2, d3] => { results := [.lit (.bool false)], args := [d1, d2, d3] }
  | _ => none }
def LaunchMemoryWrongFalsely : Prop := launchMemoryRow.holds Try.pinned (OpenSpec.ofChange launchMemoryWrong)

/- THE SECOND FORM. 'bulk': how many values and letters a reading holds, each counted each time it is reached (what is shared counts as often as it is met; a slice's spare places count too). A statement '..UptoSaid' is the law's where the arguments, and the package variables that the reading takes, are together of bulk at most 1048576: NARROWER than '..Said'. Prove '..Said' where nothing that the law and all that it calls make is longer than what came in: it says more and counts as full. Else prove '..UptoSaid'. A law counts once. -/
mutual
def uptoBulk {H : Type} : DataW H → Nat
  | .lit (.string bytes) => bytes.length + 1
  | .lit _ => 1
  | .nil => 1
  | .ptr d => uptoBulk d + 1
  | .slice elems spare => uptoBulkAll elems + uptoBulkAll spare + 1
  | .agg parts => uptoBulkAll parts + 1
  | .iface _ d => uptoBulk d + 1
  | .map entries => uptoBulkEntries entries + 1
  | .held _ => 1
def uptoBulkAll {H : Type} : List (DataW H) → Nat
  | [] => 0
  | d :: r => uptoBulk d + uptoBulkAll r
def uptoBulkEntries {H : Type} : List (Lit × DataW H) → Nat
  | [] => 0
  | x :: r => uptoBulkEntry x + uptoBulkEntries r
def uptoBulkEntry {H : Type} : Lit × DataW H → Nat
  | (.string bytes, d) => bytes.length + uptoBulk d + 1
  | (_, d) => uptoBulk d + 1
 end
def uptoSmall : (H : Type) → List (DataW H) → Bool := fun _ ds => decide (uptoBulkAll ds ≤ 1048576)
def OpenSpec.upto (s : _root_.Go.ChangeSpec) : _root_.Go.OpenSpec := { _root_.Go.OpenSpec.ofChange s with cond := some uptoSmall }

/-- 'warpwrightlaw04.LaunchMatchesReference', WHERE WHAT IT READS IS OF BULK AT MOST 1048576: true; the input reads as it did. -/
def launchMatchesReferenceUptoRow : OpenClaim := { program := "ytjknmancnfeifaa", sum := "5c99ee26657a55c53bce9e856a0a01f2602317c00c6d2d021b039a1890a39a24", func := "warpwright/warpwrightlaw04.LaunchMatchesReference", spec := "launchMatchesReference", unfollowed := true, recurses := true, apart := false, narrowed := true }
def LaunchMatchesReferenceUptoSaid : Prop := launchMatchesReferenceUptoRow.holds Try.pinned (OpenSpec.upto launchMatchesReferenceSpec)

/-- 'warpwrightlaw04.LaunchNumbers', WHERE WHAT IT READS IS OF BULK AT MOST 1048576: true; the input reads as it did. -/
def launchNumbersUptoRow : OpenClaim := { program := "ytjknmancnfeifaa", sum := "5c99ee26657a55c53bce9e856a0a01f2602317c00c6d2d021b039a1890a39a24", func := "warpwright/warpwrightlaw04.LaunchNumbers", spec := "launchNumbers", unfollowed := true, recurses := true, apart := false, narrowed := true }
def LaunchNumbersUptoSaid : Prop := launchNumbersUptoRow.holds Try.pinned (OpenSpec.upto launchNumbersSpec)

/-- 'warpwrightlaw04.LaunchCollects', WHERE WHAT IT READS IS OF BULK AT MOST 1048576: true; the input reads as it did. -/
def launchCollectsUptoRow : OpenClaim := { program := "ytjknmancnfeifaa", sum := "5c99ee26657a55c53bce9e856a0a01f2602317c00c6d2d021b039a1890a39a24", func := "warpwright/warpwrightlaw04.LaunchCollects", spec := "launchCollects", unfollowed := true, recurses := true, apart := false, narrowed := true }
def LaunchCollectsUptoSaid : Prop := launchCollectsUptoRow.holds Try.pinned (OpenSpec.upto launchCollectsSpec)

/-- 'warpwrightlaw04.LaunchShuffles', WHERE WHAT IT READS IS OF BULK AT MOST 1048576: true; the input reads as it did. -/
def launchShufflesUptoRow : OpenClaim := { program := "ytjknmancnfeifaa", sum := "5c99ee26657a55c53bce9e856a0a01f2602317c00c6d2d021b039a1890a39a24", func := "warpwright/warpwrightlaw04.LaunchShuffles", spec := "launchShuffles", unfollowed := true, recurses := true, apart := false, narrowed := true }
def LaunchShufflesUptoSaid : Prop := launchShufflesUptoRow.holds Try.pinned (OpenSpec.upto launchShufflesSpec)

/-- 'warpwrightlaw04.LaunchPacks', WHERE WHAT IT READS IS OF BULK AT MOST 1048576: true; the input reads as it did. -/
def launchPacksUptoRow : OpenClaim := { program := "ytjknmancnfeifaa", sum := "5c99ee26657a55c53bce9e856a0a01f2602317c00c6d2d021b039a1890a39a24", func := "warpwright/warpwrightlaw04.LaunchPacks", spec := "launchPacks", unfollowed := true, recurses := true, apart := false, narrowed := true }
def LaunchPacksUptoSaid : Prop := launchPacksUptoRow.holds Try.pinned (OpenSpec.upto launchPacksSpec)

/-- 'warpwrightlaw04.LaunchMemory', WHERE WHAT IT READS IS OF BULK AT MOST 1048576: true; the input reads as it did. -/
def launchMemoryUptoRow : OpenClaim := { program := "ytjknmancnfeifaa", sum := "5c99ee26657a55c53bce9e856a0a01f2602317c00c6d2d021b039a1890a39a24", func := "warpwright/warpwrightlaw04.LaunchMemory", spec := "launchMemory", unfollowed := true, recurses := true, apart := false, narrowed := true }
def LaunchMemoryUptoSaid : Prop := launchMemoryUptoRow.holds Try.pinned (OpenSpec.upto launchMemorySpec)

end Rows
end Go.Proofs.Ytjknmancnfeifaa
