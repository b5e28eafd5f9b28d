/-
  DERIVED. GIVEN WITH THE SEED: THE CARDS: each row of YtkncilgmlkeifaaGreatDoorRows.lean that lists a variable, with what it lists TIED to the program's text (the seventh form; the later family's looks); each row that meets fmt, with fmt's text TOLD by the authors' own Lean function (tested against real Go, not proved from fmt's source: count such statements apart). THE CARD IS WHAT COUNTS. Prove the row's statement (the work); the ties are given (YtkncilgmlkeifaaGreatDoorTie.lean); close each card by the builder's one call (the guide's Derived/Test/ToyasCard.lean, 'card_holds'). Laid BY PROGRAM, IN A SANDBOX (cutbox-door.mjs). By AI agents, Wed Nov 11 2026. No macro, syntax, notation, axiom, sorry.
-/
import Derived.Test.YtkncilgmlkeifaaGreatDoorRows
import GoSem.ClaimSeven
namespace Go.Proofs.YtkncilgmlkeifaaGreatDoor
namespace Rows

/-- THE TIED CARD OF 'warpwrightlaw05.CodeMatchesReference'. -/
def codeMatchesReferenceCard : Claim7 := { stood := { row := codeMatchesReferenceRow, standIns := [], harness := (true, "3208f3d9b3fc8fa5a2ce130b2a76f99328675c1c0e26b6f9a693437d4338b297"), looks := true }, kinds := [], alts := [], laidByText := true, laidKinds := [.data, .data, .data, .sentinel, .sentinel], laidTests := true, laidLooks := .later }
def CodeMatchesReferenceCardSaid : Prop := Claim7.holds Tryz.pinned (.plain (OpenSpec.ofChange codeMatchesReferenceSpec)) codeMatchesReferenceCard

/-- THE TIED CARD OF 'warpwrightlaw05.CodeTexts'. -/
def codeTextsCard : Claim7 := { stood := { row := codeTextsRow, standIns := [], harness := (true, "3208f3d9b3fc8fa5a2ce130b2a76f99328675c1c0e26b6f9a693437d4338b297"), looks := true }, kinds := [], alts := [], laidByText := true, laidKinds := [.data, .data, .data, .sentinel, .sentinel], laidTests := true, laidLooks := .later }
def CodeTextsCardSaid : Prop := Claim7.holds Tryz.pinned (.plain (OpenSpec.ofChange codeTextsSpec)) codeTextsCard

/-- THE TIED CARD OF 'warpwrightlaw05.CodeParses'. -/
def codeParsesCard : Claim7 := { stood := { row := codeParsesRow, standIns := [], harness := (true, "3208f3d9b3fc8fa5a2ce130b2a76f99328675c1c0e26b6f9a693437d4338b297"), looks := true }, kinds := [], alts := [], laidByText := true, laidKinds := [.data, .data, .data, .sentinel, .sentinel], laidTests := true, laidLooks := .later }
def CodeParsesCardSaid : Prop := Claim7.holds Tryz.pinned (.plain (OpenSpec.ofChange codeParsesSpec)) codeParsesCard

/-- THE TIED CARD OF 'warpwrightlaw05.CodeReaches'. -/
def codeReachesCard : Claim7 := { stood := { row := codeReachesRow, standIns := [], harness := (true, "3208f3d9b3fc8fa5a2ce130b2a76f99328675c1c0e26b6f9a693437d4338b297"), looks := true }, kinds := [], alts := [], laidByText := true, laidKinds := [.data, .data, .data, .sentinel, .sentinel], laidTests := true, laidLooks := .later }
def CodeReachesCardSaid : Prop := Claim7.holds Tryz.pinned (.plain (OpenSpec.ofChange codeReachesSpec)) codeReachesCard

/-- THE TIED CARD OF 'warpwrightlaw05.CodeRenames'. -/
def codeRenamesCard : Claim7 := { stood := { row := codeRenamesRow, standIns := [], harness := (true, "3208f3d9b3fc8fa5a2ce130b2a76f99328675c1c0e26b6f9a693437d4338b297"), looks := true }, kinds := [], alts := [], laidByText := true, laidKinds := [.data, .data, .data, .sentinel, .sentinel], laidTests := true, laidLooks := .later }
def CodeRenamesCardSaid : Prop := Claim7.holds Tryz.pinned (.plain (OpenSpec.ofChange codeRenamesSpec)) codeRenamesCard

/-- THE TIED CARD OF 'warpwrightlaw05.CodeForms'. -/
def codeFormsCard : Claim7 := { stood := { row := codeFormsRow, standIns := [], harness := (true, "3208f3d9b3fc8fa5a2ce130b2a76f99328675c1c0e26b6f9a693437d4338b297"), looks := true }, kinds := [], alts := [], laidByText := true, laidKinds := [.data, .data, .data, .sentinel, .sentinel], laidTests := true, laidLooks := .later }
def CodeFormsCardSaid : Prop := Claim7.holds Tryz.pinned (.plain (OpenSpec.ofChange codeFormsSpec)) codeFormsCard

/-- THE TIED CARD OF 'warpwrightlaw05.CodeLimits'. -/
def codeLimitsCard : Claim7 := { stood := { row := codeLimitsRow, standIns := [], harness := (true, "3208f3d9b3fc8fa5a2ce130b2a76f99328675c1c0e26b6f9a693437d4338b297"), looks := true }, kinds := [], alts := [], laidByText := true, laidKinds := [.data, .data, .data, .sentinel, .sentinel], laidTests := true, laidLooks := .later }
def CodeLimitsCardSaid : Prop := Claim7.holds Tryz.pinned (.plain (OpenSpec.ofChange codeLimitsSpec)) codeLimitsCard

/-- THE TIED CARD OF 'warpwrightlaw05.CodeExtends'. -/
def codeExtendsCard : Claim7 := { stood := { row := codeExtendsRow, standIns := [], harness := (true, "3208f3d9b3fc8fa5a2ce130b2a76f99328675c1c0e26b6f9a693437d4338b297"), looks := true }, kinds := [], alts := [], laidByText := true, laidKinds := [.data, .data, .data, .sentinel, .sentinel], laidTests := true, laidLooks := .later }
def CodeExtendsCardSaid : Prop := Claim7.holds Tryz.pinned (.plain (OpenSpec.ofChange codeExtendsSpec)) codeExtendsCard

/-- THE SECOND FORM's CARD OF 'warpwrightlaw05.CodeMatchesReference'. -/
def codeMatchesReferenceUptoCard : Claim7 := { stood := { row := codeMatchesReferenceUptoRow, standIns := [], harness := (true, "3208f3d9b3fc8fa5a2ce130b2a76f99328675c1c0e26b6f9a693437d4338b297"), looks := true }, kinds := [], alts := [], laidByText := true, laidKinds := [.data, .data, .data, .sentinel, .sentinel], laidTests := true, laidLooks := .later }
def CodeMatchesReferenceUptoCardSaid : Prop := Claim7.holds Tryz.pinned (.plain (OpenSpec.upto codeMatchesReferenceSpec)) codeMatchesReferenceUptoCard

/-- THE SECOND FORM's CARD OF 'warpwrightlaw05.CodeTexts'. -/
def codeTextsUptoCard : Claim7 := { stood := { row := codeTextsUptoRow, standIns := [], harness := (true, "3208f3d9b3fc8fa5a2ce130b2a76f99328675c1c0e26b6f9a693437d4338b297"), looks := true }, kinds := [], alts := [], laidByText := true, laidKinds := [.data, .data, .data, .sentinel, .sentinel], laidTests := true, laidLooks := .later }
def CodeTextsUptoCardSaid : Prop := Claim7.holds Tryz.pinned (.plain (OpenSpec.upto codeTextsSpec)) codeTextsUptoCard

/-- THE SECOND FORM's CARD OF 'warpwrightlaw05.CodeParses'. -/
def codeParsesUptoCard : Claim7 := { stood := { row := codeParsesUptoRow, standIns := [], harness := (true, "3208f3d9b3fc8fa5a2ce130b2a76f99328675c1c0e26b6f9a693437d4338b297"), looks := true }, kinds := [], alts := [], laidByText := true, laidKinds := [.data, .data, .data, .sentinel, .sentinel], laidTests := true, laidLooks := .later }
def CodeParsesUptoCardSaid : Prop := Claim7.holds Tryz.pinned (.plain (OpenSpec.upto codeParsesSpec)) codeParsesUptoCard

/-- THE SECOND FORM's CARD OF 'warpwrightlaw05.CodeReaches'. -/
def codeReachesUptoCard : Claim7 := { stood := { row := codeReachesUptoRow, standIns := [], harness := (true, "3208f3d9b3fc8fa5a2ce130b2a76f99328675c1c0e26b6f9a693437d4338b297"), looks := true }, kinds := [], alts := [], laidByText := true, laidKinds := [.data, .data, .data, .sentinel, .sentinel], laidTests := true, laidLooks := .later }
def CodeReachesUptoCardSaid : Prop := Claim7.holds Tryz.pinned (.plain (OpenSpec.upto codeReachesSpec)) codeReachesUptoCard

/-- THE SECOND FORM's CARD OF 'warpwrightlaw05.CodeRenames'. -/
def codeRenamesUptoCard : Claim7 := { stood := { row := codeRenamesUptoRow, standIns := [], harness := (true, "3208f3d9b3fc8fa5a2ce130b2a76f99328675c1c0e26b6f9a693437d4338b297"), looks := true }, kinds := [], alts := [], laidByText := true, laidKinds := [.data, .data, .data, .sentinel, .sentinel], laidTests := true, laidLooks := .later }
def CodeRenamesUptoCardSaid : Prop := Claim7.holds Tryz.pinned (.plain (OpenSpec.upto codeRenamesSpec)) codeRenamesUptoCard

/-- THE SECOND FORM's CARD OF 'warpwrightlaw05.CodeForms'. -/
def codeFormsUptoCard : Claim7 := { stood := { row := codeFormsUptoRow, standIns := [], harness := (true, "3208f3d9b3fc8fa5a2ce130b2a76f99328675c1c0e26b6f9a693437d4338b297"), looks := true }, kinds := [], alts := [], laidByText := true, laidKinds := [.data, .data, .data, .sentinel, .sentinel], laidTests := true, laidLooks := .later }
def CodeFormsUptoCardSaid : Prop := Claim7.holds Tryz.pinned (.plain (OpenSpec.upto codeFormsSpec)) codeFormsUptoCard

/-- THE SECOND FORM's CARD OF 'warpwrightlaw05.CodeLimits'. -/
def codeLimitsUptoCard : Claim7 := { stood := { row := codeLimitsUptoRow, standIns := [], harness := (true, "3208f3d9b3fc8fa5a2ce130b2a76f99328675c1c0e26b6f9a693437d4338b297"), looks := true }, kinds := [], alts := [], laidByText := true, laidKinds := [.data, .data, .data, .sentinel, .sentinel], laidTests := true, laidLooks := .later }
def CodeLimitsUptoCardSaid : Prop := Claim7.holds Tryz.pinned (.plain (OpenSpec.upto codeLimitsSpec)) codeLimitsUptoCard

/-- THE SECOND FORM's CARD OF 'warpwrightlaw05.CodeExtends'. -/
def codeExtendsUptoCard : Claim7 := { stood := { row := codeExtendsUptoRow, standIns := [], harness := (true, "3208f3d9b3fc8fa5a2ce130b2a76f99328675c1c0e26b6f9a693437d4338b297"), looks := true }, kinds := [], alts := [], laidByText := true, laidKinds := [.data, .data, .data, .sentinel, .sentinel], laidTests := true, laidLooks := .later }
def CodeExtendsUptoCardSaid : Prop := Claim7.holds Tryz.pinned (.plain (OpenSpec.upto codeExtendsSpec)) codeExtendsUptoCard
end Rows
end Go.Proofs.YtkncilgmlkeifaaGreatDoor
