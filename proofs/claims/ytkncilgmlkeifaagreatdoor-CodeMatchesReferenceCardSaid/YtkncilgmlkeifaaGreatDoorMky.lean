import Derived.Test.YtkncilgmlkeifaaGreatDoorMkx
/-
  A code that the maker makes is accepted by the checker.
-/
set_option linter.unusedVariables false
set_option linter.unusedSimpArgs false
namespace Go.Proofs.YtkncilgmlkeifaaGreatDoor
open Go.ChangeShapes Go.WideShapes Go.ChangeAt Go.RowKit Go.Shelf
section
variable {g s r sl p : Int} {ls : List LoV} {bs : List BlV} {n : Nat -> Int}
end
end Go.Proofs.YtkncilgmlkeifaaGreatDoor
