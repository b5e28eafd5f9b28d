import Derived.Lib.Hide
import Derived.ProofKit
/-
  Short words for long texts: a hidden fact, a number as a value.
-/
namespace Go.Proofs.YtkncilgmlkeifaaGreatDoor
open Go.ChangeShapes Go.WideShapes Go.ChangeAt Go.RowKit
theorem lh {p : Prop} (h : p) : Hid p := Lib.hid h
theorem kf {α : Type} {x : Option α} {a b : α} (h : x = some a) (e : a = b := by kernel_rfl) : x = some b := h.trans (congrArg some e)
instance : Coe Int Value := ⟨fun n => .int .i64 n⟩
instance : Coe Nat Value := ⟨fun n => .int .i64 (n : Int)⟩
end Go.Proofs.YtkncilgmlkeifaaGreatDoor
