/- What every law's row asks of the program's head, reckoned once. -/
import Derived.Test.YtipfckfjelignaaRows
import Derived.WalkKit
import Derived.ProofKit
import Derived.OpenShut
namespace Go.Proofs.Ytipfckfjelignaa.Head
open Go.ChangeShapes Go.WideShapes Go.ChangeAt Go.RowKit

def letters : List Char := [104, 97, 114, 110, 101, 115, 115, 32, 55, 100, 97, 52, 55, 56, 55, 50, 52, 52, 48, 51, 48, 54, 55, 50, 52, 50, 57, 100, 54, 55, 102, 51, 48, 102, 97, 97, 100, 98, 54, 49, 54, 100, 48, 52, 50, 55, 48, 53, 51, 53, 102, 51, 50, 53, 99, 53, 51, 53, 101, 52, 52, 100, 48, 49, 50, 98, 54, 50, 101, 100, 102, 50, 32, 99, 117, 116, 32, 97, 116, 32, 108, 111, 111, 112, 46, 101, 120, 97, 109, 112, 108, 101, 47, 103, 48, 48, 56, 55, 56, 47, 108, 97, 119, 115, 46, 70, 110, 82, 101, 115, 105, 100, 117, 101, 115, 32, 108, 111, 111, 112, 46, 101, 120, 97, 109, 112, 108, 101, 47, 103, 48, 48, 56, 55, 56, 47, 108, 97, 119, 115, 46, 70, 110, 71, 114, 111, 117, 112, 115, 32, 108, 111, 111, 112, 46, 101, 120, 97, 109, 112, 108, 101, 47, 103, 48, 48, 56, 55, 56, 47, 108, 97, 119, 115, 46, 70, 110, 80, 111, 119, 101, 114, 115, 32, 108, 111, 111, 112, 46, 101, 120, 97, 109, 112, 108, 101, 47, 103, 48, 48, 56, 55, 56, 47, 108, 97, 119, 115, 46, 70, 110, 73, 110, 116, 101, 114, 112, 111, 108, 97, 116, 105, 111, 110, 32, 108, 111, 111, 112, 46, 101, 120, 97, 109, 112, 108, 101, 47, 103, 48, 48, 56, 55, 56, 47, 108, 97, 119, 115, 46, 70, 110, 69, 120, 97, 99, 116, 83, 117, 109, 77, 111, 100, 32, 108, 111, 111, 112, 46, 101, 120, 97, 109, 112, 108, 101, 47, 103, 48, 48, 56, 55, 56, 47, 108, 97, 119, 115, 46, 70, 110, 69, 120, 97, 99, 116, 68, 111, 116, 77, 111, 100, 32, 108, 111, 111, 112, 46, 101, 120, 97, 109, 112, 108, 101, 47, 103, 48, 48, 56, 55, 56, 47, 108, 97, 119, 115, 46, 70, 110, 69, 120, 97, 99, 116, 77, 117, 108, 79, 102].map Char.ofNat
theorem text : Try.prog.initOrder = String.ofList letters := by kernel_rfl
theorem chars : Try.prog.initOrder.toList = letters := (congrArg String.toList text).trans String.toList_ofList
theorem make : Try.prog.make = some .cut := by unfold Program.make; rw [chars]; kernel_rfl
theorem lifts : Try.prog.liftsFinal = false := by unfold Program.liftsFinal Program.headLifts; rw [chars]; kernel_rfl
theorem enters : Try.prog.mayEnter = true := by unfold Program.mayEnter; rw [chars]; kernel_rfl
theorem laidOut : laidOutB Try.prog = true := by kernel_rfl
theorem own : ownKnob Try.prog.godebug = none := by kernel_rfl
end Go.Proofs.Ytipfckfjelignaa.Head
