/- What every law's row asks of the program's head, reckoned once. -/
import Derived.Test.YtblclghbabhdlaaRows
import Derived.WalkKit
import Derived.ProofKit
import Derived.OpenShut
namespace Go.Proofs.Ytblclghbabhdlaa.Head
open Go.ChangeShapes Go.WideShapes Go.ChangeAt Go.RowKit

def letters : List Char := [104, 97, 114, 110, 101, 115, 115, 32, 97, 100, 56, 50, 56, 54, 53, 56, 102, 100, 102, 98, 57, 102, 97, 56, 57, 97, 50, 51, 52, 100, 56, 51, 101, 53, 100, 56, 97, 50, 56, 101, 97, 48, 99, 97, 50, 97, 54, 99, 53, 54, 48, 53, 53, 50, 50, 50, 55, 48, 102, 55, 97, 56, 55, 49, 98, 101, 99, 98, 51, 56, 54, 102, 32, 99, 117, 116, 32, 97, 116, 32, 108, 111, 111, 112, 46, 101, 120, 97, 109, 112, 108, 101, 47, 103, 48, 48, 56, 55, 56, 47, 108, 97, 119, 115, 46, 70, 110, 69, 120, 97, 99, 116, 80, 114, 111, 118, 101, 66, 105, 116, 32, 108, 111, 111, 112, 46, 101, 120, 97, 109, 112, 108, 101, 47, 103, 48, 48, 56, 55, 56, 47, 108, 97, 119, 115, 46, 70, 110, 69, 120, 97, 99, 116, 86, 101, 114, 105, 102, 121, 66, 105, 116, 32, 108, 111, 111, 112, 46, 101, 120, 97, 109, 112, 108, 101, 47, 103, 48, 48, 56, 55, 56, 47, 108, 97, 119, 115, 46, 70, 110, 69, 120, 97, 99, 116, 67, 111, 105, 110, 115, 70, 111, 114, 82, 97, 110, 103, 101, 32, 108, 111, 111, 112, 46, 101, 120, 97, 109, 112, 108, 101, 47, 103, 48, 48, 56, 55, 56, 47, 108, 97, 119, 115, 46, 70, 110, 69, 120, 97, 99, 116, 86, 101, 114, 105, 102, 121, 82, 97, 110, 103, 101, 32, 108, 111, 111, 112, 46, 101, 120, 97, 109, 112, 108, 101, 47, 103, 48, 48, 56, 55, 56, 47, 108, 97, 119, 115, 46, 70, 110, 69, 120, 97, 99, 116, 80, 114, 111, 118, 101, 83, 117, 109, 32, 108, 111, 111, 112, 46, 101, 120, 97, 109, 112, 108, 101, 47, 103, 48, 48, 56, 55, 56, 47, 108, 97, 119, 115, 46, 70, 110, 69, 120, 97, 99, 116, 86, 101, 114, 105, 102, 121, 83, 117, 109, 32, 108, 111, 111, 112, 46, 101, 120, 97, 109, 112, 108, 101, 47, 103, 48, 48, 56, 55, 56, 47, 108, 97, 119, 115, 46, 70, 110, 69, 120, 97, 99, 116, 86, 101, 114, 105, 102, 121, 73, 110, 116, 101, 114, 118, 97, 108].map Char.ofNat
theorem text : Try.prog.initOrder = String.ofList letters := by kernel_rfl
theorem chars : Try.prog.initOrder.toList = letters := (congrArg String.toList text).trans String.toList_ofList
theorem make : Try.prog.make = some .cut := by unfold Program.make; rw [chars]; kernel_rfl
theorem lifts : Try.prog.liftsFinal = false := by unfold Program.liftsFinal Program.headLifts; rw [chars]; kernel_rfl
theorem enters : Try.prog.mayEnter = true := by unfold Program.mayEnter; rw [chars]; kernel_rfl
theorem laidOut : laidOutB Try.prog = true := by kernel_rfl
theorem own : ownKnob Try.prog.godebug = none := by kernel_rfl
end Go.Proofs.Ytblclghbabhdlaa.Head
