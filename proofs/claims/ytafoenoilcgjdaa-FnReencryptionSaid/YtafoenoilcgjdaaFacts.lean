/- What every law's row asks of the program's head, reckoned once. -/
import Derived.Test.YtafoenoilcgjdaaRows
import Derived.WalkKit
import Derived.ProofKit
import Derived.OpenShut
namespace Go.Proofs.Ytafoenoilcgjdaa.Head
open Go.ChangeShapes Go.WideShapes Go.ChangeAt Go.RowKit

def letters : List Char := [104, 97, 114, 110, 101, 115, 115, 32, 52, 48, 99, 97, 56, 101, 54, 50, 55, 101, 56, 99, 54, 102, 56, 97, 50, 50, 97, 56, 56, 100, 53, 56, 52, 98, 52, 102, 48, 55, 53, 98, 98, 54, 101, 51, 49, 99, 49, 55, 48, 100, 48, 56, 52, 99, 56, 53, 49, 98, 48, 51, 100, 49, 53, 57, 99, 53, 48, 52, 102, 48, 55, 97, 32, 99, 117, 116, 32, 97, 116, 32, 108, 111, 111, 112, 46, 101, 120, 97, 109, 112, 108, 101, 47, 103, 48, 48, 56, 55, 56, 47, 108, 97, 119, 115, 46, 70, 110, 69, 120, 97, 99, 116, 77, 117, 108, 79, 102, 32, 108, 111, 111, 112, 46, 101, 120, 97, 109, 112, 108, 101, 47, 103, 48, 48, 56, 55, 56, 47, 108, 97, 119, 115, 46, 70, 110, 71, 114, 111, 117, 112, 115, 32, 108, 111, 111, 112, 46, 101, 120, 97, 109, 112, 108, 101, 47, 103, 48, 48, 56, 55, 56, 47, 108, 97, 119, 115, 46, 70, 110, 80, 111, 119, 101, 114, 115, 32, 108, 111, 111, 112, 46, 101, 120, 97, 109, 112, 108, 101, 47, 103, 48, 48, 56, 55, 56, 47, 108, 97, 119, 115, 46, 70, 110, 69, 120, 97, 99, 116, 82, 101, 101, 110, 99, 114, 121, 112, 116, 65, 108, 108, 32, 108, 111, 111, 112, 46, 101, 120, 97, 109, 112, 108, 101, 47, 103, 48, 48, 56, 55, 56, 47, 108, 97, 119, 115, 46, 70, 110, 69, 120, 97, 99, 116, 77, 117, 108, 67, 105, 112, 104, 101, 114, 115, 32, 108, 111, 111, 112, 46, 101, 120, 97, 109, 112, 108, 101, 47, 103, 48, 48, 56, 55, 56, 47, 108, 97, 119, 115, 46, 70, 110, 69, 120, 97, 99, 116, 80, 111, 119, 67, 105, 112, 104, 101, 114, 32, 108, 111, 111, 112, 46, 101, 120, 97, 109, 112, 108, 101, 47, 103, 48, 48, 56, 55, 56, 47, 108, 97, 119, 115, 46, 70, 110, 69, 120, 97, 99, 116, 87, 101, 105, 103, 104, 116, 101, 100, 80, 114, 111, 100, 117, 99, 116, 32, 108, 111, 111, 112, 46, 101, 120, 97, 109, 112, 108, 101, 47, 103, 48, 48, 56, 55, 56, 47, 108, 97, 119, 115, 46, 70, 110, 69, 120, 97, 99, 116, 67, 105, 112, 104, 101, 114, 83, 117, 109, 32, 108, 111, 111, 112, 46, 101, 120, 97, 109, 112, 108, 101, 47, 103, 48, 48, 56, 55, 56, 47, 108, 97, 119, 115, 46, 70, 110, 82, 101, 101, 110, 99, 114, 121, 112, 116, 105, 111, 110].map Char.ofNat
theorem text : Try.prog.initOrder = String.ofList letters := by kernel_rfl
theorem chars : Try.prog.initOrder.toList = letters := (congrArg String.toList text).trans String.toList_ofList
theorem make : Try.prog.make = some .cut := by unfold Program.make; rw [chars]; kernel_rfl
theorem lifts : Try.prog.liftsFinal = false := by unfold Program.liftsFinal Program.headLifts; rw [chars]; kernel_rfl
theorem enters : Try.prog.mayEnter = true := by unfold Program.mayEnter; rw [chars]; kernel_rfl
theorem laidOut : laidOutB Try.prog = true := by kernel_rfl
theorem own : ownKnob Try.prog.godebug = none := by kernel_rfl
end Go.Proofs.Ytafoenoilcgjdaa.Head
