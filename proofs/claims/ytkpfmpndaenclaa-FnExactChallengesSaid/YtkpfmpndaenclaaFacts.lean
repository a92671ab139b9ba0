/- What every law's row asks of the program's head, reckoned once. -/
import Derived.Test.YtkpfmpndaenclaaRows
import Derived.WalkKit
import Derived.ProofKit
import Derived.OpenShut
namespace Go.Proofs.Ytkpfmpndaenclaa.Head
open Go.ChangeShapes Go.WideShapes Go.ChangeAt Go.RowKit

def letters : List Char := [104, 97, 114, 110, 101, 115, 115, 32, 52, 53, 101, 51, 51, 49, 56, 51, 49, 101, 101, 54, 50, 97, 57, 56, 48, 98, 55, 100, 48, 49, 57, 97, 49, 99, 101, 53, 53, 97, 54, 54, 50, 101, 57, 51, 49, 98, 50, 51, 57, 97, 97, 50, 51, 49, 102, 50, 101, 49, 53, 102, 98, 51, 98, 100, 102, 57, 98, 54, 49, 57, 98, 99, 32, 99, 117, 116, 32, 97, 116, 32, 108, 111, 111, 112, 46, 101, 120, 97, 109, 112, 108, 101, 47, 103, 48, 48, 56, 55, 56, 47, 108, 97, 119, 115, 46, 70, 110, 71, 114, 111, 117, 112, 115, 32, 108, 111, 111, 112, 46, 101, 120, 97, 109, 112, 108, 101, 47, 103, 48, 48, 56, 55, 56, 47, 108, 97, 119, 115, 46, 70, 110, 80, 111, 119, 101, 114, 115, 32, 108, 111, 111, 112, 46, 101, 120, 97, 109, 112, 108, 101, 47, 103, 48, 48, 56, 55, 56, 47, 108, 97, 119, 115, 46, 70, 110, 84, 105, 110, 121, 71, 114, 111, 117, 112, 115, 32, 108, 111, 111, 112, 46, 101, 120, 97, 109, 112, 108, 101, 47, 103, 48, 48, 56, 55, 56, 47, 108, 97, 119, 115, 46, 70, 110, 69, 120, 97, 99, 116, 72, 97, 115, 104, 73, 110, 116, 115, 32, 108, 111, 111, 112, 46, 101, 120, 97, 109, 112, 108, 101, 47, 103, 48, 48, 56, 55, 56, 47, 108, 97, 119, 115, 46, 70, 110, 69, 120, 97, 99, 116, 72, 97, 115, 104, 76, 97, 98, 101, 108, 108, 101, 100, 32, 108, 111, 111, 112, 46, 101, 120, 97, 109, 112, 108, 101, 47, 103, 48, 48, 56, 55, 56, 47, 108, 97, 119, 115, 46, 70, 110, 69, 120, 97, 99, 116, 67, 104, 97, 108, 108, 101, 110, 103, 101, 32, 108, 111, 111, 112, 46, 101, 120, 97, 109, 112, 108, 101, 47, 103, 48, 48, 56, 55, 56, 47, 108, 97, 119, 115, 46, 70, 110, 69, 120, 97, 99, 116, 67, 104, 97, 108, 108, 101, 110, 103, 101, 115, 32, 108, 111, 111, 112, 46, 101, 120, 97, 109, 112, 108, 101, 47, 103, 48, 48, 56, 55, 56, 47, 108, 97, 119, 115, 46, 70, 110, 69, 120, 97, 99, 116, 68, 101, 114, 105, 118, 101, 69, 108, 101, 109, 101, 110, 116, 32, 108, 111, 111, 112, 46, 101, 120, 97, 109, 112, 108, 101, 47, 103, 48, 48, 56, 55, 56, 47, 108, 97, 119, 115, 46, 70, 110, 69, 120, 97, 99, 116, 68, 101, 114, 105, 118, 101, 69, 108, 101, 109, 101, 110, 116, 115].map Char.ofNat
theorem text : Try.prog.initOrder = String.ofList letters := by kernel_rfl
theorem chars : Try.prog.initOrder.toList = letters := (congrArg String.toList text).trans String.toList_ofList
theorem make : Try.prog.make = some .cut := by unfold Program.make; rw [chars]; kernel_rfl
theorem lifts : Try.prog.liftsFinal = false := by unfold Program.liftsFinal Program.headLifts; rw [chars]; kernel_rfl
theorem enters : Try.prog.mayEnter = true := by unfold Program.mayEnter; rw [chars]; kernel_rfl
theorem laidOut : laidOutB Try.prog = true := by kernel_rfl
theorem own : ownKnob Try.prog.godebug = none := by kernel_rfl
end Go.Proofs.Ytkpfmpndaenclaa.Head
