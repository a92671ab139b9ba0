/- What every law's row asks of the program's head, reckoned once. -/
import Derived.Test.YtchlnkdlnfjijaaGreatRows
import Derived.WalkKit
import Derived.ProofKit
import Derived.OpenShut
namespace Go.Proofs.YtchlnkdlnfjijaaGreat.Head
open Go.ChangeShapes Go.WideShapes Go.ChangeAt Go.RowKit

def letters : List Char := [104, 97, 114, 110, 101, 115, 115, 32, 57, 102, 48, 98, 49, 53, 102, 48, 98, 55, 56, 101, 99, 56, 57, 100, 99, 49, 99, 52, 55, 49, 54, 98, 55, 53, 57, 57, 102, 102, 53, 97, 54, 54, 56, 57, 53, 56, 102, 55, 97, 57, 56, 100, 51, 49, 97, 57, 57, 49, 100, 55, 49, 55, 49, 50, 50, 50, 56, 100, 102, 57, 97, 102, 32, 99, 117, 116, 32, 97, 116, 32, 108, 111, 111, 112, 46, 101, 120, 97, 109, 112, 108, 101, 47, 103, 48, 48, 56, 55, 56, 47, 108, 97, 119, 115, 46, 70, 110, 68, 101, 97, 108, 101, 114, 115, 32, 108, 111, 111, 112, 46, 101, 120, 97, 109, 112, 108, 101, 47, 103, 48, 48, 56, 55, 56, 47, 108, 97, 119, 115, 46, 70, 110, 69, 120, 97, 99, 116, 86, 101, 114, 105, 102, 121, 68, 101, 97, 108, 101, 114].map Char.ofNat
theorem text : Tryz.prog.initOrder = String.ofList letters := by kernel_rfl
theorem chars : Tryz.prog.initOrder.toList = letters := (congrArg String.toList text).trans String.toList_ofList
theorem make : Tryz.prog.make = some .cut := by unfold Program.make; rw [chars]; kernel_rfl
theorem lifts : Tryz.prog.liftsFinal = false := by unfold Program.liftsFinal Program.headLifts; rw [chars]; kernel_rfl
theorem enters : Tryz.prog.mayEnter = true := by unfold Program.mayEnter; rw [chars]; kernel_rfl
theorem laidOut : laidOutB Tryz.prog = true := by kernel_rfl
theorem own : ownKnob Tryz.prog.godebug = none := by kernel_rfl
end Go.Proofs.YtchlnkdlnfjijaaGreat.Head
