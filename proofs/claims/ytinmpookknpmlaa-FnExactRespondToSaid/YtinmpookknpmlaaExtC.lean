/- Simulators and extractors: transcripts are copied and compared. -/
import Derived.Test.YtinmpookknpmlaaExtB
namespace Go.Proofs.Ytinmpookknpmlaa
open Go.RowKit
set_option linter.unusedVariables false
set_option linter.unusedSimpArgs false

theorem toTr_any (c e z : Int) (w : World) :
    Calls Try.prog 39 #[gv c e z] w fun e' w' => e' = .returned (gv c e z) ∧ Below w.heap.size w w' := by
  go_enter Try.func39, Try.ntmps39
  go_wp2
  (try simp only [Exit.inBlock, Exit.then])
  refine bodyPost_ret (v := gv c e z) ?_ rfl ⟨rfl, ?_⟩
  · rw [results_cell_one rfl]; go_simp
  · exact bt (bt (ba _ _) (ba _ _)) (ba _ _)
theorem eqTr_same (c e z : Int) (w : World) :
    Calls Try.prog 43 #[gv c e z, gv c e z] w fun e' w' => e' = .returned (.bool true) ∧ Below w.heap.size w w' := by
  have hc : (c != c) = false := by simp
  have he : (e != e) = false := by simp
  have hz : (z != z) = false := by simp
  go_enter Try.func43, Try.ntmps43
  go_wp2
  go_ret
  exact ⟨rfl, bt (ba _ _) (ba _ _)⟩

end Go.Proofs.Ytinmpookknpmlaa
