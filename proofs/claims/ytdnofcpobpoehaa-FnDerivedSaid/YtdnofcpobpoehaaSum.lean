/- SumMod of the program and of the reference. -/
import Derived.Test.YtdnofcpobpoehaaCopy
namespace Go.Proofs.Ytdnofcpobpoehaa
open Go.RowKit

theorem new_cell (w : World) (v : Value) (t : TypeId) : (w.alloc (.cells #[v] t)).cell? ⟨w.heap.size, 0, none⟩ = some v := by
  rw [World.cell?_alloc_at _ _ _ _ rfl]; rfl

/-- What SumMod answers. -/
def sumMod (zs : List Int) (m : Int) : Int := if listB zs m then sumFrom m 0 zs else 0

end Go.Proofs.Ytdnofcpobpoehaa

