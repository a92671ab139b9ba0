/- From a row's listed variables to what the walks ask of the world. -/
import Derived.Test.YtmiohdibbpckaaaDoorHexA
import Derived.LaidMore
import Derived.Lib.LaidU8
namespace Go.Proofs.YtmiohdibbpckaaaDoor
open Go.RowKit

def tab64 : List Int := [0, 1, 56, 2, 57, 49, 28, 3, 61, 58, 42, 50, 38, 29, 17, 4, 62, 47, 59, 36, 45, 43, 51, 22, 53, 39, 33, 30, 24, 18, 12, 5, 63, 55, 48, 27, 60, 41, 37, 16, 46, 35, 44, 21, 52, 32, 23, 11, 54, 26, 40, 15, 34, 20, 31, 10, 25, 14, 19, 9, 13, 8, 7, 6]
theorem tab64_laid : (Rows.laid_math_bits_deBruijn64tab : DataW Unit) = Lib.tabData .u8 tab64 := by rfl
theorem g_tab64 : Tryd.prog.globalNamed "math/bits.deBruijn64tab" = some 5 := by kernel_rfl
theorem t_tab64 : (Tryd.prog.globals[5]?).map (·.type) = some 159 := by kernel_rfl
theorem cells_u8 : Tryd.prog.cellsOf 5 = 1 := by kernel_rfl
theorem cells_a64 : Tryd.prog.cellsOf 159 = 64 := by kernel_rfl

/-- The table's cell, from the listed variables. -/
theorem tzAt_of_laid {l : List (String × DataW Unit)} {W : World} (h : laidMet Tryd.prog l W) (hm : ("math/bits.deBruijn64tab", (Rows.laid_math_bits_deBruijn64tab : DataW Unit)) ∈ l) : TzAt W := by
  obtain ⟨g, t, cs, fuel, p, hg, ht, hv, hd⟩ := Lib.laidMet.reads h hm
  obtain rfl := Option.some.inj (g_tab64.symm.trans hg)
  obtain rfl := Option.some.inj (t_tab64.symm.trans ht)
  rw [tab64_laid] at hd
  have hcs := Lib.cells_of_tab Tryd.underlying159 Tryd.underlying5 cells_u8 cells_a64 hd
  have hc := World.var?_cell hg hv 15
  unfold TzAt
  rw [hc]
  obtain ⟨cs⟩ := cs
  subst hcs
  rfl
end Go.Proofs.YtmiohdibbpckaaaDoor

