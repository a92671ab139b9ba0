/- From the listed sentinels to their variables' cells. -/
import Derived.Test.YtkpfmpndaenclaaDoorHexI
namespace Go.Proofs.YtkpfmpndaenclaaDoor
open Go.RowKit

theorem errVar_of_reads {W : World} {n : String} {d : DataW Unit} {nm : String} {g : Nat} (hg0 : Tryd.prog.globalNamed n = some g) (ht0 : (Tryd.prog.globals[g]?).map (·.type) = some 45)
    (h : Lib.VarReads Tryd.prog W n (.iface nm d)) : ∃ te pe, W.cell? ⟨g, 0, none⟩ = some (.iface te pe) := by
  obtain ⟨g', t, cs, fuel, p, hg, ht, hv, hd⟩ := h
  obtain rfl := Option.some.inj (hg0.symm.trans hg)
  obtain rfl := Option.some.inj (ht0.symm.trans ht)
  obtain ⟨f1, u, v, hcs, _, _⟩ := iface_of_trod Tryd.underlying45 hd
  have hc := World.var?_cell hg hv 0
  obtain ⟨cs⟩ := cs
  subst hcs
  exact ⟨u, v, by rw [hc]; rfl⟩
theorem g_syntax : Tryd.prog.globalNamed "strconv.ErrSyntax" = some 0 := by kernel_rfl
theorem t_syntax : (Tryd.prog.globals[0]?).map (·.type) = some 45 := by kernel_rfl
theorem g_range : Tryd.prog.globalNamed "strconv.ErrRange" = some 1 := by kernel_rfl
theorem t_range : (Tryd.prog.globals[1]?).map (·.type) = some 45 := by kernel_rfl
theorem errAt_of_laid {l : List (String × DataW Unit)} {W : World} (h : laidMet Tryd.prog l W) (h1 : ("strconv.ErrSyntax", (Rows.laid_strconv_ErrSyntax : DataW Unit)) ∈ l) (h2 : ("strconv.ErrRange", (Rows.laid_strconv_ErrRange : DataW Unit)) ∈ l) : ErrAt W :=
  ⟨errVar_of_reads g_syntax t_syntax (Lib.laidMet.reads h h1), errVar_of_reads g_range t_range (Lib.laidMet.reads h h2)⟩
end Go.Proofs.YtkpfmpndaenclaaDoor

