/- A proof that comes into a law. -/
import Derived.Test.YtdnofcpobpoehaaTyI
import Derived.Deep.Slices
import Derived.OpenShut
import Derived.Lib.SmallJoins
namespace Go.Proofs.Ytdnofcpobpoehaa
open Go.RowKit Go.ChangeShapes Go.WideShapes Go.ChangeAt Go.Joins Go.Deep

theorem inI_open {H : Type} {enc : TypeId × Value → H} {W : World} {held : Bool} {fuel : Nat} {v : Value} {x : DataW H × List MemPlace}
    (hf : DataW.trod enc Try.prog W 0 (fun _ => true) held fuel 24 [v] = some x) : ∃ zs, InI W.heap.size W v zs ∧ zs.length ≤ maxLen := by
  rcases open_ints Try.underlying24 Try.underlying3 (by kernel_rfl) hf with ⟨hcs, _⟩ | ⟨y, l, c, zs, hcs, _, hl, hm, hz, _, hcell, hwz⟩
  · obtain rfl := (List.cons.inj hcs).1
    exact ⟨[], ⟨Nat.le_refl _, none, 0, rfl, .inl rfl, fun _ => rfl, Nat.le_refl _⟩, by simp⟩
  · obtain rfl := (List.cons.inj hcs).1
    simp only [if_true] at hz
    obtain ⟨q1, q2, q3⟩ := inI_of_row (w := W) (a := some y) (len := l) (cap := c) (zs := zs) (.inr ⟨y, rfl, hl, hm, hz, hcell, hwz⟩)
    exact ⟨_, q1, by omega⟩

set_option maxRecDepth 100000 in
theorem inP_open {H : Type} {enc : TypeId × Value → H} {W : World} {held : Bool} {b0 : Nat} {v : Value} {d : DataW H} {p : List MemPlace}
    (hv : Value.okWide Try.prog W .any b0 58 v) (h : DataW.Trod enc Try.prog W 0 (fun _ => true) held 58 v d p) :
    ∃ q : PrD, InP W.heap.size W v q ∧ q.c.length ≤ maxLen ∧ q.h.length ≤ maxLen ∧ q.r.length ≤ maxLen := by
  obtain ⟨v0, v1, v2, y0, y1, y2, n, rfl, _, _, h0, h1, h2⟩ := open_agg3 Try.underlying58 (by kernel_rfl) (by kernel_rfl) hv h
  obtain ⟨z0, k0, l0⟩ := inI_open h0
  obtain ⟨z1, k1, l1⟩ := inI_open h1
  obtain ⟨z2, k2, l2⟩ := inI_open h2
  exact ⟨⟨z0, z1, z2⟩, ⟨v0, v1, v2, rfl, k0, k1, k2⟩, l0, l1, l2⟩

theorem InP.shape {P : Nat} {w : World} {v : Value} {p : PrD} (h : InP P w v p) : ∃ a1 a2 b1 b2 c1 c2, v = .agg #[.slice a1 p.c.length a2, .slice b1 p.h.length b2, .slice c1 p.r.length c2] := by
  obtain ⟨a, b, c, rfl, h1, h2, h3⟩ := h
  obtain ⟨a1, a2, rfl⟩ := h1.shape
  obtain ⟨b1, b2, rfl⟩ := h2.shape
  obtain ⟨c1, c2, rfl⟩ := h3.shape
  exact ⟨a1, a2, b1, b2, c1, c2, rfl⟩

end Go.Proofs.Ytdnofcpobpoehaa

