/- A proof that comes into a law. -/
import Derived.Test.YtmiohdibbpckaaaDoorTyI
import Derived.Deep.Slices
import Derived.OpenShut
import Derived.Lib.SmallJoins
namespace Go.Proofs.YtmiohdibbpckaaaDoor
open Go.RowKit Go.ChangeShapes Go.WideShapes Go.ChangeAt Go.Joins Go.Deep

theorem inI_open {H : Type} {enc : TypeId × Value → H} {W : World} {held : Bool} {fuel : Nat} {v : Value} {x : DataW H × List MemPlace}
    (hf : DataW.trod enc Tryd.prog W 0 (fun _ => true) held fuel 24 [v] = some x) : ∃ zs, InI W.heap.size W v zs ∧ zs.length ≤ maxLen := by
  rcases open_ints Tryd.underlying24 Tryd.underlying3 (by kernel_rfl) hf with ⟨hcs, _⟩ | ⟨y, l, c, zs, hcs, _, hl, hm, hz, _, hcell, hwz⟩
  · obtain rfl := (List.cons.inj hcs).1
    exact ⟨[], ⟨Nat.le_refl _, none, 0, rfl, .inl rfl, fun _ => rfl, Nat.le_refl _⟩, by simp⟩
  · obtain rfl := (List.cons.inj hcs).1
    simp only [if_true] at hz
    obtain ⟨q1, q2, q3⟩ := inI_of_row (w := W) (a := some y) (len := l) (cap := c) (zs := zs) (.inr ⟨y, rfl, hl, hm, hz, hcell, hwz⟩)
    exact ⟨_, q1, by omega⟩

theorem InP.shape {P : Nat} {w : World} {v : Value} {p : PrD} (h : InP P w v p) : ∃ a1 a2 b1 b2 c1 c2, v = .agg #[.slice a1 p.c.length a2, .slice b1 p.h.length b2, .slice c1 p.r.length c2] := by
  obtain ⟨a, b, c, rfl, h1, h2, h3⟩ := h
  obtain ⟨a1, a2, rfl⟩ := h1.shape
  obtain ⟨b1, b2, rfl⟩ := h2.shape
  obtain ⟨c1, c2, rfl⟩ := h3.shape
  exact ⟨a1, a2, b1, b2, c1, c2, rfl⟩

end Go.Proofs.YtmiohdibbpckaaaDoor

