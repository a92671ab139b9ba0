/- The cells of a block that may be written, by a list. -/
import Derived.Test.YtchlnkdlnfjijaaShT
namespace Go.Proofs.Ytchlnkdlnfjijaa
open Go.RowKit
set_option linter.unusedVariables false
set_option linter.unusedSimpArgs false

def VL (w : World) (b : Nat) (xs : List Value) : Prop := (∀ (i : Nat) x, xs[i]? = some x → w.cell? ⟨b, i, none⟩ = some x) ∧ (∀ i, w.frozen? ⟨b, i, none⟩ = false) ∧ b < w.heap.size
theorem vl_at (w : World) (b : Nat) (hb : w.heap.size = b) (xs : List Value) (t : TypeId) : VL (w.alloc (.cells xs.toArray t)) b xs := by
  subst hb
  refine ⟨fun i x hx => ?_, fun _ => World.frozen?_alloc_at _ _ _ _ rfl, by simp⟩
  rw [World.cell?_alloc_at _ _ _ _ rfl]
  simpa using hx
theorem VL.lt {w : World} {b : Nat} {xs : List Value} (h : VL w b xs) : b < w.heap.size := h.2.2
theorem VL.belowB {w w' : World} {b B : Nat} {xs : List Value} (h : VL w b xs) (hb : Below B w w') (hl : b < B) : VL w' b xs := by
  refine ⟨fun i x hx => ?_, fun i => ?_, Nat.lt_of_lt_of_le h.2.2 hb.size⟩
  · rw [hb.cell (p := ⟨b, i, none⟩) hl]; exact h.1 i x hx
  · rw [hb.frozen (p := ⟨b, i, none⟩) hl]; exact h.2.1 i
theorem VL.below {w w' : World} {b : Nat} {xs : List Value} (h : VL w b xs) (hb : Below w.heap.size w w') : VL w' b xs := h.belowB hb h.2.2
theorem VL.mid {w w' : World} {b Q P : Nat} {xs : List Value} (h : VL w b xs) (hm : Mid Q P w w') (ho : b < Q ∨ P ≤ b) : VL w' b xs := by
  have he := hm.block b h.2.2 ho
  refine ⟨fun i x hx => ?_, fun i => ?_, Nat.lt_of_lt_of_le h.2.2 hm.size⟩
  · rw [World.cell?_of_block (a := ⟨b, i, none⟩) he]; exact h.1 i x hx
  · rw [World.frozen?_of_block (a := ⟨b, i, none⟩) he]; exact h.2.1 i
theorem VL.other {w : World} {b : Nat} {xs : List Value} (h : VL w b xs) (a : Addr) (v : Value) (hne : a.block ≠ b) : VL (w.setCell a v) b xs := by
  refine ⟨fun i x hx => ?_, fun i => by rw [World.frozen?_setCell]; exact h.2.1 i, by simpa using h.2.2⟩
  rw [World.cell?_setCell_other _ _ _ _ (fun e => hne (by rw [e]))]; exact h.1 i x hx
theorem VL.set {w : World} {b : Nat} {xs : List Value} (h : VL w b xs) (j : Nat) (v : Value) (hj : j < xs.length) : VL (w.setCell ⟨b, j, none⟩ v) b (xs.set j v) := by
  refine ⟨fun i x hx => ?_, fun i => by rw [World.frozen?_setCell]; exact h.2.1 i, by simpa using h.2.2⟩
  by_cases e : j = i
  · subst e
    rw [List.getElem?_set_self hj] at hx
    cases hx
    exact World.cell?_setCell_same _ _ _ (h.1 j _ (List.getElem?_eq_getElem hj))
  · rw [List.getElem?_set_ne e] at hx
    rw [World.cell?_setCell_other _ _ _ _ (by simp [e])]; exact h.1 i x hx

end Go.Proofs.Ytchlnkdlnfjijaa

