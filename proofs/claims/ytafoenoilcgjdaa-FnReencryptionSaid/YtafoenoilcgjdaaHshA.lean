/- The program's hash states: an element, a list, a label. -/
import Derived.Test.YtafoenoilcgjdaaBas
import Derived.Test.YtafoenoilcgjdaaG1
namespace Go.Proofs.Ytafoenoilcgjdaa
open Go.RowKit

/-- A hash state as the walk holds it. -/
abbrev hv (s t : Int) : Value := .agg #[.int .i64 s, .int .i64 t]
/-- The two remainders' bounds. -/
def HB2 (s t : Int) : Prop := (0 ≤ s ∧ s < 2147483647) ∧ 0 ≤ t ∧ t < 2147483647
theorem hb_ab (c d s t x y : Int) : HB2 (hab c s x) (hab d t y) := ⟨hab_bd _ _ _, hab_bd _ _ _⟩
theorem hb_w (c d s t x y : Int) : HB2 (hw c s x) (hw d t y) := ⟨hw_bd _ _ _, hw_bd _ _ _⟩
theorem hb_fold (c d s t : Int) (xs ys : List Int) (h : HB2 s t) : HB2 (hfold c s xs) (hfold d t ys) := ⟨hfold_bd _ _ _ h.1, hfold_bd _ _ _ h.2⟩

/-- A state's two numbers lie in block b, which may be written. -/
def HS (w : World) (b : Nat) (s t : Int) : Prop := w.cell? ⟨b, 0, none⟩ = some (.int .i64 s) ∧ w.cell? ⟨b, 1, none⟩ = some (.int .i64 t) ∧ ∀ i, w.frozen? ⟨b, i, none⟩ = false
theorem hs_new (w : World) (s t : Int) (ty : TypeId) : HS (w.alloc (.cells #[.int .i64 s, .int .i64 t] ty)) w.heap.size s t := by
  refine ⟨?_, ?_, fun _ => World.frozen?_alloc_at _ _ _ _ rfl⟩ <;> (rw [World.cell?_alloc_at _ _ _ _ rfl]; rfl)
theorem HS.lt {w : World} {b : Nat} {s t : Int} (h : HS w b s t) : b < w.heap.size := World.block_lt_of_cell? w _ h.1
theorem HS.below {w w' : World} {b : Nat} {s t : Int} (h : HS w b s t) (hb : Below w.heap.size w w') : HS w' b s t := by
  have hl := h.lt
  refine ⟨?_, ?_, fun i => ?_⟩
  · rw [hb.cell (p := ⟨b, 0, none⟩) hl]; exact h.1
  · rw [hb.cell (p := ⟨b, 1, none⟩) hl]; exact h.2.1
  · rw [hb.frozen (p := ⟨b, i, none⟩) hl]; exact h.2.2 i
theorem HS.set {w : World} {b : Nat} {s t : Int} (h : HS w b s t) (x y : Int) : HS ((w.setCell ⟨b, 0, none⟩ (.int .i64 x)).setCell ⟨b, 1, none⟩ (.int .i64 y)) b x y := by
  obtain ⟨c0, c1, hf⟩ := h
  refine ⟨?_, ?_, fun i => by rw [World.frozen?_setCell, World.frozen?_setCell]; exact hf i⟩
  · rw [World.cell?_setCell_other _ _ _ _ (by simp)]; exact World.cell?_setCell_same _ _ _ c0
  · have h1 : (w.setCell ⟨b, 0, none⟩ (.int .i64 x)).cell? ⟨b, 1, none⟩ = some (.int .i64 t) := by rw [World.cell?_setCell_other _ _ _ _ (by simp)]; exact c1
    exact World.cell?_setCell_same _ _ _ h1
theorem HS.other {w : World} {b : Nat} {s t : Int} (h : HS w b s t) (a : Addr) (v : Value) (hne : a.block ≠ b) : HS (w.setCell a v) b s t := by
  obtain ⟨c0, c1, hf⟩ := h
  refine ⟨?_, ?_, fun i => by rw [World.frozen?_setCell]; exact hf i⟩
  · rw [World.cell?_setCell_other _ _ _ _ (fun e => hne (by rw [e]))]; exact c0
  · rw [World.cell?_setCell_other _ _ _ _ (fun e => hne (by rw [e]))]; exact c1

/-- A round's bounds: an element's two parts. -/
theorem parts {x : Int} (h0 : 0 ≤ x) (h1 : x ≤ 4611686018427387903) : (0 ≤ x % 2147483648 ∧ x % 2147483648 < 2147483648) ∧ 0 ≤ x / 2147483648 ∧ x / 2147483648 < 2147483648 := by omega

end Go.Proofs.Ytafoenoilcgjdaa

/- HashInts of the program and of the reference. -/
namespace Go.Proofs.Ytafoenoilcgjdaa
open Go.RowKit

/-! ### HashInts of the program -/
/-! ### HashInts of the reference -/
def hwf (c s : Int) (ks : List Int) : Int := ks.foldl (hw c) s
theorem hwf_step {c s t : Int} {zs rest : List Int} {z : Int} {k : Nat} (h : zs.drop k = z :: rest) (hb : t = hwf c s (zs.drop k)) : t = hwf c (hw c s z) rest := by
  rw [hb, h]; rfl
def two (x : Int) : List Int := [x % 2147483648, x / 2147483648]
theorem hwf_two (c s x : Int) : hwf c s (two x) = hab c s x := rfl

end Go.Proofs.Ytafoenoilcgjdaa

