/- Proofs: three lists of integers; what the laws' helpers do with them. -/
import Derived.Test.YtmiohdibbpckaaaDoorTyI
namespace Go.Proofs.YtmiohdibbpckaaaDoor
open Go.RowKit

/-- Three values lie in block b, which may be written. -/
def B3 (w : World) (b : Nat) (x y z : Value) : Prop := w.cell? ⟨b, 0, none⟩ = some x ∧ w.cell? ⟨b, 1, none⟩ = some y ∧ w.cell? ⟨b, 2, none⟩ = some z ∧ ∀ i, w.frozen? ⟨b, i, none⟩ = false
theorem b3_new (w : World) (x y z : Value) (t : TypeId) : B3 (w.alloc (.cells #[x, y, z] t)) w.heap.size x y z := by
  refine ⟨?_, ?_, ?_, fun _ => World.frozen?_alloc_at _ _ _ _ rfl⟩ <;> (rw [World.cell?_alloc_at _ _ _ _ rfl]; rfl)
theorem B3.lt {w : World} {b : Nat} {x y z : Value} (h : B3 w b x y z) : b < w.heap.size := World.block_lt_of_cell? w _ h.1
theorem B3.below {w w' : World} {b : Nat} {x y z : Value} (h : B3 w b x y z) (hb : Below w.heap.size w w') : B3 w' b x y z := by
  have hl := h.lt
  refine ⟨?_, ?_, ?_, fun i => ?_⟩
  · rw [hb.cell (p := ⟨b, 0, none⟩) hl]; exact h.1
  · rw [hb.cell (p := ⟨b, 1, none⟩) hl]; exact h.2.1
  · rw [hb.cell (p := ⟨b, 2, none⟩) hl]; exact h.2.2.1
  · rw [hb.frozen (p := ⟨b, i, none⟩) hl]; exact h.2.2.2 i
theorem B3.belowB {w w' : World} {b B : Nat} {x y z : Value} (h : B3 w b x y z) (hb : Below B w w') (hl : b < B) : B3 w' b x y z := by
  refine ⟨?_, ?_, ?_, fun i => ?_⟩
  · rw [hb.cell (p := ⟨b, 0, none⟩) hl]; exact h.1
  · rw [hb.cell (p := ⟨b, 1, none⟩) hl]; exact h.2.1
  · rw [hb.cell (p := ⟨b, 2, none⟩) hl]; exact h.2.2.1
  · rw [hb.frozen (p := ⟨b, i, none⟩) hl]; exact h.2.2.2 i
theorem B3.mid {w w' : World} {b Q P : Nat} {x y z : Value} (h : B3 w b x y z) (hm : Mid Q P w w') (ho : b < Q ∨ P ≤ b) : B3 w' b x y z := by
  have hl := h.lt
  have he := hm.block b hl ho
  refine ⟨?_, ?_, ?_, fun i => ?_⟩
  · rw [World.cell?_of_block (a := ⟨b, 0, none⟩) he]; exact h.1
  · rw [World.cell?_of_block (a := ⟨b, 1, none⟩) he]; exact h.2.1
  · rw [World.cell?_of_block (a := ⟨b, 2, none⟩) he]; exact h.2.2.1
  · rw [World.frozen?_of_block (a := ⟨b, i, none⟩) he]; exact h.2.2.2 i
theorem B3.other {w : World} {b : Nat} {x y z : Value} (h : B3 w b x y z) (a : Addr) (v : Value) (hne : a.block ≠ b) : B3 (w.setCell a v) b x y z := by
  obtain ⟨c0, c1, c2, hf⟩ := h
  refine ⟨?_, ?_, ?_, fun i => by rw [World.frozen?_setCell]; exact hf i⟩
  · rw [World.cell?_setCell_other _ _ _ _ (fun e => hne (by rw [e]))]; exact c0
  · rw [World.cell?_setCell_other _ _ _ _ (fun e => hne (by rw [e]))]; exact c1
  · rw [World.cell?_setCell_other _ _ _ _ (fun e => hne (by rw [e]))]; exact c2
theorem B3.set0 {w : World} {b : Nat} {x y z : Value} (h : B3 w b x y z) (v : Value) : B3 (w.setCell ⟨b, 0, none⟩ v) b v y z := by
  obtain ⟨c0, c1, c2, hf⟩ := h
  refine ⟨World.cell?_setCell_same _ _ _ c0, ?_, ?_, fun i => by rw [World.frozen?_setCell]; exact hf i⟩
  · rw [World.cell?_setCell_other _ _ _ _ (by simp)]; exact c1
  · rw [World.cell?_setCell_other _ _ _ _ (by simp)]; exact c2
theorem B3.set1 {w : World} {b : Nat} {x y z : Value} (h : B3 w b x y z) (v : Value) : B3 (w.setCell ⟨b, 1, none⟩ v) b x v z := by
  obtain ⟨c0, c1, c2, hf⟩ := h
  refine ⟨?_, World.cell?_setCell_same _ _ _ c1, ?_, fun i => by rw [World.frozen?_setCell]; exact hf i⟩
  · rw [World.cell?_setCell_other _ _ _ _ (by simp)]; exact c0
  · rw [World.cell?_setCell_other _ _ _ _ (by simp)]; exact c2
theorem B3.set2 {w : World} {b : Nat} {x y z : Value} (h : B3 w b x y z) (v : Value) : B3 (w.setCell ⟨b, 2, none⟩ v) b x y v := by
  obtain ⟨c0, c1, c2, hf⟩ := h
  refine ⟨?_, ?_, World.cell?_setCell_same _ _ _ c2, fun i => by rw [World.frozen?_setCell]; exact hf i⟩
  · rw [World.cell?_setCell_other _ _ _ _ (by simp)]; exact c0
  · rw [World.cell?_setCell_other _ _ _ _ (by simp)]; exact c1

/-- The data of a proof. -/
structure PrD where
  c : List Int
  h : List Int
  r : List Int
def PrD.n (p : PrD) : Nat := p.c.length + p.h.length + p.r.length
def mkP (k : Int) (p : PrD) : PrD := ⟨mkI k p.c, mkI (k + p.c.length) p.h, mkI (k + p.c.length + p.h.length) p.r⟩

def InP (P : Nat) (w : World) (v : Value) (p : PrD) : Prop := ∃ a b c, v = .agg #[a, b, c] ∧ InI P w a p.c ∧ InI P w b p.h ∧ InI P w c p.r
def OwP (Q P : Nat) (w : World) (v : Value) (p : PrD) : Prop := ∃ a b c M N, v = .agg #[a, b, c] ∧ OwI Q M w a p.c ∧ OwI M N w b p.h ∧ OwI N P w c p.r
theorem InP.below {P : Nat} {w w' : World} {v : Value} {p : PrD} (h : InP P w v p) (hb : Below w.heap.size w w') : InP P w' v p := by
  obtain ⟨a, b, c, rfl, h1, h2, h3⟩ := h
  exact ⟨a, b, c, rfl, h1.below hb, h2.below hb, h3.below hb⟩
theorem InP.mid {P A B : Nat} {w w' : World} {v : Value} {p : PrD} (h : InP P w v p) (hm : Mid A B w w') (hA : P ≤ A) : InP P w' v p := by
  obtain ⟨a, b, c, rfl, h1, h2, h3⟩ := h
  exact ⟨a, b, c, rfl, h1.mid hm hA, h2.mid hm hA, h3.mid hm hA⟩
theorem OwP.below {Q P : Nat} {w w' : World} {v : Value} {p : PrD} (h : OwP Q P w v p) (hb : Below w.heap.size w w') : OwP Q P w' v p := by
  obtain ⟨a, b, c, M, N, rfl, h1, h2, h3⟩ := h
  exact ⟨a, b, c, M, N, rfl, h1.below hb, h2.below hb, h3.below hb⟩
theorem OwP.mid {Q P A B : Nat} {w w' : World} {v : Value} {p : PrD} (h : OwP Q P w v p) (hm : Mid A B w w') (ho : P ≤ A ∨ B ≤ Q) : OwP Q P w' v p := by
  obtain ⟨a, b, c, M, N, rfl, h1, h2, h3⟩ := h
  have q1 := h1.2.2.2
  have q2 := h2.2.2.2
  have q3 := h3.2.2.2
  exact ⟨a, b, c, M, N, rfl, h1.mid hm (by omega), h2.mid hm (by omega), h3.mid hm (by omega)⟩
theorem OwP.wide {Q P Q' P' : Nat} {w : World} {v : Value} {p : PrD} (h : OwP Q P w v p) (hQ : Q' ≤ Q) (hP : P ≤ P') (hs : P' ≤ w.heap.size := by exact Nat.le_refl _) : OwP Q' P' w v p := by
  obtain ⟨a, b, c, M, N, rfl, h1, h2, h3⟩ := h
  exact ⟨a, b, c, M, N, rfl, h1.wide hQ (Nat.le_refl _) h1.2.2.1, h2, h3.wide (Nat.le_refl _) hP hs⟩
theorem OwP.toIn {Q P : Nat} {w : World} {v : Value} {p : PrD} (h : OwP Q P w v p) : InP P w v p := by
  obtain ⟨a, b, c, M, N, rfl, h1, h2, h3⟩ := h
  have q2 := h2.2.2.2
  have q3 := h3.2.2.2
  have q4 := h3.2.2.1
  exact ⟨a, b, c, rfl, h1.toIn.wide (by omega) q4, h2.toIn.wide (by omega) q4, h3.toIn⟩

theorem InP.le {P : Nat} {w : World} {v : Value} {p : PrD} (h : InP P w v p) : P ≤ w.heap.size := by obtain ⟨a, b, c, rfl, h1, _⟩ := h; exact h1.1
theorem OwP.le {Q P : Nat} {w : World} {v : Value} {p : PrD} (h : OwP Q P w v p) : P ≤ w.heap.size := h.toIn.le

def MadeP (w : World) (p : PrD) (e : Ending) (w' : World) : Prop := ∃ v, e = .returned v ∧ OwP w.heap.size w'.heap.size w' v p ∧ Below w.heap.size w w'
def MarkP (Q P : Nat) (w : World) (p : PrD) (v : Value) (k : Int) (e : Ending) (w' : World) : Prop := e = .returned (.int .i64 (k + (p.n : Int))) ∧ OwP Q P w' v (mkP k p) ∧ Mid Q P w w'

end Go.Proofs.YtmiohdibbpckaaaDoor

