/- ElGamal: the program's small functions: pairs of elements, encryption, the combination of ciphertexts. -/
import Derived.Test.YtdnofcpobpoehaaGrG
import Derived.Deep.RegionHeld3
namespace Go.Proofs.Ytdnofcpobpoehaa
open Go.RowKit


/-- A ciphertext as the walk holds it. -/
abbrev cv (a b : Int) : Value := .agg #[.int .i64 a, .int .i64 b]
/-- A pair lies in block b, which may be written. -/
def C2 (w : World) (b : Nat) (x y : Int) : Prop := w.cell? ⟨b, 0, none⟩ = some (.int .i64 x) ∧ w.cell? ⟨b, 1, none⟩ = some (.int .i64 y) ∧ ∀ i, w.frozen? ⟨b, i, none⟩ = false
theorem c2_new (w : World) (x y : Int) (t : TypeId) : C2 (w.alloc (.cells #[.int .i64 x, .int .i64 y] t)) w.heap.size x y := by
  refine ⟨?_, ?_, fun _ => World.frozen?_alloc_at _ _ _ _ rfl⟩ <;> (rw [World.cell?_alloc_at _ _ _ _ rfl]; rfl)
theorem c2_at (w : World) (b : Nat) (hb : w.heap.size = b) (x y : Int) (t : TypeId) : C2 (w.alloc (.cells #[.int .i64 x, .int .i64 y] t)) b x y := by
  subst hb; exact c2_new w x y t
theorem gr_at (w : World) (b : Nat) (hb : w.heap.size = b) (P Q G : Int) (t : TypeId) : GR (w.alloc (.cells #[.int .i64 P, .int .i64 Q, .int .i64 G] t)) b P Q G := by
  subst hb; exact gr_new w P Q G t
theorem C2.lt {w : World} {b : Nat} {x y : Int} (h : C2 w b x y) : b < w.heap.size := World.block_lt_of_cell? w _ h.1
theorem C2.drew {w : World} {b : Nat} {x y : Int} (h : C2 w b x y) : C2 w.drew b x y := h
theorem C2.below {w w' : World} {b : Nat} {x y : Int} (h : C2 w b x y) (hb : Below w.heap.size w w') : C2 w' b x y := by
  have hl := h.lt
  refine ⟨?_, ?_, fun i => ?_⟩
  · rw [hb.cell (p := ⟨b, 0, none⟩) hl]; exact h.1
  · rw [hb.cell (p := ⟨b, 1, none⟩) hl]; exact h.2.1
  · rw [hb.frozen (p := ⟨b, i, none⟩) hl]; exact h.2.2 i
theorem C2.other {w : World} {b : Nat} {x y : Int} (h : C2 w b x y) (a : Addr) (v : Value) (hne : a.block ≠ b) : C2 (w.setCell a v) b x y := by
  obtain ⟨c0, c1, hf⟩ := h
  refine ⟨?_, ?_, fun i => by rw [World.frozen?_setCell]; exact hf i⟩
  · rw [World.cell?_setCell_other _ _ _ _ (fun e => hne (by rw [e]))]; exact c0
  · rw [World.cell?_setCell_other _ _ _ _ (fun e => hne (by rw [e]))]; exact c1
theorem C2.set {w : World} {b : Nat} {x y : Int} (h : C2 w b x y) (u v : Int) : C2 ((w.setCell ⟨b, 0, none⟩ (.int .i64 u)).setCell ⟨b, 1, none⟩ (.int .i64 v)) b u v := by
  obtain ⟨c0, c1, hf⟩ := h
  refine ⟨?_, ?_, fun i => by rw [World.frozen?_setCell, World.frozen?_setCell]; exact hf i⟩
  · rw [World.cell?_setCell_other _ _ _ _ (by simp)]; exact World.cell?_setCell_same _ _ _ c0
  · exact World.cell?_setCell_same _ _ _ ((World.cell?_setCell_other _ _ _ _ (by simp)).trans c1)
theorem set_below {w W : World} (h : Below w.heap.size w W) (b : Nat) (hb : w.heap.size ≤ b) (u v : Value) : Below w.heap.size w ((W.setCell ⟨b, 0, none⟩ u).setCell ⟨b, 1, none⟩ v) :=
  (h.setCell hb _).setCell hb _

theorem gr_drop {w w' : World} {b : Nat} {P Q G : Int} (h : GR w b P Q G) (hb : Below w.drew.heap.size w.drew w') : GR w' b P Q G := GR.below (w := w.drew) h hb
theorem gr_pair {w : World} {b c : Nat} {P Q G : Int} (h : GR w b P Q G) (hne : c ≠ b) (x y : Value) : GR ((w.setCell ⟨c, 0, none⟩ x).setCell ⟨c, 1, none⟩ y) b P Q G := by
  obtain ⟨c0, c1, c2⟩ := h
  refine ⟨?_, ?_, ?_⟩
  · rw [World.cell?_setCell_other _ _ _ _ (fun e => hne (congrArg Addr.block e)), World.cell?_setCell_other _ _ _ _ (fun e => hne (congrArg Addr.block e))]; exact c0
  · rw [World.cell?_setCell_other _ _ _ _ (fun e => hne (congrArg Addr.block e)), World.cell?_setCell_other _ _ _ _ (fun e => hne (congrArg Addr.block e))]; exact c1
  · rw [World.cell?_setCell_other _ _ _ _ (fun e => hne (congrArg Addr.block e)), World.cell?_setCell_other _ _ _ _ (fun e => hne (congrArg Addr.block e))]; exact c2
theorem cell_pair {w : World} {g b i j o : Nat} {v : Value} (h : w.cell? ⟨b, o, none⟩ = some v) (hne : g ≠ b) (x y : Value) : ((w.setCell ⟨g, i, none⟩ x).setCell ⟨g, j, none⟩ y).cell? ⟨b, o, none⟩ = some v := by
  rw [World.cell?_setCell_other _ _ _ _ (fun e => hne (congrArg Addr.block e)), World.cell?_setCell_other _ _ _ _ (fun e => hne (congrArg Addr.block e))]; exact h
theorem c2_drop {w w' : World} {b : Nat} {x y : Int} (h : C2 w b x y) (hb : Below w.drew.heap.size w.drew w') : C2 w' b x y := C2.below (w := w.drew) h hb
theorem bt_drop {w a b : World} (h : Below w.heap.size w a) (k : Below a.drew.heap.size a.drew b) : Below w.heap.size w b := bt (b := b) h.drew k

end Go.Proofs.Ytdnofcpobpoehaa

