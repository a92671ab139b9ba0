/- MakeGroup of the program and of the reference. -/
import Derived.Test.YtdnofcpobpoehaaG3
namespace Go.Proofs.Ytdnofcpobpoehaa
open Go.RowKit

namespace Num
/-- The generator that MakeGroup lays. -/
def genG (p q : Nat) : Nat := genH p q ^ ((p - 1) / q) % p
theorem genG_spec {p q : Nat} (hp : Pr p) (hq : 2 ≤ q) (hd : q ∣ p - 1) : 2 ≤ genG p q ∧ genG p q < p ∧ genG p q ^ q % p = 1 := by
  obtain ⟨h1, h2, h3, _⟩ := genH_spec hp hq hd
  have hp2 := hp.1
  have he := proj_el hp hd (show 1 ≤ genH p q by omega) h2
  have hpos := el_pos (x := genG p q) (by omega) (show 1 ≤ q by omega) he
  have hlt : genG p q < p := Nat.mod_lt _ (by omega)
  rw [Nat.mod_eq_of_lt hlt] at hpos
  have hne : genG p q ≠ 1 := h3
  exact ⟨by omega, hlt, he⟩
end Num

/-- A variable of three integers that is one's own: it may be written. -/
def Own3 (w : World) (b : Nat) (P Q G : Int) : Prop := GR w b P Q G ∧ ∀ i, w.frozen? ⟨b, i, none⟩ = false
theorem own3_new (w : World) (P Q G : Int) (t : TypeId) : Own3 (w.alloc (.cells #[.int .i64 P, .int .i64 Q, .int .i64 G] t)) w.heap.size P Q G :=
  ⟨gr_new w P Q G t, fun _ => World.frozen?_alloc_at _ _ _ _ rfl⟩
theorem Own3.below {w w' : World} {b : Nat} {P Q G : Int} (h : Own3 w b P Q G) (hb : Below w.heap.size w w') : Own3 w' b P Q G :=
  ⟨h.1.below hb, fun i => by rw [hb.frozen (p := ⟨b, i, none⟩) h.1.lt]; exact h.2 i⟩
theorem Own3.set {w : World} {b : Nat} {P Q G : Int} (h : Own3 w b P Q G) (x : Int) : Own3 (w.setCell ⟨b, 2, none⟩ (.int .i64 x)) b P Q x := by
  obtain ⟨⟨c0, c1, c2⟩, hf⟩ := h
  refine ⟨⟨?_, ?_, ?_⟩, fun i => by rw [World.frozen?_setCell]; exact hf i⟩
  · rw [World.cell?_setCell_other _ _ _ _ (by simp)]; exact c0
  · rw [World.cell?_setCell_other _ _ _ _ (by simp)]; exact c1
  · exact World.cell?_setCell_same _ _ _ c2
theorem Own3.other {w : World} {b : Nat} {P Q G : Int} (h : Own3 w b P Q G) (a : Addr) (v : Value) (hne : a.block ≠ b) : Own3 (w.setCell a v) b P Q G := by
  obtain ⟨⟨c0, c1, c2⟩, hf⟩ := h
  refine ⟨⟨?_, ?_, ?_⟩, fun i => by rw [World.frozen?_setCell]; exact hf i⟩
  · rw [World.cell?_setCell_other _ _ _ _ (fun e => hne (by rw [e]))]; exact c0
  · rw [World.cell?_setCell_other _ _ _ _ (fun e => hne (by rw [e]))]; exact c1
  · rw [World.cell?_setCell_other _ _ _ _ (fun e => hne (by rw [e]))]; exact c2

/-- MakeGroup's condition and what it answers. -/
def mkB (q : Int) : Bool := inB q 2 1000000 && Num.prB q && decide (Num.mkP q.toNat (q.toNat + 1) ≠ 0)
def mkVP (q : Int) : Int := if mkB q then (Num.mkP q.toNat (q.toNat + 1) : Nat) else 0
def mkVQ (q : Int) : Int := if mkB q then q else 0
def mkVG (q : Int) : Int := if mkB q then (Num.genG (Num.mkP q.toNat (q.toNat + 1)) q.toNat : Nat) else 0
theorem mk_off {q : Int} (h : mkB q = false) : mkVP q = 0 ∧ mkVQ q = 0 ∧ mkVG q = 0 := by simp [mkVP, mkVQ, mkVG, h]

/-- What is found is a prime that q divides but for 1. -/
theorem mk_found {q p : Nat} (hq : 2 ≤ q) (he : Num.mkP q (q + 1) = p) (h0 : p ≠ 0) : Num.Pr p ∧ p ≤ 2000000000 ∧ q ∣ p - 1 := by
  obtain ⟨h1, h2, h3⟩ := Num.mkP_spec (q := q) (by omega) 2000000001 (q + 1) (by omega) (by omega) ⟨1, by omega⟩ (by rw [he]; exact h0)
  rw [he] at h1 h2 h3
  have := (Num.prB_pr h1).2
  rw [Int.toNat_natCast] at this
  exact ⟨this, h2, h3⟩

theorem isPr_nat {p : Nat} (h : p ≤ 2000000000) : isPr (p : Int) = Num.prB p := by
  unfold isPr; rw [inB_true.2 (by omega)]; rfl

end Go.Proofs.Ytdnofcpobpoehaa

