/- FactorOf of the program and of the reference. -/
import Derived.Test.YtdnofcpobpoehaaInvAll
import Derived.Deep.LoopGhost
namespace Go.Proofs.Ytdnofcpobpoehaa
open Go.RowKit

theorem pair_new (w : World) (x y : Value) (t : TypeId) : ∀ j u, [x, y][j]? = some u → (w.alloc (.cells #[x, y] t)).cell? ((⟨w.heap.size, 0, none⟩ : Addr).add j) = some u := by
  intro j u h
  match j, h with
  | 0, h => simp at h; subst h; simp [Addr.add, World.cell?_alloc_at]
  | 1, h => simp at h; subst h; simp [Addr.add, World.cell?_alloc_at]
  | n + 2, h => simp at h

theorem sq_bound {d : Nat} (h : d ≤ 44722) : d * d ≤ 2000057284 := by
  have : d * d ≤ 44722 * d := Nat.mul_le_mul_right _ h
  omega
theorem root_bound {d n : Nat} (h : d * d ≤ n) (hn : n ≤ 2000000000) : d ≤ 44721 := by
  rcases Nat.lt_or_ge 44721 d with h' | h'
  · have : 44722 * 44722 ≤ d * d := Nat.mul_le_mul h' h'
    omega
  · exact h'

def facB (n : Int) : Bool := decide (1 ≤ n) && decide (n ≤ 2000000000)
def facRes (n : Int) : List Int := if facB n then Num.factors n.toNat else []
theorem facB_true {n : Int} : facB n = true ↔ 1 ≤ n ∧ n ≤ 2000000000 := by simp [facB]
theorem facB_false {n : Int} : facB n = false ↔ n < 1 ∨ 2000000000 < n := by
  rw [← Bool.not_eq_true, facB_true]; omega

end Go.Proofs.Ytdnofcpobpoehaa

