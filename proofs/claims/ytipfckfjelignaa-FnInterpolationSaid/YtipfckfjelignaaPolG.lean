/- MulPolys; polynomials with given roots: PolyFromRoots. -/
import Derived.Test.YtipfckfjelignaaPolE
namespace Go.Proofs.Ytipfckfjelignaa
open Go.RowKit

def mulB (q : Int) (fs gs : List Int) : Bool := fieldB q [fs, gs] && decide (fs.length + gs.length ≤ 25)
def mulL (q : Int) (fs gs : List Int) : List Int := if fs.length = 0 ∨ gs.length = 0 then [] else pMul q fs gs
def mulRes (q : Int) (fs gs : List Int) : List Int := if mulB q fs gs then mulL q fs gs else []
theorem mulRes_le (q : Int) (fs gs : List Int) : (mulRes q fs gs).length ≤ 24 := by
  unfold mulRes
  split
  · rename_i h
    simp only [mulB, Bool.and_eq_true, decide_eq_true_eq] at h
    unfold mulL
    split
    · simp
    · rw [pMul_length]; omega
  · simp
theorem listOut_nilT (w w' : World) (h : Below w.heap.size w w') : ListOut w [] true (.returned (.tuple #[.slice none 0 0, .bool true])) w' :=
  ⟨none, 0, 0, rfl, World.ownsRow_nil _ _ _ _, h⟩

theorem yMul_nil (q : Int) (ad ad' : Option Addr) (n n' cap cap' : Nat) (h : n = 0 ∨ n' = 0) (w : World) :
    Calls Try.prog 134 #[.int .i64 q, .slice ad n cap, .slice ad' n' cap'] w fun e w' => e = .returned (.slice none 0 0) ∧ w = w' := by
  by_cases h0 : n = 0
  · subst h0
    go_enter Try.func134, Try.ntmps134
    go_wp2
    go_ret
    exact ⟨rfl, rfl⟩
  · obtain rfl : n' = 0 := by omega
    have hnz : ((n : Int) == 0) = false := by simp; omega
    go_enter Try.func134, Try.ntmps134
    go_wp2
    go_ret
    exact ⟨rfl, rfl⟩

end Go.Proofs.Ytipfckfjelignaa

