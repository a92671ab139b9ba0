/- Lagrange coefficients of the reference; ValueFrom of both. -/
import Derived.Test.YtipfckfjelignaaPolK
namespace Go.Proofs.Ytipfckfjelignaa
open Go.RowKit

/-- What is left of a list without its i-th element from the j-th on. -/
def remW (xs : List Int) (i j : Nat) : List Int := if j ≤ i then wo (xs.drop j) (i - j) else xs.drop j
theorem remW_zero (xs : List Int) (i : Nat) : remW xs i 0 = wo xs i := by simp [remW]
theorem remW_step {xs : List Int} {z : Int} {i j : Nat} (h : xs.drop j = z :: xs.drop (j + 1)) (hne : j ≠ i) : remW xs i j = z :: remW xs i (j + 1) := by
  unfold remW
  rcases Nat.lt_or_gt_of_ne hne with hlt | hgt
  · rw [if_pos (by omega), if_pos (by omega), h]
    obtain ⟨s, hs⟩ : ∃ s, i - j = s + 1 := ⟨i - j - 1, by omega⟩
    rw [hs, show i - (j + 1) = s by omega]
    simp [wo]
  · rw [if_neg (by omega), if_neg (by omega), h]
theorem remW_skip {xs : List Int} {z : Int} {i : Nat} (h : xs.drop i = z :: xs.drop (i + 1)) : remW xs i i = remW xs i (i + 1) := by
  unfold remW
  rw [if_pos (Nat.le_refl _), if_neg (by omega), Nat.sub_self, h]
  simp [wo]
theorem remW_end {xs : List Int} {i j : Nat} (hi : i < xs.length) (hj : xs.length ≤ j) : remW xs i j = [] := by
  unfold remW
  rw [if_neg (by omega), List.drop_of_length_le hj]
theorem lagr_take {q x : Int} {xs : List Int} {k : Nat} (h : k < xs.length) : (lagr q x xs).take (k + 1) = (lagr q x xs).take k ++ [coefAt q x xs k] := by
  rw [List.take_succ_eq_append_getElem (by rw [lagr_length]; exact h), lagr_get]

end Go.Proofs.Ytipfckfjelignaa

