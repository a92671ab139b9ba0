/- DotMod of the program and of the reference. -/
import Derived.Test.YtdnofcpobpoehaaSum
import Derived.Test.YtdnofcpobpoehaaPairs
import Derived.RegionTactic
import Derived.BigRegion
namespace Go.Proofs.Ytdnofcpobpoehaa
open Go.RowKit

/-- The sum of products modulo m, from 'acc' on, over a flat list of pairs. -/
def dotF (m acc : Int) : List Int → Int
  | p :: q :: rest => dotF m ((acc + p * q) % m) rest
  | _ => acc
def zipFlat : List Int → List Int → List Int
  | x :: xs, y :: ys => x :: y :: zipFlat xs ys
  | _, _ => []
/-- The same over two lists. -/
def dotFrom (m acc : Int) : List Int → List Int → Int
  | x :: xs, y :: ys => dotFrom m ((acc + x * y) % m) xs ys
  | _, _ => acc
theorem dotF_zip (m acc : Int) (xs ys : List Int) : dotF m acc (zipFlat xs ys) = dotFrom m acc xs ys := by
  induction xs generalizing acc ys with
  | nil => cases ys <;> simp [zipFlat, dotF, dotFrom]
  | cons x xs ih =>
    cases ys with
    | nil => simp [zipFlat, dotF, dotFrom]
    | cons y ys => simp [zipFlat, dotF, dotFrom, ih]
theorem zipFlat_length (xs ys : List Int) (h : xs.length = ys.length) : (zipFlat xs ys).length = xs.length * 2 := by
  induction xs generalizing ys with
  | nil => cases ys <;> simp [zipFlat]
  | cons x xs ih =>
    cases ys with
    | nil => simp at h
    | cons y ys =>
      have := ih ys (by simpa using h)
      simp [zipFlat, this]; omega
theorem zipFlat_mem (xs ys : List Int) : ∀ z ∈ zipFlat xs ys, z ∈ xs ∨ z ∈ ys := by
  induction xs generalizing ys with
  | nil => cases ys <;> simp [zipFlat]
  | cons x xs ih =>
    cases ys with
    | nil => simp [zipFlat]
    | cons y ys =>
      intro z hz
      simp only [zipFlat, List.mem_cons] at hz
      rcases hz with rfl | rfl | hz
      · simp
      · simp
      · rcases ih ys z hz with h | h <;> simp [h]
theorem zipFlat_drop (xs ys : List Int) (k : Nat) : (zipFlat xs ys).drop (k * 2) = zipFlat (xs.drop k) (ys.drop k) := by
  induction k generalizing xs ys with
  | zero => simp
  | succ k ih =>
    cases xs with
    | nil => cases ys <;> simp [zipFlat]
    | cons x xs =>
      cases ys with
      | nil => simp only [zipFlat, List.drop_nil]; cases (List.drop (k + 1) (x :: xs)) <;> simp [zipFlat]
      | cons y ys =>
        rw [show (k + 1) * 2 = k * 2 + 1 + 1 by omega]
        simp [zipFlat, ih]

theorem prod_bound {p q m : Int} (hp : 0 ≤ p ∧ p < m) (hq : 0 ≤ q ∧ q < m) (h3 : m ≤ 2000000000) : 0 ≤ p * q ∧ p * q ≤ 4000000000000000000 := by
  obtain ⟨p, rfl⟩ := Int.eq_ofNat_of_zero_le hp.1
  obtain ⟨q, rfl⟩ := Int.eq_ofNat_of_zero_le hq.1
  have := Num.mul_bound (a := p) (b := q) (by omega) (by omega)
  have e : (p : Int) * q = ((p * q : Nat) : Int) := by simp
  rw [e]; omega

theorem dotF_step {m acc t : Int} {zs rest : List Int} {p q : Int} {k : Nat} (h : zs.drop k = p :: q :: rest) (hb : t = dotF m acc (zs.drop k)) : t = dotF m ((acc + p * q) % m) rest := by
  rw [hb, h]; rfl

/-! ### The list of pairs -/
theorem made_two (n : Nat) : (madeCells #[Value.int .i64 0, Value.int .i64 0] n).toList = (List.replicate n (0 : Int)).map (Value.int .i64) := by
  apply List.ext_getElem?
  intro j
  by_cases hj : j < n
  · rcases (show j % 2 = 0 ∨ j % 2 = 1 by omega) with h | h <;> simp [madeCells, hj, h]
  · simp [madeCells, hj]

theorem head_of_drop {zs rest : List Int} {z : Int} {k : Nat} (h : zs.drop k = z :: rest) : ∃ hk : k < zs.length, zs[k] = z := by
  have hk : k < zs.length := by
    rcases Nat.lt_or_ge k zs.length with h' | h'
    · exact h'
    · rw [List.drop_of_length_le h'] at h; cases h
  exact ⟨hk, by rw [List.drop_eq_getElem_cons hk] at h; simpa using (List.cons.inj h).1⟩

theorem dotFrom_step {m acc t : Int} {xs ys xr yr : List Int} {x y : Int} {k : Nat} (h : xs.drop k = x :: xr) (h' : ys.drop k = y :: yr) (hb : t = dotFrom m acc (xs.drop k) (ys.drop k)) : t = dotFrom m ((acc + x * y) % m) xr yr := by
  rw [hb, h, h']; rfl

/-- DotMod's condition and what it answers. -/
def dotB (xs ys : List Int) (m : Int) : Bool := decide (xs.length = ys.length) && listB xs m && listB ys m
def dotMod (xs ys : List Int) (m : Int) : Int := if dotB xs ys m then dotFrom m 0 xs ys else 0

end Go.Proofs.Ytdnofcpobpoehaa

