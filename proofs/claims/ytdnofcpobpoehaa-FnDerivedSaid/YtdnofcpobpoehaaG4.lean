/- LogOf of the program and of the reference. -/
import Derived.Test.YtdnofcpobpoehaaG3
import Derived.Test.YtdnofcpobpoehaaGrpB
namespace Go.Proofs.Ytdnofcpobpoehaa
open Go.RowKit

/-- LogOf's condition, its search, and what it answers. -/
def logC (P Q G b x most : Int) : Bool := inB most 0 1000000 && goodB P Q G && elB P Q b && elB P Q x
def logR (P Q G b x most : Int) : Option Nat := if logC P Q G b x most then Num.lgs P.toNat b.toNat x.toNat (most.toNat + 1) else none
def optV : Option Nat → Int
  | some e => e
  | none => 0
def optB : Option Nat → Bool
  | some _ => true
  | none => false
def logV (P Q G b x most : Int) : Int := optV (logR P Q G b x most)
def logB (P Q G b x most : Int) : Bool := optB (logR P Q G b x most)
theorem log_off {P Q G b x most : Int} (h : logC P Q G b x most = false) : logV P Q G b x most = 0 ∧ logB P Q G b x most = false := by
  simp [logV, logB, logR, h, optV, optB]
theorem log_none {P Q G b x most : Int} (hc : logC P Q G b x most = true) (h : Num.lgs P.toNat b.toNat x.toNat (most.toNat + 1) = none) : logV P Q G b x most = 0 ∧ logB P Q G b x most = false := by
  simp [logV, logB, logR, hc, h, optV, optB]
theorem log_some {P Q G b x most : Int} {k : Nat} (hc : logC P Q G b x most = true) (h : Num.lgs P.toNat b.toNat x.toNat (most.toNat + 1) = some k) : logV P Q G b x most = k ∧ logB P Q G b x most = true := by
  simp [logV, logB, logR, hc, h, optV, optB]
theorem logC_true {P Q G b x most : Int} : logC P Q G b x most = true ↔ (0 ≤ most ∧ most ≤ 1000000) ∧ goodB P Q G = true ∧ elB P Q b = true ∧ elB P Q x = true := by
  unfold logC; simp only [Bool.and_eq_true, inB_true, and_assoc]

theorem one_mod {p : Nat} (hp : 1 < p) : 1 % p = 1 := Nat.mod_eq_of_lt hp

/-- The group and the elements of a search, as naturals. -/
theorem log_nat {P Q G b x most : Int} (h : logC P Q G b x most = true) : ∃ p q g b' x' m : Nat, P = p ∧ Q = q ∧ G = g ∧ b = b' ∧ x = x' ∧ most = m ∧ 1 < p ∧ p ≤ 2000000000 ∧ 1 ≤ q ∧ q ≤ 2000000000 ∧ b' < p ∧ x' < p ∧ m ≤ 1000000 ∧ b' ^ q % p = 1 := by
  obtain ⟨⟨h1, h2⟩, h3, h4, h5⟩ := logC_true.1 h
  obtain ⟨p, q, g, rfl, rfl, rfl, hp, hq, hd, _, _, _, k1, k2, k3⟩ := good_nat h3
  obtain ⟨b', rfl, b1, b2, b3⟩ := el_nat (by omega) h4
  obtain ⟨x', rfl, x1, x2, x3⟩ := el_nat (by omega) h5
  obtain ⟨m, rfl⟩ := Int.eq_ofNat_of_zero_le h1
  have := hq.1
  exact ⟨p, q, g, b', x', m, rfl, rfl, rfl, rfl, rfl, rfl, by omega, k2, by omega, by omega, b2, x2, by omega, b3⟩

end Go.Proofs.Ytdnofcpobpoehaa

