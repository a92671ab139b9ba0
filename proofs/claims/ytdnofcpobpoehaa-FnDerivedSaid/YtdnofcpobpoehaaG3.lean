/- IsElement, InverseOf, ElementFrom of the program and of the reference; MulOf of the reference. -/
import Derived.Test.YtdnofcpobpoehaaG2
import Derived.Test.YtdnofcpobpoehaaGrp
import Derived.Test.YtdnofcpobpoehaaLeg
import Derived.Test.YtdnofcpobpoehaaCur
import Derived.Deep.RegionHeld
namespace Go.Proofs.Ytdnofcpobpoehaa
open Go.RowKit

/-! ### The plain facts, over integers -/
theorem good_nat {P Q G : Int} (h : goodB P Q G = true) : ∃ p q g : Nat, P = p ∧ Q = q ∧ G = g ∧ Num.Pr p ∧ Num.Pr q ∧ q ∣ p - 1 ∧ 2 ≤ g ∧ g < p ∧ g ^ q % p = 1 ∧ 3 ≤ p ∧ p ≤ 2000000000 ∧ q ≤ p - 1 := by
  obtain ⟨⟨h1, h2⟩, ⟨h3, h4⟩, h5, ⟨h6, h7⟩, h8, h9, h10⟩ := goodB_true.1 h
  obtain ⟨p, rfl⟩ := Int.eq_ofNat_of_zero_le (show 0 ≤ P by omega)
  obtain ⟨q, rfl⟩ := Int.eq_ofNat_of_zero_le (show 0 ≤ Q by omega)
  obtain ⟨g, rfl⟩ := Int.eq_ofNat_of_zero_le (show 0 ≤ G by omega)
  have hp := (Num.prB_pr h10).2
  have hq := (Num.prB_pr h9).2
  rw [Int.toNat_natCast] at hp hq
  rw [Num.pow_eq (by omega)] at h8
  refine ⟨p, q, g, rfl, rfl, rfl, hp, hq, ?_, by omega, by omega, by omega, by omega, by omega, by omega⟩
  have e : (p : Int) - 1 = ((p - 1 : Nat) : Int) := by omega
  rw [e] at h5
  have : ((p - 1) % q : Nat) = 0 := by
    have h5' : (((p - 1) % q : Nat) : Int) = 0 := by rw [Int.natCast_emod]; exact h5
    omega
  exact Nat.dvd_of_mod_eq_zero this

theorem el_nat {p q : Nat} {x : Int} (hp : 1 < p) (h : elB p q x = true) : ∃ n : Nat, x = n ∧ 1 ≤ n ∧ n < p ∧ n ^ q % p = 1 := by
  obtain ⟨⟨h1, h2⟩, h3⟩ := elB_true.1 h
  obtain ⟨n, rfl⟩ := Int.eq_ofNat_of_zero_le (show 0 ≤ x by omega)
  rw [Num.pow_eq hp] at h3
  exact ⟨n, rfl, by omega, by omega, by omega⟩
theorem el_mk {p q n : Nat} (hp : 1 < p) (h1 : 1 ≤ n) (h2 : n < p) (h3 : n ^ q % p = 1) : elB p q n = true :=
  elB_true.2 ⟨⟨by omega, by omega⟩, by rw [Num.pow_eq hp, h3]; rfl⟩

theorem inv_el {P Q G x : Int} (hg : goodB P Q G = true) (hx : elB P Q x = true) : Num.invOk x P = true ∧ Num.inv x P = Num.pow x (Q - 1) P := by
  obtain ⟨p, q, g, rfl, rfl, rfl, hp, hq, hd, _⟩ := good_nat hg
  have hp1 := hp.1
  have hq1 := hq.1
  obtain ⟨n, rfl, n1, n2, n3⟩ := el_nat (by omega) hx
  refine ⟨Num.invOk_prime hp n1 n2, ?_⟩
  rw [Num.inv_pow hp n1 n2 (by omega) n3, show (q : Int) - 1 = ((q - 1 : Nat) : Int) by omega, Num.pow_eq (by omega)]

/-! ### IsElement -/
def isElV (P Q G x : Int) : Bool := goodB P Q G && elB P Q x

theorem isElement_any (P Q G x : Int) (w : World) :
    Calls Try.prog 49 #[gv P Q G, .int .i64 x] w fun e w' => e = .returned (.tuple #[.bool (isElV P Q G x), .bool (goodB P Q G)]) ∧ Below w.heap.size w w' := by
  cases hg : goodB P Q G
  · have e1 : isElV P Q G x = false := by simp [isElV, hg]
    rw [e1]
    have HG := Lib.hid hg
    clear hg e1
    go_enter Try.func49, Try.ntmps49
    go_wp2_with fail
    refine (isValidGroup_any _ _ _ _).mono ?_
    rw [HG.out]
    rintro e w1 ⟨rfl, hb1⟩
    have HB1 := Lib.hid (bt (ba _ _) hb1)
    clear hb1
    go_wp2
    go_ret2
    exact ⟨rfl, HB1.out⟩
  · have e1 : isElV P Q G x = elB P Q x := by simp [isElV, hg]
    rw [e1]
    have hmo := good_mo hg
    have HG := Lib.hid hg
    have H0 := Lib.hid (gr_new w P Q G 29)
    clear hg e1
    go_enter Try.func49, Try.ntmps49
    go_wp2_with fail
    refine (isValidGroup_any _ _ _ _).mono ?_
    rw [HG.out]
    rintro e w1 ⟨rfl, hb1⟩
    have HB1 := Lib.hid (bt (ba _ _) hb1)
    obtain ⟨c0, c1, c2⟩ := H0.out.below hb1
    clear hb1
    go_wp2_with fail
    refine (hasElement_any _ _ _ _ hmo _).mono ?_
    rintro e w2 ⟨rfl, hb2⟩
    have HB2 := Lib.hid (bt HB1.out hb2)
    clear hb2
    go_wp2
    go_ret2
    exact ⟨rfl, HB2.out⟩

theorem allEl_one (P Q x : Int) : allEl P Q [x] = elB P Q x := by simp [allEl]
theorem allEl_two (P Q x y : Int) : allEl P Q [x, y] = (elB P Q x && elB P Q y) := by simp [allEl]

/-! ### InverseOf -/
def invOfV (P Q G x : Int) : Int := if isElV P Q G x then Num.pow x (Q - 1) P else 0
theorem isElV_true {P Q G x : Int} : isElV P Q G x = true ↔ goodB P Q G = true ∧ elB P Q x = true := by simp [isElV]

/-! ### ElementFrom -/
def fromB (P Q G r : Int) : Bool := goodB P Q G && inB r 1 (P - 1)
def fromV (P Q G r : Int) : Int := if fromB P Q G r then Num.pow r ((P - 1) / Q) P else 0

theorem quo_bd {P Q : Int} (h1 : 1 ≤ P) (h2 : P ≤ 2000000000) (h3 : 1 ≤ Q) : 0 ≤ (P - 1) / Q ∧ (P - 1) / Q ≤ 2000000000 := by
  have h := Int.ediv_le_self (a := P - 1) Q (by omega)
  exact ⟨Int.ediv_nonneg (by omega) (by omega), by omega⟩

set_option maxRecDepth 100000 in
set_option maxHeartbeats 1600000 in
theorem project_any (P Q G r : Int) (h1 : 0 ≤ r) (h2 : r ≤ 2000000000) (h5 : 2 ≤ P) (h6 : P ≤ 2000000000) (h7 : 1 ≤ Q) (w : World) :
    Calls Try.prog 144 #[gv P Q G, .int .i64 r] w fun e' w' => e' = .returned (.int .i64 (Num.pow r ((P - 1) / Q) P)) ∧ Below w.heap.size w w' := by
  obtain ⟨k0, k1⟩ := quo_bd (P := P) (Q := Q) (by omega) h6 h7
  go_enter Try.func144, Try.ntmps144
  have hg := gr_new w P Q G 29
  obtain ⟨c0, c1, c2⟩ := hg
  go_wp2_with fail
  go_region_held (fun w' => w'.cell? ⟨w.heap.size, 0, none⟩ = some (.int .i64 P) ∧ w'.cell? ⟨w.heap.size, 1, none⟩ = some (.int .i64 Q) ∧ w'.cell? ⟨w.heap.size, 2, none⟩ = some (.int .i64 G)) (first | exact ⟨c0, c1, c2⟩ | exact GR.below (gr_new w P Q G _) (ba _ _) | exact (GR.below (gr_new w P Q G _) (ba _ _)).drew)
    ((go_at_call 132; refine (power_ex _ _ _ _ _ h1 h2 k0 (by omega) h5 h6 _).mono ?_; rintro e w' ⟨rfl, rfl⟩))
  go_wp2
  go_ret
  exact ⟨rfl, by first | exact bt (ba _ _) (ba _ _) | exact (bt (ba _ _) (ba _ _)).drew⟩

/-! ### MulOf of the reference -/
end Go.Proofs.Ytdnofcpobpoehaa

