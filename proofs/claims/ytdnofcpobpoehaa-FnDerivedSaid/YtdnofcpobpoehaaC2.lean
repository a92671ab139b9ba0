/- Contracts of powers: raise and nPower, PowerMod of both. -/
import Derived.Test.YtdnofcpobpoehaaC1
namespace Go.Proofs.Ytdnofcpobpoehaa
open Go.RowKit

/-- A round of the powers' loop, in the walk's own spelling. -/
theorem pow_facts {r q m : Nat} (hr : r ≤ 2000000000) (hq : q ≤ 2000000000) (hm : 0 < m) :
    (0 ≤ (r : Int) * q ∧ (r : Int) * q ≤ 4000000000000000000) ∧ (0 ≤ (q : Int) * q ∧ (q : Int) * q ≤ 4000000000000000000) ∧
    (r : Int) * q % m = ((r * q % m : Nat) : Int) ∧ (q : Int) * q % m = ((q * q % m : Nat) : Int) ∧ r * q % m < m ∧ q * q % m < m := by
  have h1 := Num.mul_bound hr hq
  have h2 := Num.mul_bound hq hq
  have e1 : (r : Int) * q = ((r * q : Nat) : Int) := by simp
  have e2 : (q : Int) * q = ((q * q : Nat) : Int) := by simp
  rw [e1, e2]
  exact ⟨by omega, by omega, by simp, by simp, Nat.mod_lt _ hm, Nat.mod_lt _ hm⟩


set_option maxHeartbeats 800000 in
theorem raise_nat (a e m : Nat) (h1 : a ≤ 2000000000) (h0 : 2 ≤ m) (h2 : m ≤ 2000000000) (h3 : e ≤ 4000000000) (w : World) :
    Calls Try.prog 161 #[.int .i64 a, .int .i64 e, .int .i64 m] w fun e' w' => e' = .returned (.int .i64 (Num.pw 1 a e m : Nat)) ∧ w = w' := by
  have hm : 0 < (m : Int) := by omega
  go_enter Try.func161, Try.ntmps161
  go_wp2
  go_loop [1, 7, 8] (fun E R S => ∃ (n r q : Nat), (0 ≤ (n : Int) ∧ (n : Int) ≤ 4000000000 ∧ 0 ≤ (r : Int) ∧ (r : Int) ≤ 2000000000 ∧ 0 ≤ (q : Int) ∧ (q : Int) ≤ 2000000000) ∧ Num.pw 1 a e m = Num.pw r q n m ∧ E = .int .i64 n ∧ R = .int .i64 r ∧ S = .int .i64 q) (fun E _ _ => (intOf E).toNat)
  case atStart => exact ⟨e, 1, a, by omega, rfl, rfl, rfl, rfl⟩
  case round =>
    obtain ⟨n, r, q, ⟨b1, b2, b3, b4, b5, b6⟩, he, rfl, rfl, rfl⟩ := hrel
    have HE := Lib.hid he
    clear he
    obtain ⟨⟨c1, c2⟩, ⟨c3, c4⟩, d1, d2, d3, d4⟩ := pow_facts (r := r) (q := q) (m := m) (by omega) (by omega) (by omega)
    have D1 := Lib.hid d1
    have D2 := Lib.hid d2
    clear d1 d2
    by_cases hn : n = 0
    · subst hn
      go_wp2
      go_ret
      exact ⟨by rw [HE.out, Num.pw_zero]; rfl, rfl⟩
    · have hn0 : 0 < (n : Int) := by omega
      by_cases ho : n % 2 = 1
      · have hoi : ((n : Int) % 2 == 1) = true := by simp; omega
        go_wp2
        go_round
        case rel =>
          refine ⟨n / 2, r * q % m, q * q % m, by omega, HE.out.trans (Num.pw_odd ho), by simp, by rw [D1.out], by rw [D2.out]⟩
        case measure =>
          simp only [intOf]
          omega
      · have hoi : ((n : Int) % 2 == 1) = false := by simp; omega
        go_wp2
        go_round
        case rel =>
          refine ⟨n / 2, r, q * q % m, by omega, HE.out.trans (Num.pw_even (by omega) hn), by simp, rfl, by rw [D2.out]⟩
        case measure =>
          simp only [intOf]
          omega

theorem raise_any (a e m : Int) (h1 : 0 ≤ a) (h2 : a ≤ 2000000000) (h3 : 0 ≤ e) (h4 : e ≤ 4000000000) (h5 : 2 ≤ m) (h6 : m ≤ 2000000000) (w : World) :
    Calls Try.prog 161 #[.int .i64 a, .int .i64 e, .int .i64 m] w fun e' w' => e' = .returned (.int .i64 (Num.pow a e m)) ∧ w = w' := by
  obtain ⟨a, rfl⟩ := Int.eq_ofNat_of_zero_le h1
  obtain ⟨e, rfl⟩ := Int.eq_ofNat_of_zero_le h3
  obtain ⟨m, rfl⟩ := Int.eq_ofNat_of_zero_le (show 0 ≤ m by omega)
  exact raise_nat a e m (by omega) (by omega) (by omega) (by omega) w

set_option maxHeartbeats 800000 in
theorem nPower_nat (a e m : Nat) (h1 : a ≤ 2000000000) (h0 : 2 ≤ m) (h2 : m ≤ 2000000000) (h3 : e ≤ 4000000000) (w : World) :
    Calls Try.prog 121 #[.int .i64 a, .int .i64 e, .int .i64 m] w fun e' w' => e' = .returned (.int .i64 (Num.pw 1 a e m : Nat)) ∧ w = w' := by
  have hm : 0 < (m : Int) := by omega
  have hm1 : (0 : Int) ≤ 1 % (m : Int) := Int.emod_nonneg _ (by omega)
  have H1 := Lib.hid (show (1 : Int) % (m : Int) = 1 from Int.emod_eq_of_lt (by omega) (by omega))
  go_enter Try.func121, Try.ntmps121
  go_wp2
  go_loop [1, 7, 0] (fun E R S => ∃ (n r q : Nat), (0 ≤ (n : Int) ∧ (n : Int) ≤ 4000000000 ∧ 0 ≤ (r : Int) ∧ (r : Int) ≤ 2000000000 ∧ 0 ≤ (q : Int) ∧ (q : Int) ≤ 2000000000) ∧ Num.pw 1 a e m = Num.pw r q n m ∧ E = .int .i64 n ∧ R = .int .i64 r ∧ S = .int .i64 q) (fun E _ _ => (intOf E).toNat)
  case atStart => exact ⟨e, 1, a, by omega, rfl, rfl, by rw [H1.out]; rfl, rfl⟩
  case round =>
    obtain ⟨n, r, q, ⟨b1, b2, b3, b4, b5, b6⟩, he, rfl, rfl, rfl⟩ := hrel
    have HE := Lib.hid he
    clear he
    obtain ⟨⟨c1, c2⟩, ⟨c3, c4⟩, d1, d2, d3, d4⟩ := pow_facts (r := r) (q := q) (m := m) (by omega) (by omega) (by omega)
    have D1 := Lib.hid d1
    have D2 := Lib.hid d2
    clear d1 d2
    by_cases hn : n = 0
    · subst hn
      go_wp2
      go_ret
      exact ⟨by rw [HE.out, Num.pw_zero]; rfl, rfl⟩
    · have hn0 : 0 < (n : Int) := by omega
      by_cases ho : n % 2 = 1
      · have hoi : ((n : Int) % 2 == 1) = true := by simp; omega
        go_wp2
        go_round
        case rel =>
          refine ⟨n / 2, r * q % m, q * q % m, by omega, HE.out.trans (Num.pw_odd ho), by simp, by rw [D1.out], by rw [D2.out]⟩
        case measure =>
          simp only [intOf]
          omega
      · have hoi : ((n : Int) % 2 == 1) = false := by simp; omega
        go_wp2
        go_round
        case rel =>
          refine ⟨n / 2, r, q * q % m, by omega, HE.out.trans (Num.pw_even (by omega) hn), by simp, rfl, by rw [D2.out]⟩
        case measure =>
          simp only [intOf]
          omega

theorem nPower_any (a e m : Int) (h1 : 0 ≤ a) (h2 : a ≤ 2000000000) (h3 : 0 ≤ e) (h4 : e ≤ 4000000000) (h5 : 2 ≤ m) (h6 : m ≤ 2000000000) (w : World) :
    Calls Try.prog 121 #[.int .i64 a, .int .i64 e, .int .i64 m] w fun e' w' => e' = .returned (.int .i64 (Num.pow a e m)) ∧ w = w' := by
  obtain ⟨a, rfl⟩ := Int.eq_ofNat_of_zero_le h1
  obtain ⟨e, rfl⟩ := Int.eq_ofNat_of_zero_le h3
  obtain ⟨m, rfl⟩ := Int.eq_ofNat_of_zero_le (show 0 ≤ m by omega)
  exact nPower_nat a e m (by omega) (by omega) (by omega) (by omega) w


/-- PowerMod's condition and what it answers. -/
def pwrB (a e m : Int) : Bool := resB a m && decide (0 ≤ e) && decide (e ≤ 2000000000)
def pwr (a e m : Int) : Int := if pwrB a e m then Num.pow a e m else 0
theorem pwrB_true {a e m : Int} : pwrB a e m = true ↔ (2 ≤ m ∧ m ≤ 2000000000 ∧ 0 ≤ a ∧ a < m) ∧ 0 ≤ e ∧ e ≤ 2000000000 := by
  unfold pwrB; simp [resB_true]; omega
theorem pwrB_false {a e m : Int} : pwrB a e m = false ↔ resB a m = false ∨ e < 0 ∨ 2000000000 < e := by
  unfold pwrB; cases resB a m <;> simp; omega

end Go.Proofs.Ytdnofcpobpoehaa

