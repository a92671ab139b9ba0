/- IsPrime of the program (the strong test) and of the reference (trial division). -/
import Derived.Test.YtdnofcpobpoehaaC2
import Derived.Test.YtdnofcpobpoehaaPsK
import Derived.Deep.LoopGhost
namespace Go.Proofs.Ytdnofcpobpoehaa
open Go.RowKit

namespace Num
/-- Trial division from p on. -/
def tri (n p : Nat) : Bool :=
  if h : p * p ≤ n ∧ 0 < p then
    have : n + 1 - (p + 1) < n + 1 - p := by
      have : p * 1 ≤ p * p := Nat.mul_le_mul_left p h.2
      omega
    if n % p = 0 then false else tri n (p + 1)
  else true
termination_by n + 1 - p

theorem tri_go {n p : Nat} (h : p * p ≤ n) (hp : 0 < p) (hm : n % p ≠ 0) : tri n p = tri n (p + 1) := by
  rw [tri]; simp [h, hp, hm]
theorem tri_hit {n p : Nat} (h : p * p ≤ n) (hp : 0 < p) (hm : n % p = 0) : tri n p = false := by
  rw [tri]; simp [h, hp, hm]
theorem tri_end {n p : Nat} (h : ¬ p * p ≤ n) : tri n p = true := by
  rw [tri]; simp [h]

theorem tri_iff {n : Nat} (h2 : 2 ≤ n) : ∀ k p, n + 1 - p ≤ k → 2 ≤ p → (∀ q, 2 ≤ q → q ∣ n → p ≤ q) → (tri n p = true ↔ Pr n) := by
  intro k
  induction k with
  | zero =>
    intro p hk hp hq
    have := hq n h2 (Nat.dvd_refl n)
    omega
  | succ k ih =>
    intro p hk hp hq
    by_cases h : p * p ≤ n
    · by_cases hm : n % p = 0
      · rw [tri_hit h (by omega) hm]
        constructor
        · intro h; cases h
        · intro hP
          rcases hP.2 p (Nat.dvd_of_mod_eq_zero hm) with h1 | h1
          · omega
          · subst h1
            have : 2 * p ≤ p * p := Nat.mul_le_mul_right p hp
            omega
      · rw [tri_go h (by omega) hm]
        have : p * 1 ≤ p * p := Nat.mul_le_mul_left p (by omega)
        refine ih (p + 1) (by omega) (by omega) (fun q hq2 hqd => ?_)
        have h1 := hq q hq2 hqd
        rcases Nat.lt_or_ge p q with h' | h'
        · exact h'
        · have : q = p := by omega
          subst this
          exact absurd (Nat.mod_eq_zero_of_dvd hqd) hm
    · rw [tri_end h]
      simp only [true_iff]
      obtain ⟨q, hqp, hqn, hql⟩ := least_factor n h2
      have h1 := hq q hqp.1 hqn
      obtain ⟨c, hc⟩ := hqn
      have hc1 : c = 1 := by
        rcases Nat.lt_or_ge c 2 with hc2 | hc2
        · rcases Nat.eq_zero_or_pos c with rfl | hc0
          · rw [Nat.mul_zero] at hc; omega
          · omega
        · have h3 := hq c hc2 ⟨q, by rw [hc, Nat.mul_comm]⟩
          have h5 : p * p ≤ q * c := Nat.mul_le_mul h1 h3
          omega
      rw [hc1, Nat.mul_one] at hc
      rw [hc]; exact hqp

theorem tri_prime {n : Nat} (h2 : 2 ≤ n) : tri n 2 = true ↔ Pr n := tri_iff h2 (n + 1) 2 (by omega) (Nat.le_refl _) (fun _ h _ => h)

theorem pw_eq (m : Nat) : ∀ e res q, res < m → pw res q e m = res * q ^ e % m := by
  intro e
  induction e using Nat.strongRecOn with
  | _ e ih =>
    intro res q hres
    rcases Nat.eq_zero_or_pos e with rfl | hpos
    · rw [pw_zero]; simp [Nat.mod_eq_of_lt hres]
    · have hlt : e / 2 < e := Nat.div_lt_self hpos (by decide)
      rcases (show e % 2 = 0 ∨ e % 2 = 1 by omega) with h | h
      · rw [pw_even h (by omega), ih _ hlt _ _ hres]
        rw [Nat.mul_mod, ← Nat.pow_mod, ← Nat.mul_mod, ← Nat.pow_two, ← Nat.pow_mul, show 2 * (e / 2) = e by omega]
      · rw [pw_odd h, ih _ hlt _ _ (Nat.mod_lt _ (by omega))]
        rw [Nat.mul_mod, Nat.mod_mod, ← Nat.pow_mod, ← Nat.mul_mod, ← Nat.pow_two, ← Nat.pow_mul, Nat.mul_assoc, Nat.mul_comm q, ← Nat.pow_succ, show (2 * (e / 2)).succ = e by omega]

theorem pow_eq {a e m : Nat} (hm : 1 < m) : pow a e m = ((a ^ e % m : Nat) : Int) := by
  unfold pow
  rw [Int.toNat_natCast, Int.toNat_natCast, Int.toNat_natCast, pw_eq m e 1 a hm, Nat.one_mul]

theorem oddp_even {e : Nat} (h : 0 < e) (h2 : e % 2 = 0) : oddp e = oddp (e / 2) := by rw [oddp]; simp [h, h2]
theorem oddp_odd {e : Nat} (h2 : e % 2 = 1) : oddp e = e := by rw [oddp]; simp [h2]

theorem sq_hit {n e x : Nat} (h : 0 < e) (h1 : e < n - 1) (h2 : x = n - 1) : sq n e x = true := by rw [sq]; simp [h, h1, h2]
theorem sq_go {n e x : Nat} (h : 0 < e) (h1 : e < n - 1) (h2 : x ≠ n - 1) : sq n e x = sq n (e * 2) (x * x % n) := by rw [sq]; simp [h, h1, h2]
theorem sq_end {n e x : Nat} (h1 : ¬ e < n - 1) : sq n e x = false := by rw [sq]; simp; omega

/-- The program's test over a list of bases. -/
def allB (n : Nat) : List Nat → Bool
  | [] => true
  | b :: bs => if n % b = 0 then decide (n = b) else if mrB n b then allB n bs else false

theorem pr_small {b : Nat} (h : b = 2 ∨ b = 3 ∨ b = 5 ∨ b = 7) : Pr b := by
  refine ⟨by omega, fun d hd => ?_⟩
  have hle := Nat.le_of_dvd (by omega) hd
  obtain ⟨c, hc⟩ := hd
  rcases h with rfl | rfl | rfl | rfl <;> (have : d = 0 ∨ d = 1 ∨ d = 2 ∨ d = 3 ∨ d = 4 ∨ d = 5 ∨ d = 6 ∨ d = 7 := by omega) <;> rcases this with rfl | rfl | rfl | rfl | rfl | rfl | rfl | rfl <;> omega

theorem allB_iff {n : Nat} (h2 : 2 ≤ n) (hle : n ≤ 2000000000) : allB n [2, 3, 5, 7] = true ↔ Pr n := by
  constructor
  · intro h
    by_cases d2 : n % 2 = 0
    · simp [allB, d2] at h; subst h; exact pr_small (.inl rfl)
    simp only [allB, d2, if_false] at h
    by_cases m2 : mrB n 2 = true <;> simp only [m2, if_true, if_false, Bool.false_eq_true] at h
    by_cases d3 : n % 3 = 0
    · simp [d3] at h; subst h; exact pr_small (.inr (.inl rfl))
    simp only [d3, if_false] at h
    by_cases m3 : mrB n 3 = true <;> simp only [m3, if_true, if_false, Bool.false_eq_true] at h
    by_cases d5 : n % 5 = 0
    · simp [d5] at h; subst h; exact pr_small (.inr (.inr (.inl rfl)))
    simp only [d5, if_false] at h
    by_cases m5 : mrB n 5 = true <;> simp only [m5, if_true, if_false, Bool.false_eq_true] at h
    by_cases d7 : n % 7 = 0
    · simp [d7] at h; subst h; exact pr_small (.inr (.inr (.inr rfl)))
    simp only [d7, if_false] at h
    by_cases m7 : mrB n 7 = true <;> simp only [m7, if_true, if_false, Bool.false_eq_true] at h
    refine strong_prime ⟨by omega, hle, m2, m3, m5, m7⟩ (fun q hq hqn => ?_)
    rcases Nat.lt_or_ge q 11 with h' | h'
    · exfalso
      have := Nat.mod_eq_zero_of_dvd hqn
      have : q = 2 ∨ q = 3 ∨ q = 4 ∨ q = 5 ∨ q = 6 ∨ q = 7 ∨ q = 8 ∨ q = 9 ∨ q = 10 := by omega
      rcases this with rfl | rfl | rfl | rfl | rfl | rfl | rfl | rfl | rfl <;> omega
    · exact h'
  · intro hP
    have hit : ∀ b, 1 < b → n % b = 0 → n = b := fun b hb hm => by
      rcases hP.2 b (Nat.dvd_of_mod_eq_zero hm) with h1 | h1
      · omega
      · exact h1.symm
    by_cases d2 : n % 2 = 0
    · simp only [allB, d2, if_true]; exact decide_eq_true (hit 2 (by decide) d2)
    have hn2 : 2 < n := by omega
    have m2 := prime_passes hP hn2 (b := 2) (fun hd => by have := Nat.le_of_dvd (by decide) hd; omega)
    simp only [allB, d2, if_false, m2, if_true]
    by_cases d3 : n % 3 = 0
    · simp only [d3, if_true]; exact decide_eq_true (hit 3 (by decide) d3)
    have m3 := prime_passes hP hn2 (b := 3) (fun hd => by
      have hle' := Nat.le_of_dvd (by decide) hd
      rcases (show n = 3 by omega) with rfl <;> omega)
    simp only [d3, if_false, m3, if_true]
    by_cases d5 : n % 5 = 0
    · simp only [d5, if_true]; exact decide_eq_true (hit 5 (by decide) d5)
    have m5 := prime_passes hP hn2 (b := 5) (fun hd => by
      have hle' := Nat.le_of_dvd (by decide) hd
      rcases (show n = 3 ∨ n = 4 ∨ n = 5 by omega) with rfl | rfl | rfl <;> omega)
    simp only [d5, if_false, m5, if_true]
    by_cases d7 : n % 7 = 0
    · simp only [d7, if_true]; exact decide_eq_true (hit 7 (by decide) d7)
    have m7 := prime_passes hP hn2 (b := 7) (fun hd => by
      have hle' := Nat.le_of_dvd (by decide) hd
      rcases (show n = 3 ∨ n = 4 ∨ n = 5 ∨ n = 6 ∨ n = 7 by omega) with rfl | rfl | rfl | rfl | rfl <;> omega)
    simp only [d7, if_false, m7, if_true]

/-- Is n a prime? -/
def prB (n : Int) : Bool := decide (2 ≤ n) && tri n.toNat 2
theorem allB_prB {n : Nat} (h2 : 2 ≤ n) (hle : n ≤ 2000000000) : allB n [2, 3, 5, 7] = prB n := by
  rw [Bool.eq_iff_iff, allB_iff h2 hle, ← tri_prime h2]
  unfold prB
  rw [Int.toNat_natCast]
  have : (2 : Int) ≤ n := by omega
  simp [this]
end Num

theorem sqb {d : Nat} (h : d ≤ 44722) : d * d ≤ 2000057284 := by
  have : d * d ≤ 44722 * d := Nat.mul_le_mul_right _ h
  omega
theorem rtb {d n : Nat} (h : d * d ≤ n) (hn : n ≤ 2000000000) : d ≤ 44721 := by
  rcases Nat.lt_or_ge 44721 d with h' | h'
  · have : 44722 * 44722 ≤ d * d := Nat.mul_le_mul h' h'
    omega
  · exact h'

set_option maxHeartbeats 800000 in
theorem nPrime_nat (n : Nat) (h2 : 2 ≤ n) (hle : n ≤ 2000000000) (w : World) :
    Calls Try.prog 124 #[.int .i64 n] w fun e w' => e = .returned (.bool (Num.tri n 2)) ∧ w = w' := by
  have h2i : (2 : Int) ≤ (n : Int) := by omega
  go_enter Try.func124, Try.ntmps124
  go_wp2
  go_loopg [3] (n + 2) (fun gk P wr => ∃ p : Nat, gk + p = n + 4 ∧ (2 ≤ p ∧ p ≤ 44722) ∧ P = .int .i64 p ∧ Num.tri n 2 = Num.tri n p ∧ wr = w)
  case atStart => exact ⟨2, by omega, ⟨by omega, by omega⟩, rfl, rfl, rfl⟩
  case round =>
    obtain ⟨p, hgk, ⟨hp2, hp3⟩, rfl, he, rfl⟩ := hrel
    have HGK := Lib.hid hgk
    have HE := Lib.hid he
    clear hgk he
    have hsq := sqb hp3
    have hsqi : (0 : Int) ≤ (p : Int) * p ∧ (p : Int) * p ≤ 2000057284 := by
      have e : (p : Int) * p = ((p * p : Nat) : Int) := by simp
      rw [e]; omega
    obtain ⟨hsq0, hsq1⟩ := hsqi
    have hppos : (0 : Int) < (p : Int) := by omega
    by_cases hpn : p * p ≤ n
    · have hpni : (p : Int) * p ≤ (n : Int) := by
        have e : (p : Int) * p = ((p * p : Nat) : Int) := by simp
        rw [e]; omega
      have hp4 := rtb hpn hle
      have hplt : p ≤ n := by
        have : 1 * p ≤ p * p := Nat.mul_le_mul_right p (by omega)
        omega
      by_cases hm : n % p = 0
      · have hmi : ((n : Int) % (p : Int) == 0) = true := by
          have : ((n % p : Nat) : Int) = 0 := by omega
          simp only [Int.natCast_emod] at this
          simp [this]
        have HT := Lib.hid (Num.tri_hit hpn (by omega) hm)
        clear hm hpn
        go_wp2
        go_ret
        exact ⟨by rw [HE.out, HT.out]; rfl, rfl⟩
      · have hmi : ((n : Int) % (p : Int) == 0) = false := by
          have : ((n % p : Nat) : Int) ≠ 0 := by omega
          simp only [Int.natCast_emod] at this
          simp [this]
        have HT := Lib.hid (Num.tri_go hpn (by omega) hm)
        clear hm hpn
        go_wp2
        go_roundg (n + 3 - p)
        case measure => have := HGK.out; omega
        case rel => exact ⟨p + 1, by omega, ⟨by omega, by omega⟩, by go_num, HE.out.trans HT.out, rfl⟩
    · have hpni : (n : Int) < (p : Int) * p := by
        have e : (p : Int) * p = ((p * p : Nat) : Int) := by simp
        rw [e]; omega
      have HT := Lib.hid (Num.tri_end hpn)
      clear hpn
      go_wp2
      go_ret
      exact ⟨by rw [HE.out, HT.out]; rfl, rfl⟩

theorem nPrime_any (n : Int) (hle : n ≤ 2000000000) (w : World) :
    Calls Try.prog 124 #[.int .i64 n] w fun e w' => e = .returned (.bool (Num.prB n)) ∧ w = w' := by
  by_cases h : 2 ≤ n
  · obtain ⟨n, rfl⟩ := Int.eq_ofNat_of_zero_le (show 0 ≤ n by omega)
    have := nPrime_nat n (by omega) (by omega) w
    unfold Num.prB
    rw [Int.toNat_natCast, decide_eq_true h, Bool.true_and]
    exact this
  · have hb : Num.prB n = false := by unfold Num.prB; rw [decide_eq_false h, Bool.false_and]
    rw [hb]; clear hb
    go_enter Try.func124, Try.ntmps124
    go_wp2
    go_ret
    exact ⟨rfl, rfl⟩


theorem mrB_one {n b : Nat} (h : b ^ Num.oddp (n - 1) % n = 1) : Num.mrB n b = true := by unfold Num.mrB; rw [if_pos h]
theorem mrB_other {n b : Nat} (h : b ^ Num.oddp (n - 1) % n ≠ 1) : Num.mrB n b = Num.sq n (Num.oddp (n - 1)) (b ^ Num.oddp (n - 1) % n) := by unfold Num.mrB; rw [if_neg h]

set_option maxHeartbeats 1600000 in
theorem passesBase_nat (n b : Nat) (h3 : 2 < n) (hle : n ≤ 2000000000) (hodd : n % 2 = 1) (hb0 : b ≤ 2000000000) (w : World) :
    Calls Try.prog 173 #[.int .i64 n, .int .i64 b] w fun e w' => e = .returned (.bool (Num.mrB n b)) ∧ w = w' := by
  have hn1 : (0 : Int) < (n : Int) - 1 := by omega
  have hn1' : ((n - 1 : Nat) : Int) = (n : Int) - 1 := by omega
  have HN1 := Lib.hid hn1'
  clear hn1'
  go_enter Try.func173, Try.ntmps173
  go_wp2
  go_loop [5] (fun E => ∃ e : Nat, (0 < (e : Int) ∧ (e : Int) ≤ 2000000000) ∧ E = .int .i64 e ∧ Num.oddp (n - 1) = Num.oddp e ∧ e ≤ n - 1) (fun E => (intOf E).toNat)
  case atStart => exact ⟨n - 1, by omega, by rw [HN1.out], rfl, Nat.le_refl _⟩
  case round =>
    obtain ⟨e, ⟨he1, he2⟩, rfl, ho, hen⟩ := hrel
    have HO := Lib.hid ho
    clear ho
    by_cases h2 : e % 2 = 0
    · have h2i : ((e : Int) % 2 == 0) = true := by simp; omega
      have HO2 := Lib.hid (HO.out.trans (Num.oddp_even (by omega) h2))
      have hpos : 0 < e / 2 := by omega
      clear h2
      go_wp2
      go_round
      case rel => exact ⟨e / 2, by omega, by simp, HO2.out, by omega⟩
      case measure => simp only [intOf]; omega
    · have h2i : ((e : Int) % 2 == 0) = false := by simp; omega
      have HO2 := Lib.hid (HO.out.trans (Num.oddp_odd (by omega)))
      clear h2
      go_wp2_with fail
      refine (raise_any _ _ _ (by omega) (by omega) (by omega) (by omega) (by omega) (by omega) _).mono ?_
      rw [Num.pow_eq (by omega)]
      rintro e' w' ⟨rfl, rfl⟩
      have hxlt : b ^ e % n < n := Nat.mod_lt _ (by omega)
      generalize hx : b ^ e % n = x at hxlt ⊢
      have HX := Lib.hid hx
      clear hx
      by_cases hx1 : x = 1
      · have HM := Lib.hid (mrB_one (n := n) (b := b) (by rw [HO2.out, HX.out]; exact hx1))
        have hxi : ((x : Int) == 1) = true := by simp; omega
        clear hx1
        go_wp2
        go_ret
        exact ⟨by rw [HM.out]; rfl, rfl⟩
      · have HM := Lib.hid ((mrB_other (n := n) (b := b) (by rw [HO2.out, HX.out]; exact hx1)).trans (by rw [HO2.out, HX.out]))
        have hxi : ((x : Int) == 1) = false := by simp; omega
        clear hx1
        go_wp2
        go_loop [5, 6] (fun E X => ∃ (d y : Nat), (0 < (d : Int) ∧ (d : Int) ≤ 4000000000) ∧ (0 ≤ (y : Int) ∧ (y : Int) < n) ∧ E = .int .i64 d ∧ X = .int .i64 y ∧ Num.mrB n b = Num.sq n d y) (fun E _ => (n - (intOf E).toNat))
        case atStart => exact ⟨e, x, by omega, by omega, rfl, rfl, HM.out⟩
        case round =>
          obtain ⟨d, y, ⟨hd1, hd2⟩, ⟨hy1, hy2⟩, rfl, rfl, hs⟩ := hrel
          have HS := Lib.hid hs
          clear hs
          by_cases hdn : d < n - 1
          · have hdni : (d : Int) < (n : Int) - 1 := by omega
            by_cases hyn : y = n - 1
            · have HT := Lib.hid (HS.out.trans (Num.sq_hit (by omega) hdn hyn))
              have hyi : ((y : Int) == (n : Int) - 1) = true := by simp; omega
              clear hyn
              go_wp2
              go_ret
              exact ⟨by rw [HT.out]; rfl, rfl⟩
            · have HT := Lib.hid (HS.out.trans (Num.sq_go (by omega) hdn hyn))
              have hyi : ((y : Int) == (n : Int) - 1) = false := by simp; omega
              clear hyn
              obtain ⟨⟨c1, c2⟩, _, d1, _, d3, _⟩ := pow_facts (r := y) (q := y) (m := n) (by omega) (by omega) (by omega)
              have D1 := Lib.hid d1
              clear d1
              go_wp2
              go_round
              case rel => exact ⟨d * 2, y * y % n, by omega, by omega, by simp, by rw [D1.out], HT.out⟩
              case measure => simp only [intOf]; omega
          · have hdni : (n : Int) - 1 ≤ (d : Int) := by omega
            have HT := Lib.hid (HS.out.trans (Num.sq_end hdn))
            clear hdn
            go_wp2
            go_ret
            exact ⟨by rw [HT.out]; rfl, rfl⟩


theorem passesBase_any (n b : Int) (h3 : 2 < n) (hle : n ≤ 2000000000) (hodd : n % 2 = 1) (hb0 : 0 ≤ b) (hb1 : b ≤ 2000000000) (w : World) :
    Calls Try.prog 173 #[.int .i64 n, .int .i64 b] w fun e w' => e = .returned (.bool (Num.mrB n.toNat b.toNat)) ∧ w = w' := by
  obtain ⟨n, rfl⟩ := Int.eq_ofNat_of_zero_le (show 0 ≤ n by omega)
  obtain ⟨b, rfl⟩ := Int.eq_ofNat_of_zero_le hb0
  exact passesBase_nat n b (by omega) (by omega) (by omega) (by omega) w

/-- One base of the list. -/
theorem allB_hit {n b : Nat} {bs : List Nat} (h : n % b = 0) : Num.allB n (b :: bs) = decide (n = b) := by simp [Num.allB, h]
theorem allB_no {n b : Nat} {bs : List Nat} (h : n % b ≠ 0) (h1 : Num.mrB n b = false) : Num.allB n (b :: bs) = false := by simp [Num.allB, h, h1]
theorem allB_go {n b : Nat} {bs : List Nat} (h : n % b ≠ 0) (h1 : Num.mrB n b = true) : Num.allB n (b :: bs) = Num.allB n bs := by simp [Num.allB, h, h1]

set_option maxHeartbeats 3200000 in
theorem passesAll_nat (n : Nat) (h2 : 2 ≤ n) (hle : n ≤ 2000000000) (w : World) :
    Calls Try.prog 157 #[.int .i64 n] w fun e w' => e = .returned (.bool (Num.allB n [2, 3, 5, 7])) ∧ w = w' := by
  have i0 : ∀ w, (Instr.index 180 (.agg #[.int .i64 2, .int .i64 3, .int .i64 5, .int .i64 7]) (.int .i64 0)).run Try.prog w = .ok (.int .i64 2) w := fun _ => by kernel_rfl
  have i1 : ∀ w, (Instr.index 180 (.agg #[.int .i64 2, .int .i64 3, .int .i64 5, .int .i64 7]) (.int .i64 1)).run Try.prog w = .ok (.int .i64 3) w := fun _ => by kernel_rfl
  have i2 : ∀ w, (Instr.index 180 (.agg #[.int .i64 2, .int .i64 3, .int .i64 5, .int .i64 7]) (.int .i64 2)).run Try.prog w = .ok (.int .i64 5) w := fun _ => by kernel_rfl
  have i3 : ∀ w, (Instr.index 180 (.agg #[.int .i64 2, .int .i64 3, .int .i64 5, .int .i64 7]) (.int .i64 3)).run Try.prog w = .ok (.int .i64 7) w := fun _ => by kernel_rfl
  go_enter Try.func157, Try.ntmps157
  go_wp2
  go_loopg [6] 5 (fun gk K wr => wr = w ∧ ((gk = 5 ∧ K = .int .i64 0) ∨ (n % 2 = 1 ∧ 2 < n ∧ ((gk = 4 ∧ K = .int .i64 1 ∧ Num.allB n [2, 3, 5, 7] = Num.allB n [3, 5, 7]) ∨ (gk = 3 ∧ K = .int .i64 2 ∧ Num.allB n [2, 3, 5, 7] = Num.allB n [5, 7]) ∨ (gk = 2 ∧ K = .int .i64 3 ∧ Num.allB n [2, 3, 5, 7] = Num.allB n [7]) ∨ (gk = 1 ∧ K = .int .i64 4 ∧ Num.allB n [2, 3, 5, 7] = true)))))
  case atStart => exact ⟨rfl, .inl ⟨rfl, rfl⟩⟩
  case round =>
    obtain ⟨rfl, hor⟩ := hrel
    rcases hor with ⟨rfl, rfl⟩ | ⟨hodd, hn2, ⟨rfl, rfl, he⟩ | ⟨rfl, rfl, he⟩ | ⟨rfl, rfl, he⟩ | ⟨rfl, rfl, he⟩⟩
    · by_cases hm : n % 2 = 0
      · have HT := Lib.hid ((allB_hit (bs := [3, 5, 7]) hm))
        have hmi : ((n : Int) % 2 == 0) = true := by simp; omega
        clear hm
        by_cases hq : n = 2
        · have hqi : ((n : Int) == 2) = true := by simp; omega
          have HV := Lib.hid (HT.out.trans (decide_eq_true hq))
          clear hq
          go_wp2
          go_ret
          exact ⟨by rw [HV.out]; rfl, rfl⟩
        · have hqi : ((n : Int) == 2) = false := by simp; omega
          have HV := Lib.hid (HT.out.trans (decide_eq_false hq))
          clear hq
          go_wp2
          go_ret
          exact ⟨by rw [HV.out]; rfl, rfl⟩
      · have hmi : ((n : Int) % 2 == 0) = false := by simp; omega
        have hoddi : (n : Int) % 2 = 1 := by omega
        have HHo := Lib.hid hoddi
        clear hoddi
        have hn2i : (2 : Int) < (n : Int) := by omega
        cases hmr : Num.mrB n 2
        · have HT := Lib.hid ((allB_no (bs := [3, 5, 7]) hm hmr))
          have HM := Lib.hid hmr
          clear hm hmr
          go_wp2_with fail
          refine (passesBase_any _ _ hn2i (by omega) HHo.out (by decide) (by decide) _).mono ?_
          rw [Int.toNat_natCast, show Int.toNat 2 = 2 from rfl, HM.out]
          rintro e w' ⟨rfl, rfl⟩
          go_wp2
          go_ret
          exact ⟨by rw [HT.out]; rfl, rfl⟩
        · have HT := Lib.hid ((allB_go (bs := [3, 5, 7]) hm hmr))
          have HM := Lib.hid hmr
          clear hm hmr
          go_wp2_with fail
          refine (passesBase_any _ _ hn2i (by omega) HHo.out (by decide) (by decide) _).mono ?_
          rw [Int.toNat_natCast, show Int.toNat 2 = 2 from rfl, HM.out]
          rintro e w' ⟨rfl, rfl⟩
          go_wp2
          go_roundg 4
          case measure => decide
          case rel => exact ⟨rfl, .inr ⟨(by have := HHo.out; omega), by omega, .inl ⟨rfl, rfl, HT.out⟩⟩⟩
    · have HE := Lib.hid he
      clear he
      by_cases hm : n % 3 = 0
      · have HT := Lib.hid (HE.out.trans (allB_hit (bs := [5, 7]) hm))
        have hmi : ((n : Int) % 3 == 0) = true := by simp; omega
        clear hm
        by_cases hq : n = 3
        · have hqi : ((n : Int) == 3) = true := by simp; omega
          have HV := Lib.hid (HT.out.trans (decide_eq_true hq))
          clear hq
          go_wp2
          go_ret
          exact ⟨by rw [HV.out]; rfl, rfl⟩
        · have hqi : ((n : Int) == 3) = false := by simp; omega
          have HV := Lib.hid (HT.out.trans (decide_eq_false hq))
          clear hq
          go_wp2
          go_ret
          exact ⟨by rw [HV.out]; rfl, rfl⟩
      · have hmi : ((n : Int) % 3 == 0) = false := by simp; omega
        have hoddi : (n : Int) % 2 = 1 := by omega
        have HHo := Lib.hid hoddi
        clear hoddi
        have hn2i : (2 : Int) < (n : Int) := by omega
        cases hmr : Num.mrB n 3
        · have HT := Lib.hid (HE.out.trans (allB_no (bs := [5, 7]) hm hmr))
          have HM := Lib.hid hmr
          clear hm hmr
          go_wp2_with fail
          refine (passesBase_any _ _ hn2i (by omega) HHo.out (by decide) (by decide) _).mono ?_
          rw [Int.toNat_natCast, show Int.toNat 3 = 3 from rfl, HM.out]
          rintro e w' ⟨rfl, rfl⟩
          go_wp2
          go_ret
          exact ⟨by rw [HT.out]; rfl, rfl⟩
        · have HT := Lib.hid (HE.out.trans (allB_go (bs := [5, 7]) hm hmr))
          have HM := Lib.hid hmr
          clear hm hmr
          go_wp2_with fail
          refine (passesBase_any _ _ hn2i (by omega) HHo.out (by decide) (by decide) _).mono ?_
          rw [Int.toNat_natCast, show Int.toNat 3 = 3 from rfl, HM.out]
          rintro e w' ⟨rfl, rfl⟩
          go_wp2
          go_roundg 3
          case measure => decide
          case rel => exact ⟨rfl, .inr ⟨(by have := HHo.out; omega), by omega, .inr (.inl ⟨rfl, rfl, HT.out⟩)⟩⟩
    · have HE := Lib.hid he
      clear he
      by_cases hm : n % 5 = 0
      · have HT := Lib.hid (HE.out.trans (allB_hit (bs := [7]) hm))
        have hmi : ((n : Int) % 5 == 0) = true := by simp; omega
        clear hm
        by_cases hq : n = 5
        · have hqi : ((n : Int) == 5) = true := by simp; omega
          have HV := Lib.hid (HT.out.trans (decide_eq_true hq))
          clear hq
          go_wp2
          go_ret
          exact ⟨by rw [HV.out]; rfl, rfl⟩
        · have hqi : ((n : Int) == 5) = false := by simp; omega
          have HV := Lib.hid (HT.out.trans (decide_eq_false hq))
          clear hq
          go_wp2
          go_ret
          exact ⟨by rw [HV.out]; rfl, rfl⟩
      · have hmi : ((n : Int) % 5 == 0) = false := by simp; omega
        have hoddi : (n : Int) % 2 = 1 := by omega
        have HHo := Lib.hid hoddi
        clear hoddi
        have hn2i : (2 : Int) < (n : Int) := by omega
        cases hmr : Num.mrB n 5
        · have HT := Lib.hid (HE.out.trans (allB_no (bs := [7]) hm hmr))
          have HM := Lib.hid hmr
          clear hm hmr
          go_wp2_with fail
          refine (passesBase_any _ _ hn2i (by omega) HHo.out (by decide) (by decide) _).mono ?_
          rw [Int.toNat_natCast, show Int.toNat 5 = 5 from rfl, HM.out]
          rintro e w' ⟨rfl, rfl⟩
          go_wp2
          go_ret
          exact ⟨by rw [HT.out]; rfl, rfl⟩
        · have HT := Lib.hid (HE.out.trans (allB_go (bs := [7]) hm hmr))
          have HM := Lib.hid hmr
          clear hm hmr
          go_wp2_with fail
          refine (passesBase_any _ _ hn2i (by omega) HHo.out (by decide) (by decide) _).mono ?_
          rw [Int.toNat_natCast, show Int.toNat 5 = 5 from rfl, HM.out]
          rintro e w' ⟨rfl, rfl⟩
          go_wp2
          go_roundg 2
          case measure => decide
          case rel => exact ⟨rfl, .inr ⟨(by have := HHo.out; omega), by omega, .inr (.inr (.inl ⟨rfl, rfl, HT.out⟩))⟩⟩
    · have HE := Lib.hid he
      clear he
      by_cases hm : n % 7 = 0
      · have HT := Lib.hid (HE.out.trans (allB_hit (bs := []) hm))
        have hmi : ((n : Int) % 7 == 0) = true := by simp; omega
        clear hm
        by_cases hq : n = 7
        · have hqi : ((n : Int) == 7) = true := by simp; omega
          have HV := Lib.hid (HT.out.trans (decide_eq_true hq))
          clear hq
          go_wp2
          go_ret
          exact ⟨by rw [HV.out]; rfl, rfl⟩
        · have hqi : ((n : Int) == 7) = false := by simp; omega
          have HV := Lib.hid (HT.out.trans (decide_eq_false hq))
          clear hq
          go_wp2
          go_ret
          exact ⟨by rw [HV.out]; rfl, rfl⟩
      · have hmi : ((n : Int) % 7 == 0) = false := by simp; omega
        have hoddi : (n : Int) % 2 = 1 := by omega
        have HHo := Lib.hid hoddi
        clear hoddi
        have hn2i : (2 : Int) < (n : Int) := by omega
        cases hmr : Num.mrB n 7
        · have HT := Lib.hid (HE.out.trans (allB_no (bs := []) hm hmr))
          have HM := Lib.hid hmr
          clear hm hmr
          go_wp2_with fail
          refine (passesBase_any _ _ hn2i (by omega) HHo.out (by decide) (by decide) _).mono ?_
          rw [Int.toNat_natCast, show Int.toNat 7 = 7 from rfl, HM.out]
          rintro e w' ⟨rfl, rfl⟩
          go_wp2
          go_ret
          exact ⟨by rw [HT.out]; rfl, rfl⟩
        · have HT := Lib.hid (HE.out.trans (allB_go (bs := []) hm hmr))
          have HM := Lib.hid hmr
          clear hm hmr
          go_wp2_with fail
          refine (passesBase_any _ _ hn2i (by omega) HHo.out (by decide) (by decide) _).mono ?_
          rw [Int.toNat_natCast, show Int.toNat 7 = 7 from rfl, HM.out]
          rintro e w' ⟨rfl, rfl⟩
          go_wp2
          go_roundg 1
          case measure => decide
          case rel => exact ⟨rfl, .inr ⟨(by have := HHo.out; omega), by omega, .inr (.inr (.inr ⟨rfl, rfl, HT.out⟩))⟩⟩
    · have HE := Lib.hid he
      clear he
      go_wp2
      go_ret
      exact ⟨by rw [HE.out]; rfl, rfl⟩


theorem passesAll_any (n : Int) (h2 : 2 ≤ n) (hle : n ≤ 2000000000) (w : World) :
    Calls Try.prog 157 #[.int .i64 n] w fun e w' => e = .returned (.bool (Num.prB n)) ∧ w = w' := by
  obtain ⟨n, rfl⟩ := Int.eq_ofNat_of_zero_le (show 0 ≤ n by omega)
  have h := passesAll_nat n (by omega) (by omega) w
  rwa [Num.allB_prB (by omega) (by omega)] at h

theorem prB_small {n : Int} (h : n < 2) : Num.prB n = false := by
  unfold Num.prB; rw [decide_eq_false (by omega), Bool.false_and]

/-- IsPrime's condition and what it answers. -/
def isPr (n : Int) : Bool := inB n 0 2000000000 && Num.prB n

theorem isPrimeB_any (n : Int) (w : World) :
    Calls Try.prog 115 #[.int .i64 n] w fun e w' => e = .returned (.bool (isPr n)) ∧ w = w' := by
  cases hm : modB n
  · have hp : isPr n = false := by
      rcases modB_false.1 hm with h | h
      · simp [isPr, prB_small h]
      · simp [isPr, inB_false.2 (.inr h)]
    rw [hp]
    have HM := Lib.hid hm
    clear hm hp
    go_enter Try.func115, Try.ntmps115
    go_wp2_with (go_at_call 156; refine (isModulus_any _ _).mono ?_; rintro e w' ⟨rfl, rfl⟩; rw [HM.out])
    go_ret
    exact ⟨rfl, rfl⟩
  · obtain ⟨h2, hle⟩ := modB_true.1 hm
    have hp : isPr n = Num.prB n := by simp [isPr, inB_true.2 (show 0 ≤ n ∧ n ≤ 2000000000 by omega)]
    rw [hp]
    have HM := Lib.hid hm
    clear hm hp
    go_enter Try.func115, Try.ntmps115
    go_wp2_with (first | (go_at_call 156; refine (isModulus_any _ _).mono ?_; rintro e w' ⟨rfl, rfl⟩; rw [HM.out]) | (go_at_call 157; refine (passesAll_any _ h2 (by omega) _).mono ?_; rintro e w' ⟨rfl, rfl⟩))
    go_ret
    exact ⟨rfl, rfl⟩

end Go.Proofs.Ytdnofcpobpoehaa

