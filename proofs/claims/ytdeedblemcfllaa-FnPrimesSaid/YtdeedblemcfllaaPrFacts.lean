/- Facts for the law FnPrimes: the factors multiply back to the number; a primitive root is no square. -/
import Derived.Test.YtdeedblemcfllaaPrim
import Derived.Test.YtdeedblemcfllaaLeg
namespace Go.Proofs.Ytdeedblemcfllaa
open Go.RowKit
namespace Num

def prodOf : List Int → Nat
  | f :: e :: rest => f.toNat ^ e.toNat * prodOf rest
  | _ => 1

theorem prodOf_append : ∀ (l : List Int) (a b : Int), l.length % 2 = 0 → prodOf (l ++ [a, b]) = prodOf l * a.toNat ^ b.toNat
  | [], a, b, _ => by simp [prodOf]
  | [_], _, _, h => by simp at h
  | x :: y :: l, a, b, h => by
    have := prodOf_append l a b (by simp at h; omega)
    simp [prodOf, this, Nat.mul_assoc]

theorem strip_prod {d : Nat} (hd : 2 ≤ d) : ∀ n e, 0 < n → (strip n d e).1 * d ^ (strip n d e).2 = n * d ^ e := by
  intro n
  induction n using Nat.strongRecOn with
  | _ n ih =>
    intro e hn
    by_cases h : n % d = 0
    · have hlt : n / d < n := Nat.div_lt_self hn hd
      have hle : d ≤ n := Nat.le_of_dvd hn (Nat.dvd_of_mod_eq_zero h)
      rw [strip_go hd hn h, ih (n / d) hlt (e + 1) (Nat.div_pos hle (by omega)), Nat.pow_succ, Nat.mul_comm (d ^ e), ← Nat.mul_assoc, Nat.div_mul_cancel (Nat.dvd_of_mod_eq_zero h)]
    · rw [strip_end h]

theorem fac_prod {N : Nat} : ∀ (k n d : Nat) (acc : List Int), n - d ≤ k → 0 < n → 2 ≤ d → acc.length % 2 = 0 → prodOf acc * n = N → prodOf (fac n d acc) = N := by
  have hlast : ∀ (n : Nat) (acc : List Int), 0 < n → acc.length % 2 = 0 → prodOf acc * n = N → prodOf (acc ++ facLast n) = N := by
    intro n acc hn hl hN
    unfold facLast
    by_cases h1 : 1 < n
    · rw [if_pos h1, prodOf_append _ _ _ hl]; simpa using hN
    · have : n = 1 := by omega
      subst this
      rw [if_neg h1, List.append_nil]; simpa using hN
  intro k
  induction k with
  | zero =>
    intro n d acc hk hn hd hl hN
    have hend : ¬ d * d ≤ n := by
      have : 2 * d ≤ d * d := Nat.mul_le_mul_right d hd
      omega
    rw [fac_end hend]
    exact hlast n acc hn hl hN
  | succ k ih =>
    intro n d acc hk hn hd hl hN
    by_cases hgo : d * d ≤ n
    · rw [fac_go hd hn hgo]
      have hb := strip_bd n d 0 hn
      have hs := strip_prod hd n 0 hn
      have hdn : d < n := by
        have : 2 * d ≤ d * d := Nat.mul_le_mul_right d hd
        omega
      refine ih (strip n d 0).1 (d + 1) _ (by omega) hb.1 (by omega) ?_ ?_
      · unfold facNew; split <;> simp <;> omega
      · rw [Nat.pow_zero, Nat.mul_one] at hs
        unfold facNew
        split
        · rw [prodOf_append _ _ _ hl, Int.toNat_natCast, Int.toNat_natCast, Nat.mul_assoc, Nat.mul_comm (d ^ _), hs]; exact hN
        · rename_i he
          have h0 : (strip n d 0).2 = 0 := by omega
          rw [h0, Nat.pow_zero, Nat.mul_one] at hs
          rw [List.append_nil, hs]; exact hN
    · rw [fac_end hgo]
      exact hlast n acc hn hl hN

theorem factors_prod {n : Nat} (hn : 0 < n) : prodOf (factors n) = n :=
  fac_prod n n 2 [] (by omega) hn (Nat.le_refl _) rfl (by simp [prodOf])

theorem dvd_prodOf {q : Nat} (hq : Pr q) : ∀ l : List Int, (∀ f ∈ primesOf l, Pr f) → q ∣ prodOf l → q ∈ primesOf l
  | [], _, h => by have := hq.1; have := Nat.le_of_dvd (by simp [prodOf]) h; simp [prodOf] at this; omega
  | [_], _, h => by have := hq.1; have := Nat.le_of_dvd (by simp [prodOf]) h; simp [prodOf] at this; omega
  | f :: e :: rest, hp, h => by
    simp only [prodOf] at h
    simp only [primesOf, List.mem_cons] at hp ⊢
    rcases hq.dvd_mul h with h | h
    · have h1 := hq.dvd_pow h
      have h2 := hp f.toNat (.inl rfl)
      rcases h2.2 q h1 with h3 | h3
      · have := hq.1; omega
      · exact .inl h3
    · exact .inr (dvd_prodOf hq rest (fun x hx => hp x (.inr hx)) h)

theorem root_half {p g : Nat} (hp : Pr p) (h3 : 3 ≤ p) (hg0 : 0 < g) (hgp : g < p) (hf : fullB g p (factors (p - 1)) = true) : g ^ ((p - 1) / 2) % p = p - 1 := by
  have hfs := factors_sound (n := p - 1) (by omega)
  have hodd : 2 ∣ p - 1 := by
    rcases Nat.mod_two_eq_zero_or_one p with h | h
    · rcases hp.2 2 (Nat.dvd_of_mod_eq_zero h) with h | h <;> omega
    · omega
  have h2 : (2 : Nat) ∈ primesOf (factors (p - 1)) := dvd_prodOf (pr_small (.inl rfl)) _ (fun f hf => (hfs f hf).1) (by rw [factors_prod (by omega)]; exact hodd)
  have h1 := (fullB_iff (by omega) _ (fun f hf => (hfs f hf).1.1)).1 hf 2 h2
  rcases euler hp h3 hgp with h | h | h
  · have hd := hp.dvd_pow (Nat.dvd_of_mod_eq_zero h)
    have := Nat.le_of_dvd hg0 hd
    omega
  · exact absurd h h1
  · exact h
end Num

/-- What the law finds where a root was found. -/
theorem root_facts {p g : Nat} (hp : isPr (p : Int) = true) (h3 : 3 ≤ p) (hg0 : 0 < g) (hgp : g < p) (hf : Num.fullB g p (Num.factors (p - 1)) = true) :
    pwrB (g : Int) (((p : Int) - 1) / 2) p = true ∧ pwr (g : Int) (((p : Int) - 1) / 2) p = p - 1 ∧ legB (g : Int) p = true ∧ legV (g : Int) p = -1 := by
  obtain ⟨⟨h0, h1⟩, hb⟩ := isPr_true.1 hp
  obtain ⟨_, hP⟩ := Num.prB_pr hb
  rw [Int.toNat_natCast] at hP
  have hh := Num.root_half hP h3 hg0 hgp hf
  have e : ((p : Int) - 1) / 2 = (((p - 1) / 2 : Nat) : Int) := by omega
  have hx : Num.pow g (((p : Int) - 1) / 2) p = p - 1 := by rw [e, Num.pow_eq (by omega), hh]; omega
  have hb1 : pwrB (g : Int) (((p : Int) - 1) / 2) p = true := pwrB_true.2 (by omega)
  have hl : legB (g : Int) p = true := by
    have h2 : resB (g : Int) p = true := resB_true.2 (by omega)
    have h4 : ¬ ((p : Int) = 2) := by omega
    simp [legB, hp, h2, h4]
  refine ⟨hb1, by simp [pwr, hb1, hx], hl, ?_⟩
  simp [legV, hl, legX, hx]

/-- What the two find for p: the same, and it is a root where there is one. -/
theorem primRoot_both (p : Int) : ∃ (G : Int) (ok : Bool),
    (∀ w, Calls Try.prog 24 #[.int .i64 p] w fun e w' => e = .returned (.tuple #[.int .i64 G, .bool ok]) ∧ Below w.heap.size w w') ∧
    (∀ w, Calls Try.prog 25 #[.int .i64 p] w fun e w' => e = .returned (.tuple #[.int .i64 G, .bool ok]) ∧ Below w.heap.size w w') ∧
    (ok = true → 3 ≤ p → p ≤ 2000000000 ∧ pwrB G ((p - 1) / 2) p = true ∧ pwr G ((p - 1) / 2) p = p - 1 ∧ legB G p = true ∧ legV G p = -1) := by
  cases hp : isPr p
  · refine ⟨0, false, fun w => ?_, fun w => ?_, fun h => by cases h⟩
    · refine (primRoot_no p hp w).mono ?_
      rintro e w' ⟨rfl, rfl⟩; exact ⟨rfl, Below.refl _ _⟩
    · refine (sPrimRoot_no p hp w).mono ?_
      rintro e w' ⟨rfl, rfl⟩; exact ⟨rfl, Below.refl _ _⟩
  · obtain ⟨⟨h0, h1⟩, hb⟩ := isPr_true.1 hp
    obtain ⟨p, rfl⟩ := Int.eq_ofNat_of_zero_le h0
    obtain ⟨h2, hP⟩ := Num.prB_pr hb
    rw [Int.toNat_natCast] at hP
    obtain ⟨g0, k1, k2, k3, k4⟩ := Num.root_least hP
    exact ⟨g0, true, primRoot_yes p g0 hp (by omega) (by omega) k1 k2 k3 k4, sPrimRoot_yes p g0 hb (by omega) (by omega) k1 k2 k3 k4,
      fun _ h3 => ⟨h1, root_facts hp (by omega) k1 k2 k3⟩⟩

/-- What the law finds of each factor. -/
theorem factor_facts {n k : Nat} {f e : Int} {rest : List Int} (hn : 0 < n) (hle : n ≤ 2000000000) (h : (Num.factors n).drop (k * 2) = f :: e :: rest) : isPr f = true ∧ inB f 0 2000000000 = true ∧ 2 ≤ f ∧ f ≤ 2000000000 := by
  obtain ⟨hP, hd⟩ := Num.factors_sound hn _ (Num.primesOf_drop k _ f e rest h)
  have h2 := hP.1
  have h3 := Nat.le_of_dvd hn hd
  have hin : inB f 0 2000000000 = true := inB_true.2 (by omega)
  refine ⟨?_, hin, by omega, by omega⟩
  unfold isPr Num.prB
  rw [hin, (Num.tri_prime h2).2 hP]
  simp; omega

theorem prod_step {Q f d R N : Nat} (h : Q * f ^ (d + 1) * R = N) : Q * f * f ^ d * R = N := by
  rw [← h, Nat.pow_succ, Nat.mul_comm (f ^ d) f, Nat.mul_assoc Q f (f ^ d)]
theorem prod_le {Q X R N : Nat} (h : Q * X * R = N) (hN : 0 < N) : Q ≤ N := Nat.le_of_dvd hN ⟨X * R, by rw [← h, Nat.mul_assoc]⟩

theorem facRes_prod (n : Int) : 0 < Num.prodOf (facRes n) ∧ Num.prodOf (facRes n) ≤ 2000000000 ∧ (facB n = true → (Num.prodOf (facRes n) : Int) = n) := by
  unfold facRes
  cases hb : facB n
  · simp [Num.prodOf]
  · obtain ⟨h1, h2⟩ := facB_true.1 hb
    rw [if_pos rfl, Num.factors_prod (by omega)]
    omega

/-- One factor: it is a prime, and the product is taken apart. -/
theorem facRes_at {n : Int} {k P : Nat} {f e : Int} {rest : List Int} (h : (facRes n).drop (k * 2) = f :: e :: rest) (hP : P * Num.prodOf ((facRes n).drop (k * 2)) = Num.prodOf (facRes n)) :
    isPr f = true ∧ inB f 0 2000000000 = true ∧ 2 ≤ f ∧ f ≤ 2000000000 ∧ P * f.toNat ^ e.toNat * Num.prodOf rest = Num.prodOf (facRes n) := by
  rw [h, Num.prodOf, ← Nat.mul_assoc] at hP
  unfold facRes at h
  cases hb : facB n
  · rw [hb] at h; simp at h
  · obtain ⟨h1, h2⟩ := facB_true.1 hb
    rw [if_pos hb] at h
    obtain ⟨a, b, c, d⟩ := factor_facts (by omega) (by omega) h
    exact ⟨a, b, c, d, hP⟩
end Go.Proofs.Ytdeedblemcfllaa

