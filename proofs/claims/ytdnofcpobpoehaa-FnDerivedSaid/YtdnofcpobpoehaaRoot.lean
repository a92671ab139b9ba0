/- Primitive roots exist; what the factorisation lists are primes. No Go in sight. -/
import Derived.Test.YtdnofcpobpoehaaPsA
import Derived.Test.YtdnofcpobpoehaaNum
namespace Go.Proofs.Ytdnofcpobpoehaa.Num

/-! ### Polynomials, the constant coefficient first; their roots modulo a prime -/
def ev (x : Int) : List Int → Int
  | [] => 0
  | a :: l => a + x * ev x l
/-- The quotient by t - r. -/
def quot (r : Int) : List Int → List Int
  | [] => []
  | [_] => []
  | _ :: b :: l => ev r (b :: l) :: quot r (b :: l)

theorem ev_quot (x r : Int) : ∀ l : List Int, ev x l - ev r l = (x - r) * ev x (quot r l) := by
  intro l
  induction l with
  | nil => simp [ev, quot]
  | cons a l ih =>
    cases l with
    | nil => simp [ev, quot]
    | cons b l =>
      have e1 : ev x (a :: b :: l) - ev r (a :: b :: l) = x * (ev x (b :: l) - ev r (b :: l)) + (x - r) * ev r (b :: l) := by
        simp only [ev]; rw [Int.mul_sub, Int.sub_mul]; omega
      rw [e1, ih]
      show x * ((x - r) * ev x (quot r (b :: l))) + (x - r) * ev r (b :: l) = (x - r) * (ev r (b :: l) + x * ev x (quot r (b :: l)))
      rw [Int.mul_add, Int.mul_left_comm]; omega

theorem quot_length (r : Int) : ∀ l : List Int, (quot r l).length = l.length - 1 := by
  intro l
  induction l with
  | nil => rfl
  | cons a l ih =>
    cases l with
    | nil => rfl
    | cons b l =>
      show (quot r (b :: l)).length + 1 = _
      rw [ih]; simp

theorem quot_last (r : Int) : ∀ l : List Int, 2 ≤ l.length → (quot r l).getLast? = l.getLast? := by
  intro l
  induction l with
  | nil => intro h; simp at h
  | cons a l ih =>
    cases l with
    | nil => intro h; simp at h
    | cons b l =>
      intro _
      cases l with
      | nil => simp [quot, ev]
      | cons c l =>
        have := ih (by simp)
        simp only [quot] at *
        rw [List.getLast?_cons_cons, List.getLast?_cons_cons]
        exact this

theorem Pr.int_dvd_mul {p : Nat} (h : Pr p) {a b : Int} (hd : (p : Int) ∣ a * b) : (p : Int) ∣ a ∨ (p : Int) ∣ b := by
  rw [← Int.natAbs_dvd_natAbs, Int.natAbs_mul, Int.natAbs_natCast] at hd
  rcases h.dvd_mul hd with h' | h'
  · exact .inl (by rw [← Int.natAbs_dvd_natAbs, Int.natAbs_natCast]; exact h')
  · exact .inr (by rw [← Int.natAbs_dvd_natAbs, Int.natAbs_natCast]; exact h')

/-- A polynomial whose last coefficient is not divisible has no more roots than its degree. -/
theorem roots_le {p : Nat} (hp : Pr p) : ∀ (n : Nat) (l : List Int), l.length = n + 1 → (∀ c, l.getLast? = some c → ¬ (p : Int) ∣ c) → ∀ rs : List Nat, rs.Nodup → (∀ r ∈ rs, r < p ∧ (p : Int) ∣ ev (r : Int) l) → rs.length ≤ n := by
  intro n
  induction n with
  | zero =>
    intro l hl hc rs _ hr
    match l, hl with
    | [a], _ =>
      cases rs with
      | nil => simp
      | cons r rs =>
        have := (hr r (by simp)).2
        simp [ev] at this
        exact absurd this (hc a rfl)
  | succ n ih =>
    intro l hl hc rs hn hr
    cases rs with
    | nil => simp
    | cons r rs =>
      have h1 := ih (quot r l) (by rw [quot_length]; omega) (by rw [quot_last r l (by omega)]; exact hc) rs (List.nodup_cons.1 hn).2 (fun s hs => by
        obtain ⟨hsp, hsd⟩ := hr s (by simp [hs])
        obtain ⟨hrp, hrd⟩ := hr r (by simp)
        refine ⟨hsp, ?_⟩
        have hd : (p : Int) ∣ ((s : Int) - r) * ev s (quot r l) := by rw [← ev_quot]; exact Int.dvd_sub hsd hrd
        rcases hp.int_dvd_mul hd with h' | h'
        · exfalso
          have hne : s ≠ r := by rintro rfl; exact (List.nodup_cons.1 hn).1 hs
          rw [← Int.natAbs_dvd_natAbs, Int.natAbs_natCast] at h'
          have := Nat.le_of_dvd (by omega) h'
          omega
        · exact h')
      simp only [List.length_cons]; omega

/-- t^d - 1 -/
def xd (d : Nat) : List Int := -1 :: (List.replicate (d - 1) 0 ++ [1])
theorem ev_zeros (x : Int) (k : Nat) : ev x (List.replicate k 0 ++ [1]) = x ^ k := by
  induction k with
  | zero => simp [ev]
  | succ k ih => rw [List.replicate_succ, List.cons_append, ev, ih, Int.pow_succ, Int.mul_comm]; omega
theorem ev_xd (x : Int) (d : Nat) (hd : 0 < d) : ev x (xd d) = x ^ d - 1 := by
  obtain ⟨k, rfl⟩ : ∃ k, d = k + 1 := ⟨d - 1, by omega⟩
  unfold xd
  rw [ev, Nat.add_sub_cancel, ev_zeros, Int.pow_succ, Int.mul_comm]; omega

/-- Where d is less than p - 1 some power with d is not 1. -/
theorem exists_non_root {p d : Nat} (hp : Pr p) (hd0 : 0 < d) (hd : d < p - 1) : ∃ x, 0 < x ∧ x < p ∧ x ^ d % p ≠ 1 := by
  have hp2 := hp.1
  by_cases h : ∃ x, 0 < x ∧ x < p ∧ x ^ d % p ≠ 1
  · exact h
  · exfalso
    have hall : ∀ x, 0 < x → x < p → x ^ d % p = 1 := fun x h1 h2 => by
      rcases Nat.decEq (x ^ d % p) 1 with h' | h'
      · exact absurd ⟨x, h1, h2, h'⟩ h
      · exact h'
    have hr := roots_le hp d (xd d) (by simp [xd]; omega) (fun c hc => by
      unfold xd at hc
      rw [List.getLast?_cons] at hc
      simp at hc
      subst hc
      intro h1
      have := Int.le_of_dvd (by decide) h1
      omega) (List.range' 1 (p - 1)) ((List.pairwise_lt_range' (s := 1) (n := p - 1)).imp (fun h => Nat.ne_of_lt h)) (fun r hr => by
        have hr' := List.mem_range'_1.1 hr
        refine ⟨by omega, ?_⟩
        rw [ev_xd _ _ hd0]
        have h1 := hall r (by omega) (by omega)
        have hpos : 1 ≤ r ^ d := Nat.pow_pos (by omega)
        have h2 : p ∣ r ^ d - 1 := dvd_sub_of_mod_eq hpos (by rw [h1, Nat.mod_eq_of_lt (by omega)])
        have e : ((r : Int) ^ d - 1) = ((r ^ d - 1 : Nat) : Int) := by rw [Int.natCast_sub hpos]; simp
        rw [e]
        exact Int.natCast_dvd_natCast.2 h2)
    rw [List.length_range'] at hr
    omega

/-- n is a power of a prime times what the prime does not divide. -/
theorem split_off {h : Nat} (hp : Pr h) : ∀ n, 0 < n → ∃ k u, n = h ^ k * u ∧ ¬ h ∣ u := by
  intro n
  induction n using Nat.strongRecOn with
  | _ n ih =>
    intro hn
    by_cases hd : h ∣ n
    · obtain ⟨m, hm⟩ := hd
      have hm0 : 0 < m := by rcases Nat.eq_zero_or_pos m with rfl | h'; rw [Nat.mul_zero] at hm; omega; exact h'
      have hlt : m < n := by
        have h2 := hp.1
        have : 2 * m ≤ h * m := Nat.mul_le_mul_right m h2
        omega
      obtain ⟨k, u, hk, hu⟩ := ih m hlt hm0
      exact ⟨k + 1, u, by rw [hm, hk, Nat.pow_succ, ← Nat.mul_assoc, Nat.mul_comm h], hu⟩
    · exact ⟨0, n, by simp, hd⟩

theorem Pr.coprime {h u : Nat} (hp : Pr h) (hd : ¬ h ∣ u) : Nat.gcd h u = 1 := by
  rcases hp.2 _ (Nat.gcd_dvd_left h u) with h' | h'
  · exact h'
  · exact absurd (by have := Nat.gcd_dvd_right h u; rwa [h'] at this) hd

/-- An element whose power with m / h is not 1, and whose powers with the other m / f are. -/
theorem one_prime {p h : Nat} (hp : Pr p) (hh : Pr h) (hd : h ∣ p - 1) : ∃ y, ¬ p ∣ y ∧ y ^ ((p - 1) / h) % p ≠ 1 ∧ ∀ f, Pr f → f ∣ p - 1 → f ≠ h → y ^ ((p - 1) / f) % p = 1 := by
  have hp2 := hp.1
  have hh2 := hh.1
  have hm0 : 0 < p - 1 := by omega
  have hmh : 0 < (p - 1) / h := Nat.div_pos (Nat.le_of_dvd hm0 hd) (by omega)
  obtain ⟨x, hx0, hxp, hx⟩ := exists_non_root hp hmh (Nat.div_lt_self hm0 hh2)
  have hnx : ¬ p ∣ x := fun hdx => by have := Nat.le_of_dvd hx0 hdx; omega
  have hf := fermat hp hnx
  obtain ⟨k, u, hk, hu⟩ := split_off hh (p - 1) hm0
  have hk0 : k ≠ 0 := by
    rintro rfl
    rw [Nat.pow_zero, Nat.one_mul] at hk
    exact hu (by rw [← hk]; exact hd)
  obtain ⟨j, rfl⟩ : ∃ j, k = j + 1 := ⟨k - 1, by omega⟩
  have hdiv : (p - 1) / h = h ^ j * u := by
    rw [hk, Nat.pow_succ, Nat.mul_comm (h ^ j), Nat.mul_assoc]
    exact Nat.mul_div_cancel_left _ hh.pos
  refine ⟨x ^ u, fun hd' => hnx (hp.dvd_pow hd'), ?_, ?_⟩
  · intro h1
    apply hx
    have hzu : x ^ ((p - 1) / h * u) % p = 1 := by
      rw [Nat.mul_comm, Nat.pow_mul]; exact h1
    have hzh : x ^ ((p - 1) / h * h) % p = 1 := by rw [Nat.div_mul_cancel hd]; exact hf
    rw [Nat.pow_mul] at hzu hzh
    have := gcd_pow (by omega) h u hzh hzu
    rw [hh.coprime hu, Nat.pow_one] at this
    exact this
  · intro f hfp hfd hne
    have hfu : f ∣ u := by
      rw [hk] at hfd
      rcases hfp.dvd_mul hfd with h' | h'
      · have h2 := hfp.dvd_pow h'
        rcases hh.2 f h2 with h3 | h3
        · have := hfp.1; omega
        · exact absurd h3 hne
      · exact h'
    obtain ⟨v, hv⟩ := hfu
    have e : (p - 1) / f = h ^ (j + 1) * v := by
      rw [hk, hv, Nat.mul_left_comm]
      exact Nat.mul_div_cancel_left _ hfp.pos
    rw [e, ← Nat.pow_mul]
    have e2 : u * (h ^ (j + 1) * v) = (p - 1) * v := by rw [← Nat.mul_assoc, Nat.mul_comm u, ← hk]
    rw [e2]
    exact pow_one_of (by omega) hf

/-- A root for a list of primes. -/
theorem root_list {p : Nat} (hp : Pr p) : ∀ fs : List Nat, (∀ f ∈ fs, Pr f ∧ f ∣ p - 1) → ∃ g, ¬ p ∣ g ∧ (∀ f ∈ fs, g ^ ((p - 1) / f) % p ≠ 1) ∧ (∀ f, Pr f → f ∣ p - 1 → f ∉ fs → g ^ ((p - 1) / f) % p = 1) := by
  have hp2 := hp.1
  intro fs
  induction fs with
  | nil =>
    intro _
    exact ⟨1, fun h => by have := Nat.le_of_dvd (by decide) h; omega, fun f hf => (by cases hf), fun f _ _ _ => by rw [Nat.one_pow]; exact Nat.mod_eq_of_lt (by omega)⟩
  | cons h fs ih =>
    intro hall
    obtain ⟨g, hg0, hg1, hg2⟩ := ih (fun f hf => hall f (by simp [hf]))
    by_cases hm : h ∈ fs
    · refine ⟨g, hg0, fun f hf => ?_, fun f h1 h2 h3 => hg2 f h1 h2 (fun h4 => h3 (by simp [h4]))⟩
      cases hf with
      | head => exact hg1 h hm
      | tail _ hf => exact hg1 f hf
    · obtain ⟨hhp, hhd⟩ := hall h (by simp)
      obtain ⟨y, hy0, hy1, hy2⟩ := one_prime hp hhp hhd
      have hmul : ∀ e, (g * y) ^ e % p = (g ^ e % p) * (y ^ e % p) % p := fun e => by rw [Nat.mul_pow, Nat.mul_mod]
      refine ⟨g * y, fun hd => (hp.dvd_mul hd).elim hg0 hy0, fun f hf => ?_, fun f h1 h2 h3 => ?_⟩
      · rw [hmul]
        by_cases hfh : f = h
        · subst hfh
          rw [hg2 f hhp hhd hm, Nat.one_mul, Nat.mod_mod]; exact hy1
        · have hff : f ∈ fs := by cases hf with
            | head => exact absurd rfl hfh
            | tail _ hf => exact hf
          obtain ⟨hfp, hfd⟩ := hall f hf
          rw [hy2 f hfp hfd hfh, Nat.mul_one, Nat.mod_mod]; exact hg1 f hff
      · rw [hmul, hg2 f h1 h2 (fun h4 => h3 (by simp [h4])), hy2 f h1 h2 (fun h4 => h3 (by simp [h4]))]
        rw [Nat.one_mul]; exact Nat.mod_eq_of_lt (by omega)

theorem root_exists {p : Nat} (hp : Pr p) (fs : List Nat) (hall : ∀ f ∈ fs, Pr f ∧ f ∣ p - 1) : ∃ g, 0 < g ∧ g < p ∧ ∀ f ∈ fs, g ^ ((p - 1) / f) % p ≠ 1 := by
  obtain ⟨g, hg0, hg1, _⟩ := root_list hp fs hall
  refine ⟨g % p, ?_, Nat.mod_lt _ hp.pos, fun f hf => by rw [← Nat.pow_mod]; exact hg1 f hf⟩
  rcases Nat.eq_zero_or_pos (g % p) with h | h
  · exact absurd (Nat.dvd_of_mod_eq_zero h) hg0
  · exact h
/-! ### What the factorisation lists -/
def primesOf : List Int → List Nat
  | f :: _ :: rest => f.toNat :: primesOf rest
  | _ => []

theorem primesOf_append : ∀ (l : List Int) (a b : Int), l.length % 2 = 0 → primesOf (l ++ [a, b]) = primesOf l ++ [a.toNat]
  | [], a, b, _ => by simp [primesOf]
  | [_], _, _, h => by simp at h
  | x :: y :: l, a, b, h => by
    have := primesOf_append l a b (by simp at h; omega)
    simp [primesOf, this]

theorem strip_dvd {d : Nat} (hd : 2 ≤ d) : ∀ n e, 0 < n → (strip n d e).1 ∣ n ∧ (strip n d e).1 % d ≠ 0 ∧ ((strip n d e).2 = e ∨ n % d = 0) := by
  intro n
  induction n using Nat.strongRecOn with
  | _ n ih =>
    intro e hn
    by_cases h : n % d = 0
    · have hlt : n / d < n := Nat.div_lt_self hn hd
      have hle : d ≤ n := Nat.le_of_dvd hn (Nat.dvd_of_mod_eq_zero h)
      rw [strip_go hd hn h]
      obtain ⟨h1, h2, _⟩ := ih (n / d) hlt (e + 1) (Nat.div_pos hle (by omega))
      exact ⟨Nat.dvd_trans h1 (Nat.div_dvd_of_dvd (Nat.dvd_of_mod_eq_zero h)), h2, .inr h⟩
    · rw [strip_end h]
      exact ⟨Nat.dvd_refl _, h, .inl rfl⟩

theorem fac_sound {N : Nat} : ∀ (k n d : Nat) (acc : List Int), n - d ≤ k → 0 < n → 2 ≤ d → n ∣ N → (∀ q, 2 ≤ q → q ∣ n → d ≤ q) → acc.length % 2 = 0 → (∀ f ∈ primesOf acc, Pr f ∧ f ∣ N) → ∀ f ∈ primesOf (fac n d acc), Pr f ∧ f ∣ N := by
  intro k
  induction k with
  | zero =>
    intro n d acc hk hn hd hN hq hl ha
    have hend : ¬ d * d ≤ n := by
      have : 2 * d ≤ d * d := Nat.mul_le_mul_right d hd
      omega
    rw [fac_end hend]
    unfold facLast
    by_cases h1 : 1 < n
    · have := hq n (by omega) (Nat.dvd_refl n)
      have : n = d := by omega
      rw [if_pos h1, primesOf_append _ _ _ hl]
      intro f hf
      rcases List.mem_append.1 hf with hf | hf
      · exact ha f hf
      · have hfe : f = n := by simpa using hf
        subst hfe
        refine ⟨?_, hN⟩
        obtain ⟨q, hqp, hqn, _⟩ := least_factor f (by omega)
        have h3 := hq q hqp.1 hqn
        have h4 := Nat.le_of_dvd hn hqn
        have : q = f := by omega
        rwa [this] at hqp
    · rw [if_neg h1, List.append_nil]; exact ha
  | succ k ih =>
    intro n d acc hk hn hd hN hq hl ha
    by_cases hgo : d * d ≤ n
    · rw [fac_go hd hn hgo]
      obtain ⟨h1, h2, h3⟩ := strip_dvd hd n 0 hn
      have hb := strip_bd n d 0 hn
      have hdn : d < n := by
        have : 2 * d ≤ d * d := Nat.mul_le_mul_right d hd
        omega
      refine ih (strip n d 0).1 (d + 1) _ (by omega) hb.1 (by omega) (Nat.dvd_trans h1 hN) (fun q hq2 hqd => ?_) ?_ ?_
      · have h4 := hq q hq2 (Nat.dvd_trans hqd h1)
        rcases Nat.lt_or_ge d q with h' | h'
        · exact h'
        · have : q = d := by omega
          subst this
          exact absurd (Nat.mod_eq_zero_of_dvd hqd) h2
      · unfold facNew; split <;> simp <;> omega
      · unfold facNew
        split
        · rename_i he
          have hm : n % d = 0 := by rcases h3 with h3 | h3 <;> omega
          rw [primesOf_append _ _ _ hl]
          intro f hf
          rcases List.mem_append.1 hf with hf | hf
          · exact ha f hf
          · have hfe : f = d := by simpa using hf
            subst hfe
            have hfn := Nat.dvd_of_mod_eq_zero hm
            refine ⟨?_, Nat.dvd_trans hfn hN⟩
            obtain ⟨q, hqp, hqn, _⟩ := least_factor f hd
            have h5 := hq q hqp.1 (Nat.dvd_trans hqn hfn)
            have h6 := Nat.le_of_dvd (by omega) hqn
            have : q = f := by omega
            rwa [this] at hqp
        · rw [List.append_nil]; exact ha
    · rw [fac_end hgo]
      unfold facLast
      by_cases h1 : 1 < n
      · rw [if_pos h1, primesOf_append _ _ _ hl]
        intro f hf
        rcases List.mem_append.1 hf with hf | hf
        · exact ha f hf
        · have hfe : f = n := by simpa using hf
          subst hfe
          refine ⟨?_, hN⟩
          obtain ⟨q, hqp, hqn, hql⟩ := least_factor f (by omega)
          have h3 := hq q hqp.1 hqn
          obtain ⟨c, hc⟩ := hqn
          have hc1 : c = 1 := by
            rcases Nat.lt_or_ge c 2 with hc2 | hc2
            · rcases Nat.eq_zero_or_pos c with rfl | hc0
              · rw [Nat.mul_zero] at hc; omega
              · omega
            · have h4 := hq c hc2 ⟨q, by rw [hc, Nat.mul_comm]⟩
              have h5 : d * d ≤ q * c := Nat.mul_le_mul h3 h4
              omega
          rw [hc1, Nat.mul_one] at hc
          rw [hc]; exact hqp
      · rw [if_neg h1, List.append_nil]; exact ha

theorem factors_sound {n : Nat} (hn : 0 < n) : ∀ f ∈ primesOf (factors n), Pr f ∧ f ∣ n :=
  fac_sound n n 2 [] (by omega) hn (Nat.le_refl _) (Nat.dvd_refl _) (fun _ h _ => h) rfl (fun f hf => (by cases hf))

theorem pw_eq' (m : Nat) : ∀ e res q, res < m → pw res q e m = res * q ^ e % m := by
  intro e
  induction e using Nat.strongRecOn with
  | _ e ih =>
    intro res q hres
    rcases Nat.eq_zero_or_pos e with rfl | hpos
    · rw [pw_zero]; simp [Nat.mod_eq_of_lt hres]
    · have hlt : e / 2 < e := Nat.div_lt_self hpos (by decide)
      rcases (show e % 2 = 0 ∨ e % 2 = 1 by omega) with h | h
      · rw [pw_even h (by omega), ih _ hlt _ _ hres]
        rw [Nat.mul_mod, ← Nat.pow_mod, ← Nat.mul_mod, ← Nat.pow_two, ← Nat.pow_mul, show 2 * (e / 2) = e by omega]
      · rw [pw_odd h, ih _ hlt _ _ (Nat.mod_lt _ (by omega))]
        rw [Nat.mul_mod, Nat.mod_mod, ← Nat.pow_mod, ← Nat.mul_mod, ← Nat.pow_two, ← Nat.pow_mul, Nat.mul_assoc, Nat.mul_comm q, ← Nat.pow_succ, show (2 * (e / 2)).succ = e by omega]

theorem powmod_eq {a e m : Nat} (hm : 1 < m) : pow a e m = ((a ^ e % m : Nat) : Int) := by
  unfold pow
  rw [Int.toNat_natCast, Int.toNat_natCast, Int.toNat_natCast, pw_eq' m e 1 a hm, Nat.one_mul]

/-- g's powers with (p - 1) / f are not 1, for the primes of a flat list. -/
def fullB (g p : Int) : List Int → Bool
  | f :: _ :: rest => !decide (pow g ((p - 1) / f) p = 1) && fullB g p rest
  | _ => true

theorem fullB_iff {g p : Nat} (hp : 1 < p) : ∀ l : List Int, (∀ f ∈ primesOf l, 2 ≤ f) → (fullB g p l = true ↔ ∀ f ∈ primesOf l, g ^ ((p - 1) / f) % p ≠ 1)
  | [], _ => by simp [fullB, primesOf]
  | [_], _ => by simp [fullB, primesOf]
  | f :: e :: rest, h => by
    have ih := fullB_iff (g := g) hp rest (fun x hx => h x (by simp [primesOf, hx]))
    have h2 : 2 ≤ f.toNat := h f.toNat (by simp [primesOf])
    have hf : f = ((f.toNat : Nat) : Int) := by omega
    have hd : ((p : Int) - 1) / f = (((p - 1) / f.toNat : Nat) : Int) := by
      rw [hf, Int.toNat_natCast, show (p : Int) - 1 = ((p - 1 : Nat) : Int) by omega]; simp
    have hpw : (pow (g : Int) (((p : Int) - 1) / f) (p : Int) = 1) ↔ g ^ ((p - 1) / f.toNat) % p = 1 := by
      rw [hd, powmod_eq hp]; omega
    simp only [fullB, primesOf, List.mem_cons, forall_eq_or_imp, Bool.and_eq_true, ih]
    simp [hpw]

theorem root_least {p : Nat} (hp : Pr p) : ∃ g : Nat, 0 < g ∧ g < p ∧ fullB g p (factors (p - 1)) = true ∧ ∀ g' : Nat, 0 < g' → g' < g → fullB g' p (factors (p - 1)) = false := by
  have hp2 := hp.1
  have hfs := factors_sound (n := p - 1) (by omega)
  obtain ⟨g, hg0, hgp, hg⟩ := root_exists hp _ hfs
  have hbi : ∀ g : Nat, fullB g p (factors (p - 1)) = true ↔ ∀ f ∈ primesOf (factors (p - 1)), g ^ ((p - 1) / f) % p ≠ 1 := fun g => fullB_iff (by omega) _ (fun f hf => (hfs f hf).1.1)
  have key : ∀ k : Nat, (∃ g : Nat, 0 < g ∧ g < p ∧ g ≤ k ∧ fullB g p (factors (p - 1)) = true) → ∃ g : Nat, 0 < g ∧ g < p ∧ fullB g p (factors (p - 1)) = true ∧ ∀ g' : Nat, 0 < g' → g' < g → fullB g' p (factors (p - 1)) = false := by
    intro k
    induction k with
    | zero => rintro ⟨g, h1, _, h3, _⟩; omega
    | succ k ih =>
      rintro ⟨g, h1, h2, h3, h4⟩
      by_cases hk : ∃ g : Nat, 0 < g ∧ g < p ∧ g ≤ k ∧ fullB g p (factors (p - 1)) = true
      · exact ih hk
      · refine ⟨g, h1, h2, h4, fun g' h5 h6 => ?_⟩
        cases hb : fullB g' p (factors (p - 1))
        · rfl
        · exact absurd ⟨g', h5, by omega, by omega, hb⟩ hk
  exact key g ⟨g, hg0, hgp, Nat.le_refl _, (hbi g).2 hg⟩

theorem primesOf_drop : ∀ (k : Nat) (zs : List Int) (f e : Int) (rest : List Int), zs.drop (k * 2) = f :: e :: rest → f.toNat ∈ primesOf zs
  | 0, zs, f, e, rest, h => by simp at h; subst h; simp [primesOf]
  | k + 1, [], f, e, rest, h => by simp at h
  | k + 1, [x], f, e, rest, h => by rw [show (k + 1) * 2 = k * 2 + 1 + 1 by omega] at h; simp at h
  | k + 1, x :: y :: zs, f, e, rest, h => by
    rw [show (k + 1) * 2 = k * 2 + 1 + 1 by omega] at h
    have := primesOf_drop k zs f e rest (by simpa using h)
    simp [primesOf, this]

/-- What a round of the search needs of the factor that it meets. -/
theorem factor_bd {p k : Nat} {f e : Int} {rest : List Int} (hp : 2 ≤ p) (h : (factors (p - 1)).drop (k * 2) = f :: e :: rest) : 2 ≤ f ∧ f ≤ (p : Int) - 1 := by
  have hm := primesOf_drop k _ _ _ _ h
  obtain ⟨h1, h2⟩ := factors_sound (n := p - 1) (by omega) _ hm
  have := Nat.le_of_dvd (by omega) h2
  have := h1.1
  omega
end Go.Proofs.Ytdnofcpobpoehaa.Num

