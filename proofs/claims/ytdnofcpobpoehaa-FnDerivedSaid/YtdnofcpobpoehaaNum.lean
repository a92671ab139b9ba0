/- Plain facts on numbers: the extended Euclidean algorithm, powers. No Go in sight. -/
namespace Go.Proofs.Ytdnofcpobpoehaa.Num

/-- The loop of the extended Euclidean algorithm. -/
def eg (r s : Nat) (x y : Int) : Nat × Int :=
  if h : s = 0 then (r, x) else
    have : r % s < s := Nat.mod_lt _ (Nat.pos_of_ne_zero h)
    eg s (r % s) y (x - ((r / s : Nat) : Int) * y)
termination_by s

theorem eg_zero (r : Nat) (x y : Int) : eg r 0 x y = (r, x) := by rw [eg]; simp
theorem eg_step (r s : Nat) (x y : Int) (h : s ≠ 0) : eg r s x y = eg s (r % s) y (x - ((r / s : Nat) : Int) * y) := by
  rw [eg]; simp [h]

/-- What holds at the loop's head. -/
def Bd (m r s : Nat) (x y : Int) : Prop :=
  s < r ∧ r ≤ m ∧ ∃ X Y : Nat, r * Y + s * X = m ∧ X < m ∧ ((x = X ∧ y = -Y) ∨ (x = -X ∧ y = Y))

theorem bd_start {m a : Nat} (h : a < m) : Bd m m a 0 1 :=
  ⟨h, Nat.le_refl _, 0, 1, by simp, by omega, .inr ⟨by simp, by simp⟩⟩

theorem bd_step {m r s : Nat} {x y : Int} (h : Bd m r s x y) (hs : s ≠ 0) : Bd m s (r % s) y (x - ((r / s : Nat) : Int) * y) := by
  obtain ⟨h1, h2, X, Y, e, hX, hsg⟩ := h
  have hs' : 0 < s := Nat.pos_of_ne_zero hs
  have hd : s * (r / s) + r % s = r := Nat.div_add_mod r s
  have h2Y : 2 * Y ≤ r * Y := Nat.mul_le_mul_right Y (by omega)
  refine ⟨Nat.mod_lt _ hs', by omega, Y, X + (r / s) * Y, ?_, ?_, ?_⟩
  · rw [← e]
    rw [Nat.mul_add, ← Nat.mul_assoc]
    conv => rhs; rw [← hd, Nat.add_mul]
    omega
  · by_cases hY : Y = 0
    · omega
    · omega
  · rcases hsg with ⟨rfl, rfl⟩ | ⟨rfl, rfl⟩
    · right
      refine ⟨rfl, ?_⟩
      rw [Int.mul_neg]; simp
    · left
      refine ⟨rfl, ?_⟩
      simp; omega

/-- The bounds that a round needs. -/
theorem bd_round {m r s : Nat} {x y : Int} (h : Bd m r s x y) (hs : s ≠ 0) :
    0 ≤ ((r / s : Nat) : Int) ∧ ((r / s : Nat) : Int) ≤ m ∧ 0 ≤ ((r / s : Nat) : Int) * s ∧ ((r / s : Nat) : Int) * s ≤ m ∧
    ((r % s : Nat) : Int) = r - ((r / s : Nat) : Int) * s ∧
    -m ≤ ((r / s : Nat) : Int) * y ∧ ((r / s : Nat) : Int) * y ≤ m ∧ -m ≤ x - ((r / s : Nat) : Int) * y ∧ x - ((r / s : Nat) : Int) * y ≤ m := by
  obtain ⟨h1, h2, X, Y, e, hX, hsg⟩ := h
  have hs' : 0 < s := Nat.pos_of_ne_zero hs
  have hd : s * (r / s) + r % s = r := Nat.div_add_mod r s
  have hle : r / s ≤ r := Nat.div_le_self _ _
  have hm : r % s < s := Nat.mod_lt _ hs'
  generalize r / s = q at *
  generalize r % s = r' at *
  have hc : (q : Int) * s = ((s * q : Nat) : Int) := by simp [Int.mul_comm]
  have hb : s * (X + q * Y) + r' * Y = m := by
    rw [← e, Nat.mul_add, ← Nat.mul_assoc, ← hd, Nat.add_mul]; omega
  have hYm : X + q * Y ≤ m := by
    have : 1 * (X + q * Y) ≤ s * (X + q * Y) := Nat.mul_le_mul_right _ hs'
    omega
  have hqY : ((q * Y : Nat) : Int) = (q : Int) * Y := by simp
  refine ⟨by omega, by omega, by rw [hc]; omega, by rw [hc]; omega, by rw [hc]; omega, ?_⟩
  rcases hsg with ⟨rfl, rfl⟩ | ⟨rfl, rfl⟩
  · rw [Int.mul_neg, ← hqY]; refine ⟨?_, ?_, ?_, ?_⟩ <;> omega
  · rw [← hqY]; refine ⟨?_, ?_, ?_, ?_⟩ <;> omega

theorem bd_xy {m r s : Nat} {x y : Int} (h : Bd m r s x y) : -m < x ∧ x < m ∧ -m ≤ y ∧ y ≤ m := by
  obtain ⟨h1, h2, X, Y, e, hX, hsg⟩ := h
  have : 1 * Y ≤ r * Y := Nat.mul_le_mul_right _ (by omega)
  omega

/-- The end of the loop. -/
theorem eg_bd (m r s : Nat) (x y : Int) (h : Bd m r s x y) : -m < (eg r s x y).2 ∧ (eg r s x y).2 < m := by
  by_cases hs : s = 0
  · subst hs; rw [eg_zero]; have := bd_xy h; omega
  · have : r % s < s := Nat.mod_lt _ (Nat.pos_of_ne_zero hs)
    rw [eg_step _ _ _ _ hs]; exact eg_bd m s (r % s) _ _ (bd_step h hs)
termination_by s

/-- The inverse of a modulo m, and whether there is one. -/
def invOk (a m : Int) : Bool := decide ((eg m.toNat a.toNat 0 1).1 = 1)
def invRaw (a m : Int) : Int := (eg m.toNat a.toNat 0 1).2
/-- The reference's first result, also where there is no inverse. -/
def ninv (a m : Int) : Int := if invRaw a m < 0 then invRaw a m + m else invRaw a m
def inv (a m : Int) : Int := if invOk a m then (if invRaw a m < 0 then invRaw a m + m else invRaw a m) else 0

theorem inv_ninv (a m : Int) : inv a m = if invOk a m then ninv a m else 0 := rfl

/-- The loop of the powers: squares are multiplied. -/
def pw (res sq e m : Nat) : Nat :=
  if h : e = 0 then res else
    have : e / 2 < e := Nat.div_lt_self (Nat.pos_of_ne_zero h) (by decide)
    pw (if e % 2 = 1 then res * sq % m else res) (sq * sq % m) (e / 2) m
termination_by e

theorem pw_zero (res sq m : Nat) : pw res sq 0 m = res := by rw [pw]; simp
theorem pw_odd {res sq e m : Nat} (h : e % 2 = 1) : pw res sq e m = pw (res * sq % m) (sq * sq % m) (e / 2) m := by
  rw [pw]; simp [h]; omega
theorem pw_even {res sq e m : Nat} (h : e % 2 = 0) (h0 : e ≠ 0) : pw res sq e m = pw res (sq * sq % m) (e / 2) m := by
  rw [pw]; simp [h, h0]

/-- The power of a with e modulo m, as the program reckons it. -/
def pow (a e m : Int) : Int := (pw 1 a.toNat e.toNat m.toNat : Nat)

theorem mul_bound {a b : Nat} (ha : a ≤ 2000000000) (hb : b ≤ 2000000000) : a * b ≤ 4000000000000000000 := by
  have h1 : a * b ≤ 2000000000 * b := Nat.mul_le_mul_right _ ha
  omega

/-! ### Factors -/
/-- d is divided out. -/
def strip (n d e : Nat) : Nat × Nat :=
  if h : 2 ≤ d ∧ 0 < n ∧ n % d = 0 then
    have : n / d < n := Nat.div_lt_self h.2.1 h.1
    strip (n / d) d (e + 1)
  else (n, e)
termination_by n

theorem strip_go {n d e : Nat} (h1 : 2 ≤ d) (h2 : 0 < n) (h3 : n % d = 0) : strip n d e = strip (n / d) d (e + 1) := by
  rw [strip]; simp [h1, h2, h3]
theorem strip_end {n d e : Nat} (h3 : n % d ≠ 0) : strip n d e = (n, e) := by
  rw [strip]; simp [h3]
theorem strip_bd (n d e : Nat) (h : 0 < n) : 0 < (strip n d e).1 ∧ (strip n d e).1 ≤ n ∧ (strip n d e).2 + (strip n d e).1 ≤ e + n := by
  by_cases hc : 2 ≤ d ∧ n % d = 0
  · have hlt : n / d < n := Nat.div_lt_self h hc.1
    have hd : d ≤ n := Nat.le_of_dvd h (Nat.dvd_of_mod_eq_zero hc.2)
    have hp : 0 < n / d := Nat.div_pos hd (by omega)
    rw [strip_go hc.1 h hc.2]
    have := strip_bd (n / d) d (e + 1) hp
    omega
  · rw [strip]; simp [show ¬ (2 ≤ d ∧ 0 < n ∧ n % d = 0) from fun k => hc ⟨k.1, k.2.2⟩]; exact h
termination_by n

def facNew (d e : Nat) : List Int := if 0 < e then [(d : Int), (e : Int)] else []
def facLast (n : Nat) : List Int := if 1 < n then [(n : Int), 1] else []

/-- The loop of the factorisation, over a flat list of primes and exponents. -/
def fac (n d : Nat) (acc : List Int) : List Int :=
  if h : 2 ≤ d ∧ 0 < n ∧ d * d ≤ n then
    have : (strip n d 0).1 - (d + 1) < n - d := by
      have := strip_bd n d 0 h.2.1
      have h2 : 2 * d ≤ d * d := Nat.mul_le_mul_right d h.1
      omega
    fac (strip n d 0).1 (d + 1) (acc ++ facNew d (strip n d 0).2)
  else acc ++ facLast n
termination_by n - d

theorem fac_go {n d : Nat} {acc : List Int} (h1 : 2 ≤ d) (h2 : 0 < n) (h3 : d * d ≤ n) : fac n d acc = fac (strip n d 0).1 (d + 1) (acc ++ facNew d (strip n d 0).2) := by
  rw [fac]; simp [h1, h2, h3]
theorem fac_end {n d : Nat} {acc : List Int} (h3 : ¬ d * d ≤ n) : fac n d acc = acc ++ facLast n := by
  rw [fac]; simp [h3]

/-- The factorisation of n. -/
def factors (n : Nat) : List Int := fac n 2 []

end Go.Proofs.Ytdnofcpobpoehaa.Num

