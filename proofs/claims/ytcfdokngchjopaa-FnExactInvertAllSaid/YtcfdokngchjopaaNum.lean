/- Plain facts on numbers: the extended Euclidean algorithm, powers. No Go in sight. -/
namespace Go.Proofs.Ytcfdokngchjopaa.Num

/-- The loop of the extended Euclidean algorithm. -/
def eg (r s : Nat) (x y : Int) : Nat × Int :=
  if h : s = 0 then (r, x) else
    have : r % s < s := Nat.mod_lt _ (Nat.pos_of_ne_zero h)
    eg s (r % s) y (x - ((r / s : Nat) : Int) * y)
termination_by s

theorem eg_zero (r : Nat) (x y : Int) : eg r 0 x y = (r, x) := by rw [eg]; simp
theorem eg_step (r s : Nat) (x y : Int) (h : s ≠ 0) : eg r s x y = eg s (r % s) y (x - ((r / s : Nat) : Int) * y) := by
  rw [eg]; simp [h]

/-- What holds at the loop's head. -/
def Bd (m r s : Nat) (x y : Int) : Prop :=
  s < r ∧ r ≤ m ∧ ∃ X Y : Nat, r * Y + s * X = m ∧ X < m ∧ ((x = X ∧ y = -Y) ∨ (x = -X ∧ y = Y))

theorem bd_start {m a : Nat} (h : a < m) : Bd m m a 0 1 :=
  ⟨h, Nat.le_refl _, 0, 1, by simp, by omega, .inr ⟨by simp, by simp⟩⟩

theorem bd_step {m r s : Nat} {x y : Int} (h : Bd m r s x y) (hs : s ≠ 0) : Bd m s (r % s) y (x - ((r / s : Nat) : Int) * y) := by
  obtain ⟨h1, h2, X, Y, e, hX, hsg⟩ := h
  have hs' : 0 < s := Nat.pos_of_ne_zero hs
  have hd : s * (r / s) + r % s = r := Nat.div_add_mod r s
  have h2Y : 2 * Y ≤ r * Y := Nat.mul_le_mul_right Y (by omega)
  refine ⟨Nat.mod_lt _ hs', by omega, Y, X + (r / s) * Y, ?_, ?_, ?_⟩
  · rw [← e]
    rw [Nat.mul_add, ← Nat.mul_assoc]
    conv => rhs; rw [← hd, Nat.add_mul]
    omega
  · by_cases hY : Y = 0
    · omega
    · omega
  · rcases hsg with ⟨rfl, rfl⟩ | ⟨rfl, rfl⟩
    · right
      refine ⟨rfl, ?_⟩
      rw [Int.mul_neg]; simp
    · left
      refine ⟨rfl, ?_⟩
      simp; omega

/-- The bounds that a round needs. -/
theorem bd_round {m r s : Nat} {x y : Int} (h : Bd m r s x y) (hs : s ≠ 0) :
    0 ≤ ((r / s : Nat) : Int) ∧ ((r / s : Nat) : Int) ≤ m ∧ 0 ≤ ((r / s : Nat) : Int) * s ∧ ((r / s : Nat) : Int) * s ≤ m ∧
    ((r % s : Nat) : Int) = r - ((r / s : Nat) : Int) * s ∧
    -m ≤ ((r / s : Nat) : Int) * y ∧ ((r / s : Nat) : Int) * y ≤ m ∧ -m ≤ x - ((r / s : Nat) : Int) * y ∧ x - ((r / s : Nat) : Int) * y ≤ m := by
  obtain ⟨h1, h2, X, Y, e, hX, hsg⟩ := h
  have hs' : 0 < s := Nat.pos_of_ne_zero hs
  have hd : s * (r / s) + r % s = r := Nat.div_add_mod r s
  have hle : r / s ≤ r := Nat.div_le_self _ _
  have hm : r % s < s := Nat.mod_lt _ hs'
  generalize r / s = q at *
  generalize r % s = r' at *
  have hc : (q : Int) * s = ((s * q : Nat) : Int) := by simp [Int.mul_comm]
  have hb : s * (X + q * Y) + r' * Y = m := by
    rw [← e, Nat.mul_add, ← Nat.mul_assoc, ← hd, Nat.add_mul]; omega
  have hYm : X + q * Y ≤ m := by
    have : 1 * (X + q * Y) ≤ s * (X + q * Y) := Nat.mul_le_mul_right _ hs'
    omega
  have hqY : ((q * Y : Nat) : Int) = (q : Int) * Y := by simp
  refine ⟨by omega, by omega, by rw [hc]; omega, by rw [hc]; omega, by rw [hc]; omega, ?_⟩
  rcases hsg with ⟨rfl, rfl⟩ | ⟨rfl, rfl⟩
  · rw [Int.mul_neg, ← hqY]; refine ⟨?_, ?_, ?_, ?_⟩ <;> omega
  · rw [← hqY]; refine ⟨?_, ?_, ?_, ?_⟩ <;> omega

theorem bd_xy {m r s : Nat} {x y : Int} (h : Bd m r s x y) : -m < x ∧ x < m ∧ -m ≤ y ∧ y ≤ m := by
  obtain ⟨h1, h2, X, Y, e, hX, hsg⟩ := h
  have : 1 * Y ≤ r * Y := Nat.mul_le_mul_right _ (by omega)
  omega

/-- The end of the loop. -/
theorem eg_bd (m r s : Nat) (x y : Int) (h : Bd m r s x y) : -m < (eg r s x y).2 ∧ (eg r s x y).2 < m := by
  by_cases hs : s = 0
  · subst hs; rw [eg_zero]; have := bd_xy h; omega
  · have : r % s < s := Nat.mod_lt _ (Nat.pos_of_ne_zero hs)
    rw [eg_step _ _ _ _ hs]; exact eg_bd m s (r % s) _ _ (bd_step h hs)
termination_by s

/-- The inverse of a modulo m, and whether there is one. -/
def invOk (a m : Int) : Bool := decide ((eg m.toNat a.toNat 0 1).1 = 1)
def invRaw (a m : Int) : Int := (eg m.toNat a.toNat 0 1).2
/-- The reference's first result, also where there is no inverse. -/
def ninv (a m : Int) : Int := if invRaw a m < 0 then invRaw a m + m else invRaw a m
def inv (a m : Int) : Int := if invOk a m then (if invRaw a m < 0 then invRaw a m + m else invRaw a m) else 0

theorem inv_ninv (a m : Int) : inv a m = if invOk a m then ninv a m else 0 := rfl

/-- The loop of the powers: squares are multiplied. -/
def pw (res sq e m : Nat) : Nat :=
  if h : e = 0 then res else
    have : e / 2 < e := Nat.div_lt_self (Nat.pos_of_ne_zero h) (by decide)
    pw (if e % 2 = 1 then res * sq % m else res) (sq * sq % m) (e / 2) m
termination_by e

theorem pw_zero (res sq m : Nat) : pw res sq 0 m = res := by rw [pw]; simp
theorem pw_odd {res sq e m : Nat} (h : e % 2 = 1) : pw res sq e m = pw (res * sq % m) (sq * sq % m) (e / 2) m := by
  rw [pw]; simp [h]; omega
theorem pw_even {res sq e m : Nat} (h : e % 2 = 0) (h0 : e ≠ 0) : pw res sq e m = pw res (sq * sq % m) (e / 2) m := by
  rw [pw]; simp [h, h0]

/-- The power of a with e modulo m, as the program reckons it. -/
def pow (a e m : Int) : Int := (pw 1 a.toNat e.toNat m.toNat : Nat)

theorem mul_bound {a b : Nat} (ha : a ≤ 2000000000) (hb : b ≤ 2000000000) : a * b ≤ 4000000000000000000 := by
  have h1 : a * b ≤ 2000000000 * b := Nat.mul_le_mul_right _ ha
  omega

end Go.Proofs.Ytcfdokngchjopaa.Num
