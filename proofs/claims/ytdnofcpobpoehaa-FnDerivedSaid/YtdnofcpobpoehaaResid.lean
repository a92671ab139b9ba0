/- FnResidues: what is drawn, and why the law holds of it. -/
import Derived.Test.YtdnofcpobpoehaaDraw
import Derived.Test.YtdnofcpobpoehaaDot
import Derived.Test.YtdnofcpobpoehaaRoot
import Derived.OpenShut
namespace Go.Proofs.Ytdnofcpobpoehaa
open Go.RowKit
namespace Num
/-- The remainder is a times the coefficient, modulo m. -/
def Dv (m a r s : Nat) (x y : Int) : Prop := (m : Int) ∣ r - a * x ∧ (m : Int) ∣ s - a * y
theorem eg_dv (m a : Nat) : ∀ (s r : Nat) (x y : Int), Dv m a r s x y → (m : Int) ∣ ((eg r s x y).1 : Int) - a * (eg r s x y).2 := by
  intro s
  induction s using Nat.strongRecOn with
  | _ s ih =>
    intro r x y h
    by_cases hs : s = 0
    · subst hs; rw [eg_zero]; exact h.1
    · rw [eg_step _ _ _ _ hs]
      refine ih (r % s) (Nat.mod_lt _ (Nat.pos_of_ne_zero hs)) s _ _ ⟨h.2, ?_⟩
      have e : ((r % s : Nat) : Int) - a * (x - ((r / s : Nat) : Int) * y) = (r - a * x) - ((r / s : Nat) : Int) * (s - a * y) := by
        have h1 : ((r % s : Nat) : Int) = r - ((r / s : Nat) : Int) * s := by
          have : s * (r / s) + r % s = r := Nat.div_add_mod r s
          have h2 : ((s * (r / s) + r % s : Nat) : Int) = r := by rw [this]
          rw [Int.natCast_add, Int.natCast_mul, Int.mul_comm] at h2
          omega
        rw [h1, Int.mul_sub, Int.mul_sub, Int.mul_left_comm]; omega
      rw [e]
      exact Int.dvd_sub h.1 (Int.dvd_mul_of_dvd_right h.2)

/-- An inverse is one, and it is a residue. -/
theorem inv_mul {a m : Int} (h0 : 0 ≤ a) (h1 : a < m) (h2 : 2 ≤ m) (hk : invOk a m = true) : (a * inv a m) % m = 1 ∧ 0 ≤ inv a m ∧ inv a m < m := by
  obtain ⟨a, rfl⟩ := Int.eq_ofNat_of_zero_le h0
  obtain ⟨m, rfl⟩ := Int.eq_ofNat_of_zero_le (show 0 ≤ m by omega)
  have hb := eg_bd m m a 0 1 (bd_start (by omega))
  have hd := eg_dv m a a m 0 1 ⟨by simp, by simp⟩
  have hk1 : (eg m a 0 1).1 = 1 := by simpa [invOk] using hk
  rw [hk1] at hd
  have hinv : inv a m = if (eg m a 0 1).2 < 0 then (eg m a 0 1).2 + m else (eg m a 0 1).2 := by
    unfold inv invRaw; rw [hk]; simp
  rw [hinv]
  generalize (eg m a 0 1).2 = x at *
  have key : ∀ z : Int, (m : Int) ∣ 1 - a * z → (a * z) % m = 1 := fun z hz => by
    have : (1 : Int) % (m : Int) = (a * z) % (m : Int) := Int.emod_eq_emod_iff_emod_sub_eq_zero.2 (Int.emod_eq_zero_of_dvd hz)
    rw [← this]; exact Int.emod_eq_of_lt (by decide) (by omega)
  split
  · refine ⟨key _ ?_, by omega, by omega⟩
    have e : 1 - (a : Int) * (x + m) = (1 - a * x) - m * a := by rw [Int.mul_add, Int.mul_comm (m : Int)]; omega
    rw [e]; exact Int.dvd_sub hd (Int.dvd_mul_right _ _)
  · exact ⟨key _ hd, by omega, by omega⟩
end Num

theorem inv_res {z m : Int} (h0 : 0 ≤ z ∧ z < m) (h2 : 2 ≤ m) (hk : Num.invOk z m = true) : (z * Num.inv z m) % m = 1 ∧ 0 ≤ Num.inv z m ∧ Num.inv z m < m := Num.inv_mul h0.1 h0.2 h2 hk

/-- The sum of the products with the inverses counts the elements. -/
theorem dot_inv {m : Int} (h2 : 2 ≤ m) : ∀ (zs : List Int) (acc : Int), (∀ z ∈ zs, 0 ≤ z ∧ z < m) → (∀ z ∈ zs, Num.invOk z m = true) → 0 ≤ acc → acc < m → dotFrom m acc zs (invAll zs m) = (acc + zs.length) % m
  | [], acc, _, _, h0, h1 => by simp [dotFrom]; exact (Int.emod_eq_of_lt h0 h1).symm
  | z :: zs, acc, hr, hk, h0, h1 => by
    have hz := (inv_res (hr z (by simp)) h2 (hk z (by simp))).1
    have e : (acc + z * Num.inv z m) % m = (acc + 1) % m := by
      rw [Int.add_emod, hz, Int.add_emod acc 1, Int.emod_eq_of_lt (show (0 : Int) ≤ 1 by decide) (show 1 < m by omega)]
    have ih := dot_inv h2 zs ((acc + 1) % m) (fun x hx => hr x (by simp [hx])) (fun x hx => hk x (by simp [hx])) (Int.emod_nonneg _ (by omega)) (Int.emod_lt_of_pos _ (by omega))
    show dotFrom m ((acc + z * Num.inv z m) % m) zs (invAll zs m) = _
    rw [e, ih, Int.emod_add_emod]
    congr 1
    simp only [List.length_cons]; omega

theorem listB_of {zs : List Int} {m : Int} (h1 : 2 ≤ m) (h2 : m ≤ 2000000000) (h3 : zs.length ≤ 200) (h4 : ∀ z ∈ zs, 0 ≤ z ∧ z < m) : listB zs m = true := by
  have hm : modB m = true := modB_true.2 ⟨h1, h2⟩
  simp only [listB, hm, Bool.true_and, Bool.and_eq_true, decide_eq_true_eq, allRes, List.all_eq_true]
  exact ⟨h3, fun z hz => resB_true.2 (by have := h4 z hz; omega)⟩

/-- What the law finds where the list has inverses. -/
theorem inv_all_facts {zs : List Int} {m : Int} (h : invAllOk zs m = true) : (2 ≤ m ∧ m ≤ 2000000000) ∧ dotB zs (invAll zs m) m = true ∧ dotMod zs (invAll zs m) m = (zs.length : Int) % m ∧ listB (invAll zs m) m = true ∧ sumMod (invAll zs m) m = sumFrom m 0 (invAll zs m) ∧ (∀ z ∈ invAll zs m, 0 ≤ z ∧ z < m) ∧ zs.length ≤ 200 := by
  simp only [invAllOk, Bool.and_eq_true, List.all_eq_true] at h
  obtain ⟨hl, hk⟩ := h
  obtain ⟨h2, h3, h4, h5⟩ := res_of_list hl
  have hr : ∀ z ∈ invAll zs m, 0 ≤ z ∧ z < m := by
    intro z hz
    obtain ⟨y, hy, rfl⟩ := List.mem_map.1 hz
    exact (inv_res (h5 y hy) h2 (hk y hy)).2
  have hli : listB (invAll zs m) m = true := listB_of h2 h3 (by rw [invAll_length]; exact h4) hr
  have hd : dotB zs (invAll zs m) m = true := by simp [dotB, hl, hli, invAll_length]
  refine ⟨⟨h2, h3⟩, hd, ?_, hli, by simp [sumMod, hli], hr, h4⟩
  unfold dotMod
  rw [if_pos hd, dot_inv h2 zs 0 h5 hk (Int.le_refl _) (by omega)]
  simp

/-- And of the residue that was drawn. -/
theorem cube_facts {a m : Int} (h : invModOk a m = true) : (2 ≤ m ∧ m ≤ 2000000000) ∧ (0 ≤ a ∧ a < m) ∧ (0 ≤ invMod a m ∧ invMod a m < m) ∧ (a * invMod a m) % m = 1 ∧ pwrB a 3 m = true ∧ pwrB (invMod a m) 3 m = true ∧
    (0 ≤ pwr a 3 m ∧ pwr a 3 m < m) ∧ (0 ≤ pwr (invMod a m) 3 m ∧ pwr (invMod a m) 3 m < m) ∧ (pwr a 3 m * pwr (invMod a m) 3 m) % m = 1 := by
  simp only [invModOk, Bool.and_eq_true] at h
  obtain ⟨hr, hk⟩ := h
  obtain ⟨h1, h2, h3, h4⟩ := resB_true.1 hr
  have hx : invMod a m = Num.inv a m := by simp [invMod, hr]
  obtain ⟨i1, i2, i3⟩ := inv_res ⟨h3, h4⟩ h1 hk
  rw [hx]
  have hp1 : pwrB a 3 m = true := pwrB_true.2 (by omega)
  have hp2 : pwrB (Num.inv a m) 3 m = true := pwrB_true.2 (by omega)
  have e1 : pwr a 3 m = Num.pow a 3 m := by simp [pwr, hp1]
  have e2 : pwr (Num.inv a m) 3 m = Num.pow (Num.inv a m) 3 m := by simp [pwr, hp2]
  rw [e1, e2]
  refine ⟨⟨h1, h2⟩, ⟨h3, h4⟩, ⟨i2, i3⟩, i1, hp1, hp2, ?_⟩
  generalize Num.inv a m = y at *
  obtain ⟨a, rfl⟩ := Int.eq_ofNat_of_zero_le h3
  obtain ⟨y, rfl⟩ := Int.eq_ofNat_of_zero_le i2
  obtain ⟨m, rfl⟩ := Int.eq_ofNat_of_zero_le (show 0 ≤ m by omega)
  have hm : 1 < m := by omega
  have hm0 : 0 < m := by omega
  rw [show (3 : Int) = ((3 : Nat) : Int) from rfl, Num.powmod_eq hm, Num.powmod_eq hm]
  have hay : a * y % m = 1 := by
    have h : ((a * y % m : Nat) : Int) = 1 := by rw [Int.natCast_emod, Int.natCast_mul]; exact i1
    omega
  have h5 := Nat.mod_lt (a ^ 3) hm0
  have h6 := Nat.mod_lt (y ^ 3) hm0
  refine ⟨by omega, by omega, ?_⟩
  have h7 : a ^ 3 % m * (y ^ 3 % m) % m = 1 := by
    rw [← Nat.mul_mod, ← Nat.mul_pow, Nat.pow_mod, hay, Nat.one_pow, Nat.mod_eq_of_lt hm]
  rw [← Int.natCast_mul, ← Int.natCast_emod, h7]; rfl


/-- What a law's shell tells of bytes that came in. -/
theorem isB_of_row {w : World} {a : Option Addr} {len cap : Nat} {zs : List Int}
    (h : (a = none ∧ len = 0 ∧ cap = 0 ∧ zs = []) ∨ ∃ x, a = some x ∧ len ≤ cap ∧ cap ≤ maxLen ∧ zs.length = cap ∧ (∀ i, i < zs.length → w.cell? (x.add i) = some (.int .u8 (zs.getD i 0))) ∧ ∀ n ∈ zs, (Lit.int .u8 n).wf = true) : IsB w a len := by
  rcases h with ⟨rfl, rfl, rfl, rfl⟩ | ⟨x, rfl, hl, hm, hz, hc, hwf⟩
  · exact .inl rfl
  · by_cases h0 : len = 0
    · exact .inl h0
    · obtain ⟨b, off, spot⟩ := x
      have h0' := hc 0 (by omega)
      have hspot : spot = none := by simpa [Addr.add] using World.cell?_spot h0'
      subst hspot
      refine .inr ⟨b, off, rfl, ?_, fun i hi => ?_⟩
      · have := World.block_lt_of_cell? w _ h0'
        simpa [Addr.add] using this
      · have hi' : i < zs.length := by omega
        have h := hc i hi'
        have e : (⟨b, off, none⟩ : Addr).add i = ⟨b, off + i, none⟩ := by
          unfold Addr.add; split
          · subst_vars; rfl
          · rfl
        rw [e] at h
        refine ⟨zs.getD i 0, bounds_u8 (hwf _ ?_), h⟩
        simp [hi']

end Go.Proofs.Ytdnofcpobpoehaa

