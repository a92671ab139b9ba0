/- Contracts of the small functions of layer 1: moduli, residues, remainders. -/
import Derived.Test.YtdnofcpobpoehaaRows
import Derived.WalkKit
import Derived.WalkSpells
import Derived.WalkLawsBesides
import Derived.LoopTactic
import Derived.Outline
import Derived.IntWalk
import Derived.Lib.Hide
import Derived.Test.YtdnofcpobpoehaaNum
namespace Go.Proofs.Ytdnofcpobpoehaa
open Go.RowKit

def modB (m : Int) : Bool := decide (2 ≤ m) && decide (m ≤ 2000000000)
theorem modB_true {m : Int} : modB m = true ↔ 2 ≤ m ∧ m ≤ 2000000000 := by simp [modB]
theorem modB_false {m : Int} : modB m = false ↔ m < 2 ∨ 2000000000 < m := by
  rw [← Bool.not_eq_true, modB_true]; omega

theorem isModulus_any (m : Int) (w : World) :
    Calls Try.prog 156 #[.int .i64 m] w fun e w' => e = .returned (.bool (modB m)) ∧ w = w' := by
  by_cases h1 : 2 ≤ m
  · by_cases h2 : m ≤ 2000000000
    · have hm : modB m = true := modB_true.2 ⟨h1, h2⟩
      rw [hm]; clear hm
      go_enter Try.func156, Try.ntmps156
      go_wp2
      go_ret
      exact ⟨rfl, rfl⟩
    · have hm : modB m = false := modB_false.2 (by omega)
      rw [hm]; clear hm
      go_enter Try.func156, Try.ntmps156
      go_wp2
      go_ret
      exact ⟨rfl, rfl⟩
  · have hm : modB m = false := modB_false.2 (by omega)
    rw [hm]; clear hm
    go_enter Try.func156, Try.ntmps156
    go_wp2
    go_ret
    exact ⟨rfl, rfl⟩

def inB (n lo hi : Int) : Bool := decide (lo ≤ n) && decide (n ≤ hi)
theorem inB_true {n lo hi : Int} : inB n lo hi = true ↔ lo ≤ n ∧ n ≤ hi := by simp [inB]
theorem inB_false {n lo hi : Int} : inB n lo hi = false ↔ n < lo ∨ hi < n := by
  rw [← Bool.not_eq_true, inB_true]; omega

theorem l1In_any (n lo hi : Int) (w : World) :
    Calls Try.prog 97 #[.int .i64 n, .int .i64 lo, .int .i64 hi] w fun e w' => e = .returned (.bool (inB n lo hi)) ∧ w = w' := by
  by_cases h1 : lo ≤ n
  · by_cases h2 : n ≤ hi
    · have hm : inB n lo hi = true := inB_true.2 ⟨h1, h2⟩
      rw [hm]; clear hm
      go_enter Try.func97, Try.ntmps97
      go_wp2
      go_ret
      exact ⟨rfl, rfl⟩
    · have hm : inB n lo hi = false := inB_false.2 (by omega)
      rw [hm]; clear hm
      go_enter Try.func97, Try.ntmps97
      go_wp2
      go_ret
      exact ⟨rfl, rfl⟩
  · have hm : inB n lo hi = false := inB_false.2 (by omega)
    rw [hm]; clear hm
    go_enter Try.func97, Try.ntmps97
    go_wp2
    go_ret
    exact ⟨rfl, rfl⟩


theorem nMod_any (a m : Int) (h0 : -m < a) (h1 : a < m) (h2 : 2 ≤ m) (h3 : m ≤ 2000000000) (w : World) :
    Calls Try.prog 80 #[.int .i64 a, .int .i64 m] w fun e w' => e = .returned (.int .i64 (if a < 0 then a + m else a)) ∧ w = w' := by
  by_cases h : a < 0
  · rw [if_pos h]
    have e1 : a.tmod m = a := by
      rw [← Int.neg_neg a, Int.neg_tmod, Int.tmod_eq_of_lt (by omega) (by omega)]
    have e2 : (a + m).tmod m = a + m := Int.tmod_eq_of_lt (by omega) (by omega)
    have e3 : (a + m) % m = a + m := Int.emod_eq_of_lt (by omega) (by omega)
    go_enter Try.func80, Try.ntmps80
    go_wp2
    go_ret
    exact ⟨rfl, rfl⟩
  · rw [if_neg h]
    have e1 : a % m = a := Int.emod_eq_of_lt (by omega) (by omega)
    have e2 : (a + m) % m = a := by rw [Int.add_emod_right]; exact e1
    go_enter Try.func80, Try.ntmps80
    go_wp2
    go_ret
    exact ⟨rfl, rfl⟩


/-- A round's facts, in the walk's own spelling. -/
theorem inv_round {m r s : Nat} {x y : Int} (h : Num.Bd m r s x y) (hs : s ≠ 0) (hm : m ≤ 2000000000) :
    (0 ≤ (r : Int) / s ∧ (r : Int) / s ≤ 2000000000) ∧ (0 ≤ (r : Int) / s * s ∧ (r : Int) / s * s ≤ 2000000000) ∧ (0 ≤ (r : Int) - (r : Int) / s * s ∧ (r : Int) - (r : Int) / s * s ≤ 2000000000) ∧
    (-2000000000 ≤ (r : Int) / s * y ∧ (r : Int) / s * y ≤ 2000000000) ∧ (-2000000000 ≤ x - (r : Int) / s * y ∧ x - (r : Int) / s * y ≤ 2000000000) := by
  obtain ⟨a1, a2, a3, a4, a5, a6, a7, a8, a9⟩ := Num.bd_round h hs
  rw [Int.natCast_ediv] at a1 a2 a3 a4 a5 a6 a7 a8 a9
  have : 0 ≤ ((r % s : Nat) : Int) := Int.natCast_nonneg _
  have h4 : (r % s : Nat) < s := Nat.mod_lt _ (by omega)
  have := h.1; have := h.2.1
  refine ⟨⟨a1, by omega⟩, ⟨a3, by omega⟩, ⟨by omega, by omega⟩, ⟨by omega, by omega⟩, ⟨by omega, by omega⟩⟩

theorem inv_next {m r s : Nat} {x y : Int} (h : Num.Bd m r s x y) (hs : s ≠ 0) :
    (r : Int) - (r : Int) / s * s = ((r % s : Nat) : Int) ∧ Num.Bd m s (r % s) y (x - (r : Int) / s * y) ∧ Num.eg r s x y = Num.eg s (r % s) y (x - (r : Int) / s * y) := by
  have e := (Num.bd_round h hs).2.2.2.2.1
  have b := Num.bd_step h hs
  have g := Num.eg_step r s x y hs
  rw [Int.natCast_ediv] at e b g
  exact ⟨e.symm, b, g⟩

theorem bne_nat_true {r : Nat} (h : ((r : Int) != 1) = true) : ¬ r = 1 := by
  rintro rfl; simp at h
theorem bne_nat_false {r : Nat} (h : ((r : Int) != 1) = false) : r = 1 := by
  simp at h; omega

theorem inv_end {r a m : Nat} {x y : Int} (h : Num.eg m a 0 1 = Num.eg r 0 x y) :
    (¬ r = 1 → Num.inv a m = 0 ∧ Num.invOk a m = false) ∧ (r = 1 → x < 0 → Num.inv a m = x + m ∧ Num.invOk a m = true) ∧ (r = 1 → 0 ≤ x → Num.inv a m = x ∧ Num.invOk a m = true) := by
  rw [Num.eg_zero] at h
  unfold Num.inv Num.invOk Num.invRaw
  rw [Int.toNat_natCast, Int.toNat_natCast, h]
  refine ⟨fun h1 => by simp [h1], fun h1 h2 => by simp [h1, h2], fun h1 h2 => ?_⟩
  have : ¬ x < 0 := by omega
  simp [h1, this]

set_option maxHeartbeats 400000 in
theorem invert_nat (a m : Nat) (h1 : a < m) (h2 : m ≤ 2000000000) (w : World) :
    Calls Try.prog 126 #[.int .i64 a, .int .i64 m] w fun e w' => e = .returned (.tuple #[.int .i64 (Num.inv a m), .bool (Num.invOk a m)]) ∧ w = w' := by
  have hst := Num.bd_start h1
  have hm : 0 < m := by omega
  go_enter Try.func126, Try.ntmps126
  go_wp2
  go_loop [6, 7, 8, 9] (fun R S X Y => ∃ (r s : Nat) (x y : Int), (0 ≤ (r : Int) ∧ (r : Int) ≤ 2000000000 ∧ 0 ≤ (s : Int) ∧ (s : Int) ≤ 2000000000 ∧ -2000000000 ≤ x ∧ x ≤ 2000000000 ∧ -2000000000 ≤ y ∧ y ≤ 2000000000) ∧ Num.Bd m r s x y ∧ Num.eg m a 0 1 = Num.eg r s x y ∧ R = .int .i64 r ∧ S = .int .i64 s ∧ X = .int .i64 x ∧ Y = .int .i64 y) (fun _ S _ _ => (intOf S).toNat)
  case atStart => exact ⟨m, a, 0, 1, by omega, hst, rfl, rfl, rfl, rfl, rfl⟩
  case round =>
    obtain ⟨r, s, x, y, ⟨b1, b2, b3, b4, b5, b6, b7, b8⟩, hb, he, rfl, rfl, rfl, rfl⟩ := hrel
    have HB := Lib.hid hb
    have HE := Lib.hid he
    clear hb he hst
    by_cases hs : s = 0
    · subst hs
      have HZ := Lib.hid (inv_end HE.out)
      go_wp2
      · have hr : ¬ r = 1 := bne_nat_true (show ((r : Int) != 1) = true by assumption)
        obtain ⟨e1, e2⟩ := HZ.out.1 hr
        go_ret2
        exact ⟨by rw [e1, e2]; rfl, rfl⟩
      · have hr : r = 1 := bne_nat_false (show ((r : Int) != 1) = false by assumption)
        obtain ⟨e1, e2⟩ := HZ.out.2.1 hr (by assumption)
        go_ret2
        exact ⟨by rw [e1, e2]; rfl, rfl⟩
      · have hr : r = 1 := bne_nat_false (show ((r : Int) != 1) = false by assumption)
        obtain ⟨e1, e2⟩ := HZ.out.2.2 hr (by assumption)
        go_ret2
        exact ⟨by rw [e1, e2]; rfl, rfl⟩
    · obtain ⟨⟨c1, c2⟩, ⟨c3, c4⟩, ⟨c5, c6⟩, ⟨c7, c8⟩, c9, c10⟩ := inv_round HB.out hs h2
      have hs0 : 0 < (s : Int) := by omega
      have hs1 : ((s : Int) == 0) = false := by simp; omega
      go_wp2
      go_round
      case rel =>
        obtain ⟨n1, n2, n3⟩ := inv_next HB.out hs
        refine ⟨s, r % s, y, _, ?_, n2, HE.out.trans n3, rfl, by rw [n1], rfl, rfl⟩
        omega
      case measure =>
        have n1 := (inv_next HB.out hs).1
        have n2 := Nat.mod_lt r (show s > 0 by omega)
        simp only [intOf]
        omega


theorem nMod_nn (a m : Int) (h0 : 0 ≤ a) (h1 : a < m) (h2 : 2 ≤ m) (h3 : m ≤ 2000000000) (w : World) :
    Calls Try.prog 80 #[.int .i64 a, .int .i64 m] w fun e w' => e = .returned (.int .i64 a) ∧ w = w' := by
  have h := nMod_any a m (by omega) h1 h2 h3 w
  rwa [if_neg (by omega)] at h
theorem nMod_neg (a m : Int) (h0 : a < 0) (h1 : -m < a) (h2 : 2 ≤ m) (h3 : m ≤ 2000000000) (w : World) :
    Calls Try.prog 80 #[.int .i64 a, .int .i64 m] w fun e w' => e = .returned (.int .i64 (a + m)) ∧ w = w' := by
  have h := nMod_any a m h1 (by omega) h2 h3 w
  rwa [if_pos h0] at h

/-- What the reference's extended algorithm returns. -/
theorem ninv_end {r a m : Nat} {x y : Int} (h : Num.eg m a 0 1 = Num.eg r 0 x y) :
    (x < 0 → Num.ninv a m = x + m) ∧ (0 ≤ x → Num.ninv a m = x) ∧ Num.invOk a m = ((r : Int) == 1) := by
  rw [Num.eg_zero] at h
  unfold Num.ninv Num.invOk Num.invRaw
  rw [Int.toNat_natCast, Int.toNat_natCast, h]
  refine ⟨fun h1 => by simp [h1], fun h1 => ?_, ?_⟩
  · have : ¬ x < 0 := by omega
    simp [this]
  · rw [Bool.eq_iff_iff]; simp; omega

set_option maxHeartbeats 800000 in
theorem nInverse_nat (a m : Nat) (h1 : a < m) (h0 : 2 ≤ m) (h2 : m ≤ 2000000000) (w : World) :
    Calls Try.prog 79 #[.int .i64 a, .int .i64 m] w fun e w' => e = .returned (.tuple #[.int .i64 (Num.ninv a m), .bool (Num.invOk a m)]) ∧ w = w' := by
  have hst := Num.bd_start h1
  have hm : 0 < (m : Int) := by omega
  have hq : (a : Int) / (m : Int) = 0 := Int.ediv_eq_zero_of_lt (by omega) (by omega)
  have HQ := Lib.hid hq
  clear hq
  go_enter Try.func79, Try.ntmps79
  go_wp2_with (go_at_call 80; refine (nMod_nn _ _ (by omega) (by omega) (by omega) (by omega) _).mono ?_; rintro e w' ⟨rfl, rfl⟩)
  go_loop [6, 7, 8, 9] (fun R S X Y => ∃ (r s : Nat) (x y : Int), (0 ≤ (r : Int) ∧ (r : Int) ≤ 2000000000 ∧ 0 ≤ (s : Int) ∧ (s : Int) ≤ 2000000000 ∧ -2000000000 ≤ x ∧ x ≤ 2000000000 ∧ -2000000000 ≤ y ∧ y ≤ 2000000000) ∧ ((r = a ∧ s = m ∧ x = 1 ∧ y = 0) ∨ (Num.Bd m r s x y ∧ Num.eg m a 0 1 = Num.eg r s x y)) ∧ R = .int .i64 r ∧ S = .int .i64 s ∧ X = .int .i64 x ∧ Y = .int .i64 y) (fun R S _ _ => (intOf S).toNat)
  case atStart => exact ⟨a, m, 1, 0, by omega, .inl ⟨rfl, rfl, rfl, rfl⟩, rfl, rfl, rfl, rfl⟩
  case round =>
    obtain ⟨r, s, x, y, ⟨b1, b2, b3, b4, b5, b6, b7, b8⟩, hor, rfl, rfl, rfl, rfl⟩ := hrel
    rcases hor with ⟨rfl, rfl, rfl, rfl⟩ | ⟨hb, he⟩
    · have hs1 : ((s : Int) == 0) = false := by simp; omega
      have hq := HQ.out
      go_wp2
      go_round
      case rel =>
        refine ⟨s, r, 0, 1, by omega, .inr ⟨hst, rfl⟩, rfl, ?_, rfl, rfl⟩
        rfl
      case measure =>
        simp only [intOf]
        omega
    · have HB := Lib.hid hb
      have HE := Lib.hid he
      clear hb he hst
      by_cases hs : s = 0
      · subst hs
        have HZ := Lib.hid (ninv_end HE.out)
        have hxy := Num.bd_xy HB.out
        by_cases hx : x < 0
        · go_wp2_with (go_at_call 80; refine (nMod_neg _ _ (by omega) (by omega) (by omega) (by omega) _).mono ?_; rintro e w' ⟨rfl, rfl⟩)
          go_ret2
          refine ⟨?_, rfl⟩
          rw [HZ.out.2.2, HZ.out.1 hx]
          rfl
        · go_wp2_with (go_at_call 80; refine (nMod_nn _ _ (by omega) (by omega) (by omega) (by omega) _).mono ?_; rintro e w' ⟨rfl, rfl⟩)
          go_ret2
          refine ⟨?_, rfl⟩
          rw [HZ.out.2.2, HZ.out.2.1 (by omega)]
          rfl
      · obtain ⟨⟨c1, c2⟩, ⟨c3, c4⟩, ⟨c5, c6⟩, ⟨c7, c8⟩, c9, c10⟩ := inv_round HB.out hs h2
        have hs0 : 0 < (s : Int) := by omega
        have hs1 : ((s : Int) == 0) = false := by simp; omega
        go_wp2
        go_round
        case rel =>
          obtain ⟨n1, n2, n3⟩ := inv_next HB.out hs
          refine ⟨s, r % s, y, _, ?_, .inr ⟨n2, HE.out.trans n3⟩, rfl, by rw [n1], rfl, rfl⟩
          omega
        case measure =>
          have n1 := (inv_next HB.out hs).1
          have n2 := Nat.mod_lt r (show s > 0 by omega)
          simp only [intOf]
          omega


/-- A modulus and a residue. -/
def resB (a m : Int) : Bool := modB m && decide (0 ≤ a) && decide (a < m)
theorem resB_true {a m : Int} : resB a m = true ↔ 2 ≤ m ∧ m ≤ 2000000000 ∧ 0 ≤ a ∧ a < m := by
  unfold resB; simp [modB_true]; omega
theorem resB_false {a m : Int} : resB a m = false ↔ modB m = false ∨ a < 0 ∨ m ≤ a := by
  unfold resB; cases modB m <;> simp; omega

theorem invert_any (a m : Int) (h0 : 0 ≤ a) (h1 : a < m) (h2 : m ≤ 2000000000) (w : World) :
    Calls Try.prog 126 #[.int .i64 a, .int .i64 m] w fun e w' => e = .returned (.tuple #[.int .i64 (Num.inv a m), .bool (Num.invOk a m)]) ∧ w = w' := by
  obtain ⟨a, rfl⟩ := Int.eq_ofNat_of_zero_le h0
  obtain ⟨m, rfl⟩ := Int.eq_ofNat_of_zero_le (show 0 ≤ m by omega)
  exact invert_nat a m (by omega) (by omega) w
theorem nInverse_any (a m : Int) (h0 : 0 ≤ a) (h1 : a < m) (h3 : 2 ≤ m) (h2 : m ≤ 2000000000) (w : World) :
    Calls Try.prog 79 #[.int .i64 a, .int .i64 m] w fun e w' => e = .returned (.tuple #[.int .i64 (Num.ninv a m), .bool (Num.invOk a m)]) ∧ w = w' := by
  obtain ⟨a, rfl⟩ := Int.eq_ofNat_of_zero_le h0
  obtain ⟨m, rfl⟩ := Int.eq_ofNat_of_zero_le (show 0 ≤ m by omega)
  exact nInverse_nat a m (by omega) (by omega) (by omega) w

/-- What InverseMod answers. -/
def invMod (a m : Int) : Int := if resB a m then Num.inv a m else 0
def invModOk (a m : Int) : Bool := resB a m && Num.invOk a m

end Go.Proofs.Ytdnofcpobpoehaa

