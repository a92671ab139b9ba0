/- ParseDigest of the reference; the law FnExactParseDigest. -/
import Derived.Test.YtkpfmpndaenclaaDoorHexH
namespace Go.Proofs.YtkpfmpndaenclaaDoor
open Go.RowKit

/-- What the reference's loop has read. -/
def Red (bs : List UInt8) (m k : Nat) : Prop := hexK k m = bs.take k ∧ (k = 0 → m = 0) ∧ (0 < k → m < 4 * 16 ^ (k - 1))
theorem red_zero (bs : List UInt8) : Red bs 0 0 := ⟨rfl, fun _ => rfl, fun h => absurd h (by omega)⟩
theorem red_small {bs : List UInt8} {m k : Nat} (h : Red bs m k) (hk : k ≤ 15) : m < 288230376151711744 := by
  by_cases h0 : k = 0
  · rw [h.2.1 h0]; decide
  · have := h.2.2 (by omega)
    have h2 : 16 ^ (k - 1) ≤ 16 ^ 14 := Nat.pow_le_pow_right (by decide) (by omega)
    have h3 : (16 : Nat) ^ 14 = 72057594037927936 := by decide
    omega
theorem red_next {bs : List UInt8} {m k d : Nat} {c : UInt8} (h : Red bs m k) (hk : k < bs.length) (hc : bs[k] = c) (hd : d < 16) (hx' : c = hx d) (h0 : k = 0 → d ≤ 3) : Red bs (16 * m + d) (k + 1) := by
  refine ⟨?_, fun e => absurd e (by omega), fun _ => ?_⟩
  · rw [hexK_snoc _ _ _ hd, h.1, List.take_succ_eq_append_getElem hk, hc, hx']
  · show 16 * m + d < 4 * 16 ^ k
    by_cases hk0 : k = 0
    · subst hk0
      rw [h.2.1 rfl]
      have := h0 rfl
      omega
    · obtain ⟨j, rfl⟩ : ∃ j, k = j + 1 := ⟨k - 1, by omega⟩
      have := h.2.2 (by omega)
      rw [Nat.pow_succ]
      have e : j + 1 - 1 = j := rfl
      rw [e] at this
      generalize 16 ^ j = q at *
      omega
theorem red_end {bs : List UInt8} {m : Nat} (h : Red bs m 16) (hl : bs.length = 16) : m < 4611686018427387904 ∧ bs = hexK 16 m := by
  refine ⟨?_, ?_⟩
  · have := h.2.2 (by omega)
    have h3 : (16 : Nat) ^ (16 - 1) = 1152921504606846976 := by decide
    omega
  · rw [h.1, List.take_of_length_le (by omega)]
theorem red_none {bs : List UInt8} {k : Nat} {c : UInt8} (hk : k < bs.length) (hc : bs[k] = c)
    (hb : ¬ (48 ≤ c.toNat ∧ c.toNat ≤ 57 ∨ 97 ≤ c.toNat ∧ c.toNat ≤ 102) ∨ (k = 0 ∧ (51 < c.toNat))) : ∀ n, n < 4611686018427387904 → bs ≠ hexK 16 n := fun n hn e => by
  subst e
  rw [hexK_get] at hc
  rcases hb with hb | ⟨rfl, hb⟩
  · rcases hx_cases (Nat.mod_lt (n / 16 ^ (16 - 1 - k)) (by decide : 0 < 16)) with ⟨g1, g2, _⟩ | ⟨g1, g2, _⟩ <;> rw [hc] at g1 g2 <;> omega
  · have h3 : n / 16 ^ (16 - 1 - 0) % 16 < 4 := by
      have h4 : n / 16 ^ (16 - 1 - 0) < 4 := by
        apply Nat.div_lt_of_lt_mul
        have : (16 : Nat) ^ (16 - 1 - 0) = 1152921504606846976 := by decide
        omega
      omega
    rcases hx_cases (Nat.mod_lt (n / 16 ^ (16 - 1 - 0)) (by decide : 0 < 16)) with ⟨g1, g2, g3⟩ | ⟨g1, g2, g3⟩ <;> rw [hc] at g1 g2 g3 <;> omega
theorem hx_of {c : UInt8} (h : 48 ≤ c.toNat ∧ c.toNat ≤ 57) : c = hx (c.toNat - 48) := by
  apply UInt8.toNat.inj
  rw [hx_nat (by omega)]
  unfold dig
  rw [if_pos (by omega)]; omega
theorem hx_of2 {c : UInt8} (h : 97 ≤ c.toNat ∧ c.toNat ≤ 102) : c = hx (c.toNat - 87) := by
  apply UInt8.toNat.inj
  rw [hx_nat (by omega)]
  unfold dig
  rw [if_neg (by omega)]; omega

set_option maxHeartbeats 3200000 in
set_option maxRecDepth 100000 in
theorem sParseDigest_any (t : ByteArray) (w : World) :
    Calls Tryd.prog 8 #[.string t] w fun e w' => e = .returned (.tuple #[.int .i64 (pdV t), .bool (pdB t)]) ∧ w = w' := by
  have hLn : t.data.toList.length = t.size := Lib.size_eq t
  by_cases h16 : t.size = 16
  · have h16i : (t.size : Int) = 16 := by omega
    have HY := Lib.hid (fun n (h : n < 4611686018427387904) e => pd_yes (s := t) (n := n) h e)
    have HO := Lib.hid (fun h => pd_no (s := t) h)
    go_enter Tryd.func8, Tryd.ntmps8
    go_wp2
    go_loop [4, 5] (fun D I => ∃ m k : Nat, k ≤ 16 ∧ D = .int .i64 m ∧ I = .int .i64 k ∧ Hid (Red t.data.toList m k)) (fun _ I => 16 - (intOf I).toNat)
    case atStart => exact ⟨0, 0, by omega, rfl, rfl, red_zero _⟩
    case round =>
      obtain ⟨m, k, hk, rfl, rfl, hr⟩ := hrel
      by_cases hkn : k < 16
      · have hsm := red_small hr (by omega)
        obtain ⟨c, hcc⟩ : ∃ c, c = t.data.toList[k]'(by omega) := ⟨_, rfl⟩
        have hc256 : c.toNat < 256 := c.toNat_lt
        have HZ := Lib.hid (red_none (bs := t.data.toList) (k := k) (c := c) (by omega) hcc.symm)
        have HX := Lib.hid (fun d => red_next (d := d) (c := c) hr (by omega) hcc.symm)
        have hki : (k : Int) < 16 := by omega
        have hcT : ∀ h : k < t.size, (t[k]'h) = c := fun h => by rw [hcc]; rfl
        clear hr hcc
        by_cases hdig : 48 ≤ c.toNat ∧ c.toNat ≤ 57
        · obtain ⟨d0, d1⟩ := hdig
          have hin : inB (c.toNat : Int) 48 57 = true := inB_true.2 ⟨by omega, by omega⟩
          by_cases h3 : k = 0 ∧ 51 < c.toNat
          · obtain ⟨rfl, h3⟩ := h3
            have HP := Lib.hid (HO.out (HZ.out (.inr ⟨rfl, h3⟩)))
            have h3i : (3 : Int) < (c.toNat : Int) - 48 := by omega
            go_wp2_with (first | (go_at_call 22; refine (l1In_any _ _ _ _).mono ?_; rintro e w' ⟨rfl, rfl⟩; rw [hin]))
            go_ret2
            exact ⟨by rw [HP.out.1, HP.out.2]; rfl, rfl⟩
          · have HP := Lib.hid (HX.out (c.toNat - 48) (by omega) (hx_of ⟨d0, d1⟩) (by omega))
            by_cases hk0 : k = 0
            · subst hk0
              have h3i : (c.toNat : Int) - 48 ≤ 3 := by omega
              go_wp2_with (first | (go_at_call 22; refine (l1In_any _ _ _ _).mono ?_; rintro e w' ⟨rfl, rfl⟩; rw [hin]))
              go_round
              case rel => exact ⟨16 * m + (c.toNat - 48), 0 + 1, by omega, by congr 1; omega, by go_num, HP.out⟩
              case measure => simp only [intOf]; omega
            · have hk0i : ¬ ((k : Int) = 0) := by omega
              go_wp2_with (first | (go_at_call 22; refine (l1In_any _ _ _ _).mono ?_; rintro e w' ⟨rfl, rfl⟩; rw [hin]))
              go_round
              case rel => exact ⟨16 * m + (c.toNat - 48), k + 1, by omega, by congr 1; omega, by go_num, HP.out⟩
              case measure => simp only [intOf]; omega
        · have hin : inB (c.toNat : Int) 48 57 = false := by rw [← Bool.not_eq_true, inB_true]; omega
          by_cases hlet : 97 ≤ c.toNat ∧ c.toNat ≤ 102
          · obtain ⟨d0, d1⟩ := hlet
            have hin2 : inB (c.toNat : Int) 97 102 = true := inB_true.2 ⟨by omega, by omega⟩
            by_cases hk0 : k = 0
            · subst hk0
              have HP := Lib.hid (HO.out (HZ.out (.inr ⟨rfl, by omega⟩)))
              have h3i : (3 : Int) < (c.toNat : Int) - 87 := by omega
              go_wp2_with (first | (go_at_call 22; refine (l1In_any _ _ _ _).mono ?_; rintro e w' ⟨rfl, rfl⟩; first | rw [hin] | rw [hin2]))
              go_ret2
              exact ⟨by rw [HP.out.1, HP.out.2]; rfl, rfl⟩
            · have hk0i : ¬ ((k : Int) = 0) := by omega
              have HP := Lib.hid (HX.out (c.toNat - 87) (by omega) (hx_of2 ⟨d0, d1⟩) (by omega))
              go_wp2_with (first | (go_at_call 22; refine (l1In_any _ _ _ _).mono ?_; rintro e w' ⟨rfl, rfl⟩; first | rw [hin] | rw [hin2]))
              go_round
              case rel => exact ⟨16 * m + (c.toNat - 87), k + 1, by omega, by congr 1; omega, by go_num, HP.out⟩
              case measure => simp only [intOf]; omega
          · have hin2 : inB (c.toNat : Int) 97 102 = false := by rw [← Bool.not_eq_true, inB_true]; omega
            have HP := Lib.hid (HO.out (HZ.out (.inl (by omega))))
            go_wp2_with (first | (go_at_call 22; refine (l1In_any _ _ _ _).mono ?_; rintro e w' ⟨rfl, rfl⟩; first | rw [hin] | rw [hin2]))
            go_ret2
            exact ⟨by rw [HP.out.1, HP.out.2]; rfl, rfl⟩
      · obtain rfl : k = 16 := by omega
        obtain ⟨e1, e2⟩ := red_end hr (by omega)
        have HP := Lib.hid (HY.out m e1 e2)
        clear hr e2
        go_wp2
        go_ret2
        exact ⟨by rw [HP.out.1, HP.out.2.2]; rfl, rfl⟩
  · have h16i : ¬ ((t.size : Int) = 16) := by omega
    obtain ⟨p1, p2⟩ := pd_no (s := t) fun n _ e => by
      have := congrArg List.length e
      rw [hexK_length, hLn] at this
      exact h16 this
    have P1 := Lib.hid p1
    have P2 := Lib.hid p2
    clear p1 p2
    go_enter Tryd.func8, Tryd.ntmps8
    go_wp2
    go_ret2
    exact ⟨by rw [P1.out, P2.out]; rfl, rfl⟩

/-! ### The law -/
theorem FnExactParseDigest_true (t : ByteArray) (w : World) (h : ErrAt w) (hT : TzAt w) :
    Calls Tryd.prog 4 #[.string t] w fun e w' => e = .returned (.bool true) ∧ Below w.heap.size w w' := by
  by_cases hbig : t.size ≤ 1048576
  · have c1 := sParseDigest_any t
    have c2 := parseDigest_any t (by omega) w h hT
    generalize pdV t = v at c1 c2
    generalize pdB t = b at c1 c2
    have C1 := Lib.hid c1
    have C2 := Lib.hid c2
    clear c1 c2
    have hi : (t.size : Int) ≤ 1048576 := by omega
    go_enter Tryd.func4, Tryd.ntmps4
    go_wp2_with fail
    refine (C1.out _).mono ?_
    rintro e w1 ⟨rfl, rfl⟩
    go_wp2_with fail
    refine C2.out.mono ?_
    rintro e w2 ⟨rfl, hb2⟩
    have HB2 := Lib.hid hb2
    clear hb2
    go_wp2
    go_ret
    exact ⟨rfl, HB2.out⟩
  · have hi : (1048576 : Int) < (t.size : Int) := by omega
    go_enter Tryd.func4, Tryd.ntmps4
    go_wp2
    go_ret
    exact ⟨rfl, Below.refl _ _⟩
end Go.Proofs.YtkpfmpndaenclaaDoor

