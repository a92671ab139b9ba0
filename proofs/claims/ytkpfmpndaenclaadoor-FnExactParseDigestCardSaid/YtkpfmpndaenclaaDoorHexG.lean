/- strconv.ParseUint at base 16 and 62 bits: the walk. -/
import Derived.Test.YtkpfmpndaenclaaDoorHexF
namespace Go.Proofs.YtkpfmpndaenclaaDoor
open Go.RowKit

/-- What the inner function answers. -/
def PU (t : ByteArray) (e : Ending) : Prop :=
  ∃ (x : Int) (er : Value), e = .returned (.tuple #[.int .u64 x, er]) ∧ 0 ≤ x ∧ x < 4611686018427387904 ∧ ((er = .nilIface ∧ ∀ n, n < 4611686018427387904 → t.data.toList = hexK 16 n → x = (n : Int)) ∨ ((∃ i, (i = 1 ∨ i = 2) ∧ er = errE i) ∧ ∀ n, n < 4611686018427387904 → t.data.toList ≠ hexK 16 n))
theorem pu_bad {t : ByteArray} {x i : Int} (h0 : 0 ≤ x) (h1 : x < 4611686018427387904) (hi : i = 1 ∨ i = 2) (h : ∀ n, n < 4611686018427387904 → t.data.toList ≠ hexK 16 n) : PU t (.returned (.tuple #[.int .u64 x, errE i])) :=
  ⟨x, _, rfl, h0, h1, .inr ⟨⟨i, hi, rfl⟩, h⟩⟩
theorem or32 (c : Nat) (h : 97 ≤ c) (h2 : c ≤ 102) : bits BinOp.or IntKind.u8 (c : Int) 32 = c := by
  have : ∀ c : Fin 103, 97 ≤ c.val → bits BinOp.or IntKind.u8 (c.val : Int) 32 = c.val := by decide
  exact this ⟨c, by omega⟩ h
/-- The letters of another case, and what lies beside them: where the bit 32 leads. -/
theorem or32_back (c : Nat) (h : c < 256) (hn : ¬ (97 ≤ c ∧ c ≤ 102)) (hd : ¬ (48 ≤ c ∧ c ≤ 57)) : c < 48 ∨ (57 < c ∧ c < 97) ∨ 102 < c := by omega

set_option maxHeartbeats 32000000 in
set_option maxRecDepth 100000 in
theorem iParseUint_16 (t : ByteArray) (hmax : t.size ≤ 281474976710656) (w : World) :
    Calls Tryd.prog 40 #[.string t, .int .i64 16, .int .i64 62] w fun e w' => PU t e ∧ Below w.heap.size w w' := by
  by_cases hne : t.size = 0
  · obtain rfl : t = ⟨#[]⟩ := by
      apply ByteArray.ext
      exact Array.eq_empty_of_size_eq_zero hne
    go_enter Tryd.func40, Tryd.ntmps40
    go_wp2
    go_ret2
    exact ⟨pu_bad (by omega) (by omega) (.inr rfl) fun n _ h => by have := congrArg List.length h; rw [hexK_length] at this; exact absurd this (by decide), Below.refl _ _⟩
  have hbw := below_conv w t 5
  have hemp : t.toList.isEmpty = false := by
    rw [← decide_eq_emptyBytes]
    exact decide_eq_false (fun h => hne (by rw [h]; rfl))
  have hcv := Lib.run_convert_string_bytes (P := Tryd.prog) w 9 28 5 t (u := .string) Tryd.underlying9 Tryd.underlying28 Tryd.underlying5
  have hB : ∀ j, j < t.size → (Lib.bytesWorld w 5 t).cell? ⟨w.heap.size, j, none⟩ = some (.int .u8 (t.data.toList.getD j 0).toNat) := fun j hj => Lib.bytesWorld_cell w 5 t j hj
  obtain ⟨W1, hW1⟩ : ∃ W1, W1 = Lib.bytesWorld w 5 t := ⟨_, rfl⟩
  rw [← hW1] at hcv hB hbw
  clear hW1
  obtain ⟨bs, hL⟩ : ∃ bs, bs = t.data.toList := ⟨_, rfl⟩
  have hLn : bs.length = t.size := by rw [hL, Lib.size_eq]
  have HP : Hid (∀ e, PU t e ↔ ∃ (x : Int) (er : Value), e = .returned (.tuple #[.int .u64 x, er]) ∧ 0 ≤ x ∧ x < 4611686018427387904 ∧ ((er = .nilIface ∧ ∀ n, n < 4611686018427387904 → bs = hexK 16 n → x = (n : Int)) ∨ ((∃ i, (i = 1 ∨ i = 2) ∧ er = errE i) ∧ ∀ n, n < 4611686018427387904 → bs ≠ hexK 16 n))) := Lib.hid (fun e => by rw [hL]; exact Iff.rfl)
  rw [← hL] at hB
  clear hL
  have HBW := Lib.hid hbw
  clear hbw
  have hmv : IntKind.u64.wrap (IntKind.u64.wrap 4611686018427387904 - 1) = 4611686018427387903 := by
    rw [IntKind.wrap_u64, IntKind.wrap_u64]
    decide
  go_enter Tryd.func40, Tryd.ntmps40
  go_wp2
  go_loop [12, 13, 101] (fun vu vn vi => ∃ (k : Nat) (a : Int), vu = .bool false ∧ vn = .int .u64 a ∧ vi = .int .i64 k ∧ k ≤ t.size ∧ Hid (0 ≤ a ∧ a < 4611686018427387904 ∧ Upto bs a k))
    (fun _ _ vi => t.size - (intOf vi).toNat)
  case atStart => exact ⟨0, 0, rfl, rfl, rfl, by omega, by omega, by omega, upto_zero bs⟩
  case round =>
    obtain ⟨k, a, rfl, rfl, rfl, hk, hh⟩ := hrel
    obtain ⟨a0, a1, hup⟩ := hh.out
    clear hh
    by_cases hkn : k < t.size
    · have hc := hB k hkn
      have hget : bs.getD k 0 = bs[k]'(by omega) := by simp [List.getD, List.getElem?_eq_getElem (show k < bs.length by omega)]
      rw [hget] at hc
      obtain ⟨c, hcc⟩ : ∃ c, c = bs[k]'(by omega) := ⟨_, rfl⟩
      rw [← hcc] at hc
      have hc256 : c.toNat < 256 := c.toNat_lt
      have HN := Lib.hid (upto_none (c := c) hup (by omega) hcc.symm)
      have HX := Lib.hid (fun d => upto_next (c := c) (d := d) hup (by omega) hcc.symm)
      clear hB hget hup hcc
      by_cases hdig : 48 ≤ c.toNat ∧ c.toNat ≤ 57
      · obtain ⟨hd0, hd1⟩ := hdig
        by_cases hcut : 1152921504606846976 ≤ a
        · have HZ := Lib.hid (HN.out (.inl ⟨hd0, hd1, by omega⟩))
          go_wp2
          go_ret2
          exact ⟨(HP.out _).2 ⟨_, _, rfl, by omega, by omega, .inr ⟨⟨1, .inl rfl, rfl⟩, HZ.out⟩⟩, HBW.out⟩
        · have icut : a < 1152921504606846976 := by omega
          by_cases hov : 4611686018427387904 ≤ a * 16 + ((c.toNat : Int) - 48)
          · have HZ := Lib.hid (HN.out (.inl ⟨hd0, hd1, hov⟩))
            clear hcut
            go_wp2
            go_ret2
            exact ⟨(HP.out _).2 ⟨_, _, rfl, by omega, by omega, .inr ⟨⟨1, .inl rfl, rfl⟩, HZ.out⟩⟩, HBW.out⟩
          · have iov : a * 16 + ((c.toNat : Int) - 48) < 4611686018427387904 := by omega
            have HZ := Lib.hid (HX.out _ (.inl ⟨hd1, rfl⟩))
            clear hcut hov
            go_wp2
            refine ⟨⟨k + 1, a * 16 + ((c.toNat : Int) - 48), rfl, (by first | rfl | (congr 1; omega)), (by first | rfl | (congr 1; omega)), by omega, Lib.hid ⟨by omega, by omega, HZ.out⟩⟩, by simp [intOf]; omega⟩
      · by_cases h95 : c.toNat = 95
        · have HZ := Lib.hid (HN.out (by omega))
          rw [h95] at hc
          have hlow : ∀ w, Calls Tryd.prog 58 #[.int .u8 95] w fun e w' => e = .returned (.int .u8 127) ∧ w = w' := fun w => lower_any 95 w
          go_wp2_with (go_at_call 58; refine (hlow _).mono ?_; rintro e w' ⟨rfl, rfl⟩)
          go_ret2
          exact ⟨(HP.out _).2 ⟨_, _, rfl, by omega, by omega, .inr ⟨⟨2, .inr rfl, rfl⟩, HZ.out⟩⟩, HBW.out⟩
        · obtain ⟨v, hv⟩ : ∃ v, v = bits BinOp.or IntKind.u8 (c.toNat : Int) 32 := ⟨_, rfl⟩
          have hlow := lower_any (c.toNat : Int)
          rw [← hv] at hlow
          have hv0 := bits_lo_u8 .or (c.toNat : Int) 32
          have hv1 := bits_hi_u8 .or (c.toNat : Int) 32
          rw [← hv] at hv0 hv1
          have HV : 97 ≤ c.toNat → c.toNat ≤ 102 → v = c.toNat := fun g1 g2 => hv.trans (or32 _ g1 g2)
          clear hv
          have h95i : ¬ ((c.toNat : Int) = 95) := by omega
          by_cases hlet : 97 ≤ v ∧ v ≤ 102
          · obtain ⟨l0, l1⟩ := hlet
            have HD := Lib.hid (HX.out (v - 87) (by
              by_cases g : 97 ≤ c.toNat ∧ c.toNat ≤ 102
              · exact .inr (.inl ⟨g.1, by rw [HV g.1 g.2]⟩)
              · omega))
            have HE := Lib.hid (show 4611686018427387904 ≤ a * 16 + (v - 87) → ∀ n, n < 4611686018427387904 → bs ≠ hexK 16 n from fun hov => by
              by_cases g : 97 ≤ c.toNat ∧ c.toNat ≤ 102
              · exact HN.out (.inr (.inl ⟨g.1, g.2, by rw [← HV g.1 g.2]; exact hov⟩))
              · exact HN.out (by omega))
            clear HV HN HX
            have l2 : v ≤ 122 := by omega
            have l3 : v - 97 + 10 < 16 := by omega
            by_cases hcut : 1152921504606846976 ≤ a
            · have HZ := Lib.hid (HE.out (by omega))
              go_wp2_with (go_at_call 58; refine (hlow _).mono ?_; rintro e w' ⟨rfl, rfl⟩)
              all_goals go_ret2
              all_goals exact ⟨(HP.out _).2 ⟨_, _, rfl, by omega, by omega, .inr ⟨⟨1, .inl rfl, rfl⟩, HZ.out⟩⟩, HBW.out⟩
            · have icut : a < 1152921504606846976 := by omega
              by_cases hov : 4611686018427387904 ≤ a * 16 + (v - 87)
              · have HZ := Lib.hid (HE.out hov)
                have hov2 : 4611686018427387904 ≤ a * 16 + (v - 97 + 10) := by omega
                clear hcut hov
                go_wp2_with (go_at_call 58; refine (hlow _).mono ?_; rintro e w' ⟨rfl, rfl⟩)
                all_goals go_ret2
                all_goals exact ⟨(HP.out _).2 ⟨_, _, rfl, by omega, by omega, .inr ⟨⟨1, .inl rfl, rfl⟩, HZ.out⟩⟩, HBW.out⟩
              · have iov : a * 16 + (v - 97 + 10) < 4611686018427387904 := by omega
                clear hcut hov
                go_wp2_with (go_at_call 58; refine (hlow _).mono ?_; rintro e w' ⟨rfl, rfl⟩)
                all_goals refine ⟨⟨k + 1, a * 16 + (v - 87), rfl, (by congr 1; omega), (by first | rfl | (congr 1; omega)), by omega, Lib.hid ⟨by omega, by omega, HD.out⟩⟩, by simp [intOf]; omega⟩
          · have hcc : ¬ (97 ≤ c.toNat ∧ c.toNat ≤ 102) := fun g => by have := HV g.1 g.2; omega
            have HZ := Lib.hid (HN.out (by omega))
            clear HV
            by_cases g1 : v < 97
            · go_wp2_with (go_at_call 58; refine (hlow _).mono ?_; rintro e w' ⟨rfl, rfl⟩)
              all_goals go_ret2
              all_goals exact ⟨(HP.out _).2 ⟨_, _, rfl, by omega, by omega, .inr ⟨⟨2, .inr rfl, rfl⟩, HZ.out⟩⟩, HBW.out⟩
            · by_cases g2 : 122 < v
              · go_wp2_with (go_at_call 58; refine (hlow _).mono ?_; rintro e w' ⟨rfl, rfl⟩)
                all_goals go_ret2
                all_goals exact ⟨(HP.out _).2 ⟨_, _, rfl, by omega, by omega, .inr ⟨⟨2, .inr rfl, rfl⟩, HZ.out⟩⟩, HBW.out⟩
              · have g3 : 103 ≤ v := by omega
                have g4 : v ≤ 122 := by omega
                have g5 : 97 ≤ v := by omega
                go_wp2_with (go_at_call 58; refine (hlow _).mono ?_; rintro e w' ⟨rfl, rfl⟩)
                all_goals go_ret2
                all_goals exact ⟨(HP.out _).2 ⟨_, _, rfl, by omega, by omega, .inr ⟨⟨2, .inr rfl, rfl⟩, HZ.out⟩⟩, HBW.out⟩
    · have hkk : k = bs.length := by omega
      have HZ := Lib.hid (fun n hn e => upto_end (n := n) hup hkk hn e)
      clear hup
      go_wp2
      go_ret2
      exact ⟨(HP.out _).2 ⟨_, _, rfl, by omega, by omega, .inl ⟨rfl, HZ.out⟩⟩, HBW.out⟩
end Go.Proofs.YtkpfmpndaenclaaDoor

