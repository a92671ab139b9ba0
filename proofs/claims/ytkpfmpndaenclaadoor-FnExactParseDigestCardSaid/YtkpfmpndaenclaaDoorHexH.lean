/- ParseDigest of the program. -/
import Derived.Test.YtkpfmpndaenclaaDoorHexG
namespace Go.Proofs.YtkpfmpndaenclaaDoor
open Go.RowKit

theorem parseUint_16 (t : ByteArray) (hmax : t.size ≤ 281474976710656) (w : World) (h : ErrAt w) :
    Calls Tryd.prog 23 #[.string t, .int .i64 16, .int .i64 62] w fun e w' =>
      (∃ (x : Int) (er : Value), e = .returned (.tuple #[.int .u64 x, er]) ∧ 0 ≤ x ∧ x < 4611686018427387904 ∧ ((er = .nilIface ∧ ∀ n, n < 4611686018427387904 → t.data.toList = hexK 16 n → x = (n : Int)) ∨ ((∃ ty v, er = .iface ty v) ∧ ∀ n, n < 4611686018427387904 → t.data.toList ≠ hexK 16 n))) ∧ Below w.heap.size w w' := by
  go_enter Tryd.func23, Tryd.ntmps23
  go_wp2_with fail
  refine (iParseUint_16 t hmax _).mono ?_
  rintro e w1 ⟨⟨x, er, rfl, x0, x1, hr⟩, hb1⟩
  have HB1 := Lib.hid hb1
  clear hb1
  rcases hr with ⟨rfl, hr⟩ | ⟨⟨i, hi, rfl⟩, hr⟩
  · have HR := Lib.hid hr
    clear hr
    go_wp2
    go_ret2
    exact ⟨⟨x, _, rfl, x0, x1, .inl ⟨rfl, HR.out⟩⟩, HB1.out⟩
  · have HR := Lib.hid hr
    clear hr
    go_wp2_with fail
    refine (toError_any _ t 16 62 i hi _ hmax (h.below HB1.out)).mono ?_
    rintro e w2 ⟨⟨ty, v, rfl⟩, hb2⟩
    have HB2 := Lib.hid (bt HB1.out hb2)
    clear hb2
    go_wp2
    go_ret2
    exact ⟨⟨x, _, rfl, x0, x1, .inr ⟨⟨_, _, rfl⟩, HR.out⟩⟩, HB2.out⟩

set_option maxRecDepth 100000 in
theorem parseDigest_any (t : ByteArray) (hmax : t.size ≤ 281474976710656) (w : World) (h : ErrAt w) (hT : TzAt w) :
    Calls Tryd.prog 9 #[.string t] w fun e w' => e = .returned (.tuple #[.int .i64 (pdV t), .bool (pdB t)]) ∧ Below w.heap.size w w' := by
  go_enter Tryd.func9, Tryd.ntmps9
  go_wp2_with fail
  refine (parseUint_16 t hmax _ h).mono ?_
  rintro e w1 ⟨⟨x, er, rfl, x0, x1, hr⟩, hb1⟩
  have HB1 := Lib.hid hb1
  clear hb1
  rcases hr with ⟨rfl, hr⟩ | ⟨⟨ty, v, rfl⟩, hr⟩
  · obtain ⟨n, rfl⟩ : ∃ n : Nat, x = n := ⟨x.toNat, by omega⟩
    have hn : n < 4611686018427387904 := by omega
    by_cases hs : t.data.toList = hexK 16 n
    · have hst := hexS_list hs
      obtain ⟨p1, p2, p3⟩ := pd_yes hn hs
      have P1 := Lib.hid p1
      have P3 := Lib.hid p3
      clear p1 p2 p3 hs hr
      subst hst
      go_wp2_with fail
      refine (textOfDigest_any n hn _ (hT.below HB1.out)).mono ?_
      rintro e w2 ⟨rfl, hb2⟩
      have HB2 := Lib.hid (bt HB1.out hb2)
      clear hb2
      go_wp2
      go_ret2
      exact ⟨by rw [P1.out, P3.out]; rfl, HB2.out⟩
    · have hno : ∀ m, m < 4611686018427387904 → t.data.toList ≠ hexK 16 m := fun m hm e => by
        have := hr m hm e
        obtain rfl : n = m := by omega
        exact hs e
      obtain ⟨p1, p2⟩ := pd_no hno
      have P1 := Lib.hid p1
      have P2 := Lib.hid p2
      have hne : ((hexS 16 n).toList == t.toList) = false := by
        rw [show (hexS 16 n).toList = hexK 16 n from by unfold hexS; simp, Lib.toList_data]
        exact beq_eq_false_iff_ne.2 (fun e => hs e.symm)
      clear hs hr p1 p2 hno
      have hc := textOfDigest_any n hn _ (hT.below HB1.out)
      generalize hexS 16 n = q at hc hne
      go_wp2_with fail
      refine hc.mono ?_
      rintro e w2 ⟨rfl, hb2⟩
      have HB2 := Lib.hid (bt HB1.out hb2)
      clear hb2
      go_wp2
      go_ret2
      exact ⟨by rw [P1.out, P2.out]; rfl, HB2.out⟩
  · obtain ⟨p1, p2⟩ := pd_no hr
    have P1 := Lib.hid p1
    have P2 := Lib.hid p2
    clear hr p1 p2
    go_wp2
    go_ret2
    exact ⟨by rw [P1.out, P2.out]; rfl, HB1.out⟩
end Go.Proofs.YtkpfmpndaenclaaDoor

