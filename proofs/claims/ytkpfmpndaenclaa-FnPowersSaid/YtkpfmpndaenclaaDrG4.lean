/- What the laws of layer 2 draw: exponents and elements. -/
import Derived.Test.YtkpfmpndaenclaaDrG3
namespace Go.Proofs.Ytkpfmpndaenclaa
open Go.RowKit

theorem nMod_pos (a m : Int) (h0 : 0 ≤ a) (h2 : 2 ≤ m) (h3 : m ≤ 2000000000) (w : World) :
    Calls Try.prog 111 #[.int .i64 a, .int .i64 m] w fun e w' => e = .returned (.int .i64 (a % m)) ∧ w = w' := by
  have b0 : 0 ≤ a % m := Int.emod_nonneg _ (by omega)
  have b1 : a % m < m := Int.emod_lt_of_pos _ (by omega)
  have e0 : a.tmod m = a % m := Int.tmod_eq_emod_of_nonneg h0
  have e2 : (a % m + m) % m = a % m := by rw [Int.add_emod_right]; exact Int.emod_eq_of_lt b0 b1
  have e3 : (a % m + m).tmod m = a % m := by rw [Int.tmod_eq_emod_of_nonneg (by omega)]; exact e2
  generalize hr : a % m = r at *
  go_enter Try.func111, Try.ntmps111
  go_wp2
  go_ret
  exact ⟨rfl, rfl⟩

/-- What is drawn of a number between 0 and n. -/
def NumPost (w : World) (g k : Nat) (n : Int) (e : Ending) (w' : World) : Prop :=
  ∃ x : Int, e = .returned (.int .i64 x) ∧ (0 ≤ x ∧ (x < n ∨ (n < 2 ∧ x = 0))) ∧ Cur w' g k ∧ w.grownBy w' (some g)

set_option maxHeartbeats 1000000 in
theorem expo_any (g k : Nat) (hk : k ≤ 1000000000) (P Q G : Int) (q0 : -1 ≤ Q) (q1 : Q ≤ 2000000000) (w : World) (hc : Cur w g k) :
    Calls Try.prog 114 #[.pointer (some ⟨g, 0, none⟩), gv P Q G] w (NumPost w g (k + 4) Q) := by
  have hgl := hc.lt
  have hal := ba w (.cells #[.int .i64 P, .int .i64 Q, .int .i64 G] 24)
  have HC := Lib.hid (hc.below hal)
  have HG := Lib.hid (grown_below hal (some g))
  have HC0 := Lib.hid hc
  obtain ⟨c0, c1, c2⟩ := gr_new w P Q G 24
  clear hc hal
  by_cases hq : Q < 2
  · have hqd : decide (Q < 2) = true := by simp [hq]
    go_enter Try.func114, Try.ntmps114
    go_wp2
    go_ret
    exact ⟨0, rfl, ⟨by omega, .inr ⟨hq, rfl⟩⟩, HC.out.mono (by omega), HG.out⟩
  · have hqd : decide (Q < 2) = false := by simp [hq]
    have hqn : Q ≠ 0 := by omega
    go_enter Try.func114, Try.ntmps114
    have HR := Lib.hid (show GR (w.alloc (.cells #[.int .i64 P, .int .i64 Q, .int .i64 G] 24)) w.heap.size P Q G from ⟨c0, c1, c2⟩)
    have hne : w.heap.size ≠ g := by omega
    go_wp2_with fail
    go_region_with (first
      | (go_at_call 61; refine (pick_any g (k + 2) 60000 (by omega) (by omega) _ (by first | exact HC4.out | exact HC4.out.drew)).mono ?_; rintro e w5 ⟨z, rfl, hz, hc5, hg5⟩; have hz0 : 0 ≤ z := hz.1; have hz1 : z ≤ 59999 := (by omega); have hs : IntKind.i64.wrap (y * 60000 + z) = y * 60000 + z := (by rw [IntKind.wrap_i64]; omega); have HM := Lib.hid (show (y * 60000 + z).tmod Q = (y * 60000 + z) % Q from Int.tmod_eq_emod_of_nonneg (by omega)); have hnn : 0 ≤ y * 60000 + z := (by omega); have HG5 := Lib.hid (show w.grownBy w5 (some g) from by first | exact grown_trans HG4.out hg5 | exact grown_trans HG4.out (grown_trans (grown_drew _ _) hg5)); have HR5 := Lib.hid (show GR w5 w.heap.size P Q G from (by first | exact HR4.out.grown hg5 hne | exact HR4.out.grown (grown_trans (grown_drew _ _) hg5) hne)); obtain ⟨e0, e1, e2⟩ := HR5.out; have HC5 := Lib.hid hc5)
      | (go_at_call 61; refine (pick_any g k 60000 (by omega) (by omega) _ (by first | exact HC.out | exact HC.out.drew)).mono ?_; rintro e w4 ⟨y, rfl, hy, hc4, hg4⟩; have hy0 : 0 ≤ y := hy.1; have hy1 : y ≤ 59999 := (by omega); have hp : IntKind.i64.wrap (y * 60000) = y * 60000 := (by rw [IntKind.wrap_i64]; omega); have HG4 := Lib.hid (show w.grownBy w4 (some g) from by first | exact grown_trans HG.out hg4 | exact grown_trans HG.out (grown_trans (grown_drew _ _) hg4)); have HR4 := Lib.hid (show GR w4 w.heap.size P Q G from (by first | exact HR.out.grown hg4 hne | exact HR.out.grown (grown_trans (grown_drew _ _) hg4) hne)); obtain ⟨d0, d1, d2⟩ := HR4.out; have HC4 := Lib.hid hc4))
    all_goals (
      rename_i K ha
      refine ha _ _ ?_
      clear ha
      have hm0 : 0 ≤ (y * 60000 + z) % Q := Int.emod_nonneg _ hqn
      have hm1 : (y * 60000 + z) % Q < Q := Int.emod_lt_of_pos _ (by omega)
      go_wp2
      go_ret
      exact ⟨_, rfl, ⟨by (try rw [HM.out]); exact hm0, .inl (by (try rw [HM.out]); exact hm1)⟩, HC5.out.mono (by omega), HG5.out⟩)

end Go.Proofs.Ytkpfmpndaenclaa

