/- What the laws of layer 2 draw: any element. -/
import Derived.Test.YtkpfmpndaenclaaDrG5
namespace Go.Proofs.Ytkpfmpndaenclaa
open Go.RowKit

def AnyElPost (w : World) (g k : Nat) (e : Ending) (w' : World) : Prop :=
  ∃ x : Int, e = .returned (.int .i64 x) ∧ (-8 ≤ x ∧ x ≤ 2000000000) ∧ Cur w' g k ∧ w.grownBy w' (some g)

set_option maxHeartbeats 1000000 in
theorem anyElement_any (g k : Nat) (hk : k ≤ 900000000) (P Q G : Int) (p0 : -7 ≤ P) (p1 : P ≤ 2000000000) (q0 : -1 ≤ Q) (q1 : Q ≤ 2000000000) (g0 : -1 ≤ G) (g1 : G ≤ 2000000001) (w : World) (hc : Cur w g k) :
    Calls Try.prog 54 #[.pointer (some ⟨g, 0, none⟩), gv P Q G] w (AnyElPost w g (k + 8)) := by
  have hgl := hc.lt
  have hal := ba w (.cells #[.int .i64 P, .int .i64 Q, .int .i64 G] 24)
  have HC := Lib.hid (hc.below hal)
  have HG := Lib.hid (grown_below hal (some g))
  have HR := Lib.hid (gr_new w P Q G 24)
  have hne : w.heap.size ≠ g := by omega
  clear hc hal
  have hw3 : IntKind.i64.wrap (P - 1) = P - 1 := by rw [IntKind.wrap_i64]; omega
  obtain ⟨b0, b1, b2⟩ := HR.out
  go_enter Try.func54, Try.ntmps54
  go_wp2_with fail
  refine (one_any g k 20 (by omega) (by omega) _ HC.out).mono ?_
  rintro e w1 ⟨b, rfl, hc1, hg1⟩
  have HC1 := Lib.hid hc1
  have HG1 := Lib.hid (grown_trans HG.out hg1)
  have HR1 := Lib.hid (HR.out.grown hg1 hne)
  clear hc1 hg1 b0 b1 b2
  obtain ⟨c0, c1, c2⟩ := HR1.out
  cases b
  · go_wp2_with fail
    refine (element_any g _ (by omega) P Q G p0 p1 q0 q1 g0 g1 _ HC1.out).mono ?_
    rintro e w2 ⟨x, rfl, hx, hc2, hg2⟩
    have HC2 := Lib.hid hc2
    have HG2 := Lib.hid (grown_trans HG1.out hg2)
    clear hc2 hg2
    go_wp2
    go_ret
    exact ⟨x, rfl, ⟨by omega, hx.2⟩, HC2.out.mono (by omega), HG2.out⟩
  · go_wp2_with fail
    have hal2 := ba w1 (.cells #[.int .i64 0, .int .i64 1, .int .i64 (P - 1), .int .i64 P, .int .i64 (-1), .int .i64 5] 3)
    refine (among_any g _ _ _ _ [0, 1, P - 1, P, -1, 5] (by omega) rfl (by simp) (by simp) (by rintro a ⟨⟩; have := HC1.out.lt; simp; omega) _ (ints_lit w1 [0, 1, P - 1, P, -1, 5] 3) (HC1.out.below hal2)).mono ?_
    rintro e w3 ⟨q, rfl, hm, hc4, hg4⟩
    have hq : -8 ≤ q ∧ q ≤ 2000000000 := by
      simp at hm
      omega
    have HC4 := Lib.hid hc4
    have HG4 := Lib.hid (grown_trans HG1.out (grown_trans (grown_below hal2 (some g)) hg4))
    clear hc4 hg4 hal2 hm
    go_wp2
    go_ret
    exact ⟨q, rfl, hq, HC4.out.mono (by omega), HG4.out⟩

end Go.Proofs.Ytkpfmpndaenclaa
