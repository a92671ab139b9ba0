/- What the law FnPrimes draws. -/
import Derived.Test.YtdeedblemcfllaaDraw
namespace Go.Proofs.Ytdeedblemcfllaa
open Go.RowKit

def DrawOne (w : World) (e : Ending) (w' : World) : Prop :=
  ∃ x : Int, e = .returned (.int .i64 x) ∧ (-1 ≤ x ∧ x ≤ 2000000011) ∧ Below w.heap.size w w'

def primesDrawn : List Int := [2, 3, 5, 7, 11, 13, 23, 47, 101, 2039, 65537, 1000000007, 1999999973, 1, 9, 0, 2000000011]

set_option maxHeartbeats 1600000 in
theorem prime_any (g k : Nat) (hk : k ≤ 10000000000) (w : World) (hc : Cur w g k) :
    Calls Try.prog 103 #[.pointer (some ⟨g, 0, none⟩)] w fun e w' => ∃ x : Int, e = .returned (.int .i64 x) ∧ (-1 ≤ x ∧ x ≤ 2000000011) ∧ w.grownBy w' (some g) := by
  have HC := Lib.hid hc
  clear hc
  go_enter Try.func103, Try.ntmps103
  go_wp2_with fail
  have hb2 := (Below.refl w.heap.size w).alloc (Nat.le_refl _) (.cells (primesDrawn.map (Value.int .i64)).toArray 3)
  refine (among_any g _ _ _ _ primesDrawn (by omega) rfl (by decide) (by decide) (by rintro a ⟨⟩; have := HC.out.lt; simp; omega) _ (ints_lit w primesDrawn 3) (HC.out.below hb2)).mono ?_
  rintro e wx ⟨x3, rfl, hx3, _, hgx⟩
  have hx30 : -1 ≤ x3 ∧ x3 ≤ 2000000011 := by simp [primesDrawn] at hx3; omega
  have HX := Lib.hid hx30
  have HGx := Lib.hid (grown_trans (grown_below hb2 _) hgx)
  clear hgx hx3 hb2 hx30
  go_wp2
  go_ret
  exact ⟨_, rfl, HX.out, HGx.out⟩

set_option maxHeartbeats 1600000 in
theorem drawIsPrime_any (ad : Option Addr) (n cap : Nat) (w : World) (hb : IsB w ad n) :
    Calls Try.prog 70 #[.slice ad n cap] w (DrawOne w) := by
  have HC := Lib.hid (cur_new w ad n cap hb 74)
  have HB := Lib.hid ((Below.refl w.heap.size w).alloc (Nat.le_refl _) (.cells #[.slice ad n cap, .int .i64 0, .int .u64 0] 74))
  clear hb
  go_enter Try.func70, Try.ntmps70
  go_wp2_with fail
  refine (one_any w.heap.size 0 _ (by omega) (by omega) _ HC.out).mono ?_
  rintro e w1 ⟨b, rfl, hc1, hg1⟩
  have HC1 := Lib.hid hc1
  have HB1 := Lib.hid (below_cur HB.out hg1)
  clear hg1 hc1
  cases b
  · go_wp2_with fail
    refine (pick_any w.heap.size _ _ (by omega) (by omega) _ HC1.out).mono ?_
    rintro e w2 ⟨x, rfl, hx, hc2, hg2⟩
    have hx0 : 0 ≤ x := hx.1
    have hx1 : x ≤ 299 := by omega
    have HC2 := Lib.hid hc2
    have HB2 := Lib.hid (below_cur HB1.out hg2)
    clear hg2 hc2 hx
    go_wp2_with fail
    refine (pick_any w.heap.size _ _ (by omega) (by omega) _ HC2.out).mono ?_
    rintro e w3 ⟨y, rfl, hy, _, hg3⟩
    have hy0 : 0 ≤ y := hy.1
    have hy1 : y ≤ 19 := by omega
    have HB3 := Lib.hid (below_cur HB2.out hg3)
    clear hg3 hy
    go_wp2
    go_ret
    exact ⟨_, rfl, by omega, HB3.out⟩
  · go_wp2_with fail
    refine (prime_any w.heap.size _ (by omega) _ HC1.out).mono ?_
    rintro e w2 ⟨x, rfl, hx, hg2⟩
    have HX := Lib.hid hx
    have HB2 := Lib.hid (below_cur HB1.out hg2)
    clear hg2 hx
    go_wp2
    go_ret
    exact ⟨_, rfl, HX.out, HB2.out⟩

theorem drawPrimitiveRoot_any (ad : Option Addr) (n cap : Nat) (w : World) (hb : IsB w ad n) :
    Calls Try.prog 23 #[.slice ad n cap] w (DrawOne w) := by
  have HBy := Lib.hid hb
  clear hb
  go_enter Try.func23, Try.ntmps23
  go_wp2_with fail
  refine (drawIsPrime_any ad n cap _ HBy.out).mono ?_
  rintro e w1 ⟨x, rfl, hx, hb1⟩
  have HX := Lib.hid hx
  have HB1 := Lib.hid hb1
  clear hx hb1
  go_wp2
  go_ret
  exact ⟨_, rfl, HX.out, HB1.out⟩

def factorsDrawn : List Int := [0, -1, 2000000000, 2000000001, 1999999973, 1073741824]

set_option maxHeartbeats 1600000 in
theorem drawFactorOf_any (ad : Option Addr) (n cap : Nat) (w : World) (hb : IsB w ad n) :
    Calls Try.prog 20 #[.slice ad n cap] w (DrawOne w) := by
  have HC := Lib.hid (cur_new w ad n cap hb 74)
  have HB := Lib.hid ((Below.refl w.heap.size w).alloc (Nat.le_refl _) (.cells #[.slice ad n cap, .int .i64 0, .int .u64 0] 74))
  clear hb
  go_enter Try.func20, Try.ntmps20
  go_wp2_with fail
  refine (one_any w.heap.size 0 _ (by omega) (by omega) _ HC.out).mono ?_
  rintro e w1 ⟨b, rfl, hc1, hg1⟩
  have HC1 := Lib.hid hc1
  have HB1 := Lib.hid (below_cur HB.out hg1)
  clear hg1 hc1
  cases b
  · go_wp2_with fail
    refine (pick_any w.heap.size _ _ (by omega) (by omega) _ HC1.out).mono ?_
    rintro e w2 ⟨x, rfl, hx, _, hg2⟩
    have hx0 : 0 ≤ x := hx.1
    have hx1 : x ≤ 59999 := by omega
    have HB2 := Lib.hid (below_cur HB1.out hg2)
    clear hg2 hx
    go_wp2
    go_ret
    exact ⟨_, rfl, by omega, HB2.out⟩
  · go_wp2_with fail
    have hb2 := (Below.refl w1.heap.size w1).alloc (Nat.le_refl _) (.cells (factorsDrawn.map (Value.int .i64)).toArray 3)
    refine (among_any w.heap.size _ _ _ _ factorsDrawn (by omega) rfl (by decide) (by decide) (by rintro a ⟨⟩; have := HC1.out.lt; simp; omega) _ (ints_lit w1 factorsDrawn 3) (HC1.out.below hb2)).mono ?_
    rintro e wx ⟨x3, rfl, hx3, _, hgx⟩
    have hx30 : -1 ≤ x3 ∧ x3 ≤ 2000000011 := by simp [factorsDrawn] at hx3; omega
    have HX := Lib.hid hx30
    have HB2 := Lib.hid (below_cur HB1.out (grown_trans (grown_below hb2 _) hgx))
    clear hgx hx3 hb2 hx30
    go_wp2
    go_ret
    exact ⟨_, rfl, HX.out, HB2.out⟩

end Go.Proofs.Ytdeedblemcfllaa

