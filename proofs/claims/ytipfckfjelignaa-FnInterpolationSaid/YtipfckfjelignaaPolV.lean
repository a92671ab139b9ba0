/- Polynomials are drawn. -/
import Derived.Test.YtipfckfjelignaaPolW
namespace Go.Proofs.Ytipfckfjelignaa
open Go.RowKit

set_option maxHeartbeats 3200000 in
theorem residuesQ_any (g k : Nat) (m : Int) (most : Nat) (hk : k ≤ 1000000000) (hm : most ≤ 200) (hm0 : -5 ≤ m) (hm1 : m ≤ 2000000011) (w : World) (hc : Cur w g k) :
    Calls Try.prog 113 #[.pointer (some ⟨g, 0, none⟩), .int .i64 m, .int .i64 most] w (ResPost w g (k + 2 * most + 6) most) := by
  have HC := Lib.hid hc
  have hgl := hc.lt
  obtain ⟨i0, hi, hz0, hz1, hz2⟩ := info_parts Try.info3
  clear hc
  go_enter Try.func113, Try.ntmps113
  go_wp2_with fail
  refine (pick_any g k _ (by omega) (by omega) _ HC.out).mono ?_
  rintro e w1 ⟨x1, rfl, hx1, hc1, hg1⟩
  have hx10 : 0 ≤ x1 := hx1.1
  have hx11 : x1 ≤ (most : Int) := by omega
  obtain ⟨j1, rfl⟩ := Int.eq_ofNat_of_zero_le hx10
  have HC1 := Lib.hid hc1
  have HG1 := Lib.hid hg1
  clear hc1 hg1 hx1
  go_wp2
  go_loopw [7, 8] (fun V K wr => ∃ (j n : Nat) (va : Option Addr) (vc : Nat) (zs : List Int), (j ≤ most ∧ n + j ≤ most) ∧ K = .int .i64 j ∧ V = .slice va n vc ∧ wr.ownsRow w.heap.size 3 1 (.slice va n vc) n (zs.map (Value.int .i64)) ∧ Cur wr g (k + 2 + 2 * (most - j)) ∧ w.grownBy wr (some g)) (fun _ K _ => (intOf K).toNat)
  case atStart => exact ⟨j1, 0, none, 0, [], by omega, rfl, rfl, World.ownsRow_nil _ _ _ _, HC1.out.mono (by omega), HG1.out⟩
  case round =>
    obtain ⟨j, n, va, vc, zs, ⟨hj0, hj1⟩, rfl, rfl, hown, hcr, hgr⟩ := hrel
    have HO := Lib.hid hown
    have HCr := Lib.hid hcr
    have HGr := Lib.hid hgr
    clear hown hcr hgr
    by_cases hj : 0 < j
    · have hji : (0 : Int) < (j : Int) := by omega
      go_wp2_with fail
      refine (l1Least_any _ _ _).mono ?_
      rintro e w' ⟨rfl, rfl⟩
      go_wp2_with fail
      refine (l1Most_any _ _ _).mono ?_
      rintro e w' ⟨rfl, rfl⟩
      go_wp2_with fail
      refine (pick_any g _ _ (by omega) (by omega) _ HCr.out).mono ?_
      rintro e w2 ⟨x, rfl, _, hc2, hg2⟩
      have HO2 := Lib.hid (own_cur HO.out hg2 hgl)
      have HC2 := Lib.hid hc2
      have HG2 := Lib.hid (grown_trans HGr.out hg2)
      clear hc2 hg2
      go_wp2_with (at_builtin; refine wpList_append_own _ rfl _ _ 27 rfl w.heap.size 3 i0 (.int .i64 0) 1 8 Try.underlying27 hi hz0 hz1 hz2 rfl (by decide) _ _ _ rfl (HO2.out.alloc _) ⟨w2.heap.size, 0, none⟩ 1 1 [.int .i64 x] rfl rfl (cell_one_new _ _ _) (ints_oneCell .i64 [x]) (by unfold maxLen; omega) (by omega) ?_ ?_)
      · have := HG2.out.size; simp; omega
      · intro v' w3 hown' hgrow _
        obtain ⟨va', vc', rfl⟩ := own_shape hown'
        have HO3 := Lib.hid hown'
        have hr : ∀ q, (Value.slice va n vc).ownBlock = some q → w.heap.size ≤ q := fun q hq => (HO2.out.lt q hq).1
        have hal := (Below.refl w2.heap.size w2).alloc (Nat.le_refl _) (.cells #[.int .i64 x] 3)
        have HC3 := Lib.hid ((HC2.out.below hal).above hgrow hgl hr)
        have HG3 := Lib.hid (grown_own (grown_trans HG2.out (grown_below hal _)) hgrow hr)
        clear hown' hgrow hr hal
        go_wp2
        go_roundw
        case rel => exact ⟨j - 1, n + 1, va', vc', zs ++ [x], by omega, by rw [show ((j - 1 : Nat) : Int) = (j : Int) - 1 by omega], rfl, by rw [List.map_append]; exact HO3.out, HC3.out.mono (by omega), HG3.out⟩
        case measure => simp only [intOf]; omega
    · have hji : (j : Int) ≤ 0 := by omega
      go_wp2_with fail
      refine (one_any g _ _ (by omega) (by omega) _ HCr.out).mono ?_
      rintro e w2 ⟨b, rfl, hc2, hg2⟩
      have HO2 := Lib.hid (own_cur HO.out hg2 hgl)
      have HC2 := Lib.hid hc2
      have HG2 := Lib.hid (grown_trans HGr.out hg2)
      clear hc2 hg2
      cases b
      · go_wp2
        go_ret
        exact ⟨va, n, vc, zs, rfl, HO2.out, by omega, HC2.out.mono (by omega), HG2.out⟩
      · go_wp2_with fail
        have hal := (Below.refl w2.heap.size w2).alloc (Nat.le_refl _) (.cells #[.int .i64 (-1), .int .i64 m] 3)
        refine (among_any g _ _ _ _ [-1, m] (by omega) rfl (by simp) (by simp) (by rintro a ⟨⟩; have := HC2.out.lt; simp; omega) _ (ints_lit w2 [-1, m] 3) (HC2.out.below hal)).mono ?_
        rintro e w4 ⟨x, rfl, _, hc4, hg4⟩
        have HO4 := Lib.hid (own_cur (own_below HO2.out hal) hg4 hgl)
        have HC4 := Lib.hid hc4
        have HG4 := Lib.hid (grown_trans HG2.out (grown_trans (grown_below hal _) hg4))
        clear hc4 hg4 hal
        go_wp2_with (at_builtin; refine wpList_append_own _ rfl _ _ 27 rfl w.heap.size 3 i0 (.int .i64 0) 1 8 Try.underlying27 hi hz0 hz1 hz2 rfl (by decide) _ _ _ rfl (HO4.out.alloc _) ⟨w4.heap.size, 0, none⟩ 1 1 [.int .i64 x] rfl rfl (cell_one_new _ _ _) (ints_oneCell .i64 [x]) (by unfold maxLen; omega) (by omega) ?_ ?_)
        · have := HG4.out.size; simp; omega
        · intro v' w3 hown' hgrow _
          obtain ⟨va', vc', rfl⟩ := own_shape hown'
          have HO3 := Lib.hid hown'
          have hr : ∀ q, (Value.slice va n vc).ownBlock = some q → w.heap.size ≤ q := fun q hq => (HO4.out.lt q hq).1
          have hal := (Below.refl w4.heap.size w4).alloc (Nat.le_refl _) (.cells #[.int .i64 x] 3)
          have HC3 := Lib.hid ((HC4.out.below hal).above hgrow hgl hr)
          have HG3 := Lib.hid (grown_own (grown_trans HG4.out (grown_below hal _)) hgrow hr)
          clear hown' hgrow hr hal
          go_wp2
          go_ret
          exact ⟨va', n + 1, vc', zs ++ [x], rfl, by rw [List.map_append]; exact HO3.out, by omega, HC3.out.mono (by omega), HG3.out⟩

def FieldPost (w : World) (g k : Nat) (e : Ending) (w' : World) : Prop :=
  ∃ q : Int, e = .returned (.int .i64 q) ∧ (1 ≤ q ∧ q ≤ 2000000011) ∧ Cur w' g k ∧ w.grownBy w' (some g)

set_option maxHeartbeats 1600000 in
theorem field_any (g k : Nat) (hk : k ≤ 10000000000) (w : World) (hc : Cur w g k) :
    Calls Try.prog 90 #[.pointer (some ⟨g, 0, none⟩)] w (FieldPost w g (k + 2)) := by
  have HC := Lib.hid hc
  have hb := ba w (.cells (([2, 3, 5, 7, 11, 11, 23, 101, 1019, 65537, 500000003, 1999999973, 9, 1, 2000000011] : List Int).map (Value.int .i64)).toArray 3)
  have HB := Lib.hid hb
  have HC1 := Lib.hid (hc.below hb)
  have HZ := Lib.hid (ints_lit w [2, 3, 5, 7, 11, 11, 23, 101, 1019, 65537, 500000003, 1999999973, 9, 1, 2000000011] 3)
  clear hc hb
  go_enter Try.func90, Try.ntmps90
  go_wp2_with fail
  refine (among_any g k _ _ _ [2, 3, 5, 7, 11, 11, 23, 101, 1019, 65537, 500000003, 1999999973, 9, 1, 2000000011] (by omega) rfl (by decide) (by decide) (by rintro a ⟨⟩; have := HC.out.lt; simp; omega) _ HZ.out HC1.out).mono ?_
  rintro e wx ⟨x, rfl, hx, hcx, hgx⟩
  have hxr : 1 ≤ x ∧ x ≤ 2000000011 := by simp at hx; omega
  have HX := Lib.hid hxr
  have HCx := Lib.hid hcx
  have HGx := Lib.hid (grown_trans (grown_below HB.out _) hgx)
  clear hcx hgx hx hxr
  go_wp2
  go_ret
  exact ⟨x, rfl, HX.out, HCx.out, HGx.out⟩

def PolyPost (w : World) (g k : Nat) (e : Ending) (w' : World) : Prop :=
  ∃ (ad : Option Addr) (n cap : Nat) (zs : List Int), e = .returned (.slice ad n cap) ∧ w'.ownsRow w.heap.size 3 1 (.slice ad n cap) n (zs.map (Value.int .i64)) ∧ n ≤ 25 ∧ Cur w' g k ∧ w.grownBy w' (some g)

set_option maxHeartbeats 1600000 in
theorem polynomial_any (g k : Nat) (q : Int) (most : Nat) (hk : k ≤ 100000000) (hm : most ≤ 20) (hm0 : -5 ≤ q) (hm1 : q ≤ 2000000011) (w : World) (hc : Cur w g k) :
    Calls Try.prog 135 #[.pointer (some ⟨g, 0, none⟩), .int .i64 q, .int .i64 most] w (PolyPost w g (k + 2 * most + 10)) := by
  have HC := Lib.hid hc
  have hgl := hc.lt
  obtain ⟨i0, hi, hz0, hz1, hz2⟩ := info_parts Try.info3
  have HZ2 := Lib.hid hz2
  clear hc hz2
  go_enter Try.func135, Try.ntmps135
  go_wp2_with fail
  refine (residuesQ_any g k q most (by omega) (by omega) hm0 hm1 _ HC.out).mono ?_
  rintro e w1 ⟨ad, n, cap, zs, rfl, hown, hn, hc1, hg1⟩
  have HO1 := Lib.hid hown
  have HC1 := Lib.hid hc1
  have HG1 := Lib.hid hg1
  clear hown hc1 hg1
  go_wp2_with fail
  refine (one_any g _ _ (by omega) (by omega) _ HC1.out).mono ?_
  rintro e w2 ⟨b, rfl, hc2, hg2⟩
  have HO2 := Lib.hid (own_cur HO1.out hg2 hgl)
  have HC2 := Lib.hid hc2
  have HG2 := Lib.hid (grown_trans HG1.out hg2)
  clear hc2 hg2
  cases b
  · go_wp2
    go_ret
    exact ⟨ad, n, cap, zs, rfl, HO2.out, by omega, HC2.out.mono (by omega), HG2.out⟩
  · go_wp2_with fail
    refine (pick_any g _ _ (by omega) (by omega) _ HC2.out).mono ?_
    rintro e w3 ⟨x, rfl, hx, hc3, hg3⟩
    have hx0 : 0 ≤ x := hx.1
    have hx1 : x ≤ 1 := by omega
    obtain ⟨j, rfl⟩ := Int.eq_ofNat_of_zero_le hx0
    have HC3 := Lib.hid hc3
    have HG3 := Lib.hid (grown_trans HG2.out hg3)
    clear hg3 hx hc3
    go_wp2_with (at_make; refine wpList_make_full _ rfl _ _ 27 rfl w3.heap.size 3 i0 (.int .i64 0) 1 Try.underlying27 hi hz0 hz1 .i64 .i64 _ _ (24 + j) rfl rfl (by simp) (by simp) (by rw [HZ2.out]; omega) (by unfold maxLen; omega) (Nat.le_refl _) ?_; intro w4 hown hgrow)
    go_ret
    exact ⟨_, 24 + j, 24 + j, List.replicate (24 + j) 0, rfl, own_base (made_zeros hown) HG3.out.size, by omega, (HC3.out.above hgrow (Nat.lt_of_lt_of_le hgl HG3.out.size) (by simp)).mono (by omega), grown_own HG3.out hgrow (by simp)⟩

/-- A drawn number and two drawn lists. -/
def DrawPQ (w : World) (e : Ending) (w' : World) : Prop :=
  ∃ (q : Int) (v v' : Value) (fs gs : List Int), e = .returned (.tuple #[.int .i64 q, v, v']) ∧ (1 ≤ q ∧ q ≤ 2000000011) ∧ InI w'.heap.size w' v fs ∧ InI w'.heap.size w' v' gs ∧ fs.length ≤ 30 ∧ gs.length ≤ 30 ∧ Below w.heap.size w w'
theorem own_inI {w : World} {base n cap : Nat} {ad : Option Addr} {zs : List Int} (h : w.ownsRow base 3 1 (.slice ad n cap) n (zs.map (Value.int .i64))) : InI w.heap.size w (.slice ad n cap) zs := by
  have hn : zs.length = n := by have := h.1; simpa using this
  subst hn
  obtain ⟨hi, _, hnil⟩ := own_ints h
  exact InI.of hi hnil (own_cap h)
theorem own_len {w : World} {base n : Nat} {v : Value} {e : TypeId} {zs : List Int} (h : w.ownsRow base e 1 v n (zs.map (Value.int .i64))) : zs.length = n := by have := h.1; simpa using this

theorem zeros_own (W : World) (n : Nat) (Z : Array Value) (hn : n ≤ 1000) (hZ : madeCells (Value.cells (.int .i64 0)) n = Z) (H : Nat) (hH : W.heap.size = H) :
    (W.alloc (.cells Z 3)).ownsRow H 3 1 (.slice (some ⟨H, 0, none⟩) n n) n ((List.replicate n (0 : Int)).map (Value.int .i64)) := by
  subst hH hZ
  have h := World.ownsRow_lit (base := W.heap.size) (e := 3) (size := 1) W (madeCells (Value.cells (.int .i64 0)) n) n (Nat.le_refl _) (by unfold maxLen; omega) (by simp [size_madeCells, Value.cells])
  rw [List.map_replicate]
  have e : (madeCells (Value.cells (.int .i64 0)) n).toList = List.replicate n (Value.int .i64 0) := toList_madeCells_one _ _
  rwa [e] at h

end Go.Proofs.Ytipfckfjelignaa

