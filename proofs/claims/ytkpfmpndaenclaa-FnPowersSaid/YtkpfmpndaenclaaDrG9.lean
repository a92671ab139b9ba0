/- What the laws of layer 2 draw: lists of elements and of exponents. -/
import Derived.Test.YtkpfmpndaenclaaDrG8
import Derived.Test.YtkpfmpndaenclaaHshC
namespace Go.Proofs.Ytkpfmpndaenclaa
open Go.RowKit

/-- A drawn list, in a row of the call's own. -/
def ElsPost (w : World) (g k most : Nat) (e : Ending) (w' : World) : Prop :=
  ∃ (ad : Option Addr) (n cap : Nat) (zs : List Int), e = .returned (.slice ad n cap) ∧ w'.ownsRow (w.heap.size + 1) 3 1 (.slice ad n cap) n (zs.map (Value.int .i64)) ∧ n ≤ most ∧ Cur w' g k ∧ w.grownBy w' (some g)

/-- A drawn list of m numbers. -/
def CoinsPost (w : World) (g k m : Nat) (e : Ending) (w' : World) : Prop :=
  ∃ (ad : Option Addr) (cap : Nat) (zs : List Int), e = .returned (.slice ad m cap) ∧ w'.ownsRow (w.heap.size + 1) 3 1 (.slice ad m cap) m (zs.map (Value.int .i64)) ∧ Cur w' g k ∧ w.grownBy w' (some g)

theorem GR.above {w w' : World} {b B : Nat} {P Q G : Int} {r : Option Nat} (h : GR w b P Q G) (hg : w.grownBy w' r) (hB : b < B) (hr : ∀ q, r = some q → B ≤ q) : GR w' b P Q G := by
  obtain ⟨c0, c1, c2⟩ := h
  have hne : some b ≠ r := by rintro rfl; have := hr b rfl; omega
  exact ⟨hg.cell (a := ⟨b, 0, none⟩) c0 hne, hg.cell (a := ⟨b, 1, none⟩) c1 hne, hg.cell (a := ⟨b, 2, none⟩) c2 hne⟩

set_option maxHeartbeats 1600000 in
theorem coins_any (g k : Nat) (hk : k ≤ 900000000) (P Q G : Int) (q0 : -1 ≤ Q) (q1 : Q ≤ 2000000000) (m : Nat) (hm : m ≤ 100) (w : World) (hc : Cur w g k) :
    Calls Try.prog 107 #[.pointer (some ⟨g, 0, none⟩), gv P Q G, .int .i64 m] w (CoinsPost w g (k + 4 * m) m) := by
  have hgl := hc.lt
  have hgl1 : g < w.heap.size + 1 := by omega
  have hne : w.heap.size ≠ g := by omega
  have hal := ba w (.cells #[.int .i64 P, .int .i64 Q, .int .i64 G] 24)
  have HC := Lib.hid (hc.below hal)
  have HG := Lib.hid (grown_below hal (some g))
  have HR := Lib.hid (gr_new w P Q G 24)
  obtain ⟨i0, hi, hz0, hz1, hz2⟩ := info_parts Try.info3
  clear hc hal
  go_enter Try.func107, Try.ntmps107
  go_wp2
  go_loopw [2, 7] (fun K V wr => ∃ (j n : Nat) (va : Option Addr) (vc : Nat) (zs : List Int), (j ≤ m ∧ n + j = m) ∧ K = .int .i64 j ∧ V = .slice va n vc ∧ wr.ownsRow (w.heap.size + 1) 3 1 (.slice va n vc) n (zs.map (Value.int .i64)) ∧ Cur wr g (k + 4 * (m - j)) ∧ w.grownBy wr (some g) ∧ GR wr w.heap.size P Q G) (fun K _ _ => (intOf K).toNat)
  case atStart => exact ⟨m, 0, none, 0, [], by omega, rfl, rfl, World.ownsRow_nil _ _ _ _, HC.out.mono (by omega), HG.out, HR.out⟩
  case round =>
    obtain ⟨j, n, va, vc, zs, ⟨hj0, hj1⟩, rfl, rfl, hown, hcr, hgr, hgg⟩ := hrel
    have HO := Lib.hid hown
    have HCr := Lib.hid hcr
    have HGr := Lib.hid hgr
    have HGG := Lib.hid hgg
    clear hown hcr hgr hgg
    by_cases hj : 0 < j
    · have hji : (0 : Int) < (j : Int) := by omega
      obtain ⟨c0, c1, c2⟩ := HGG.out
      go_wp2_with fail
      refine (expo_any g _ (by omega) P Q G q0 q1 _ HCr.out).mono ?_
      rintro e w2 ⟨x, rfl, _, hc2, hg2⟩
      have HO2 := Lib.hid (own_cur HO.out hg2 hgl1)
      have HC2 := Lib.hid hc2
      have HG2 := Lib.hid (grown_trans HGr.out hg2)
      have HGG2 := Lib.hid (HGG.out.grown hg2 hne)
      clear hc2 hg2 c0 c1 c2
      go_wp2_with (at_builtin; refine wpList_append_ints rfl _ _ 36 rfl (w.heap.size + 1) 3 i0 Try.underlying36 hi hz0 hz1 hz2 _ n zs rfl (HO2.out.alloc _) (some ⟨w2.heap.size, 0, none⟩) 1 1 [x] rfl rfl (ints_spot w2 _ rfl [x] 3) (fun h => by cases h) (by omega) ?_ ?_)
      · have := HG2.out.size; have := HC2.out.lt; simp; omega
      · intro v' w3 hown' hgrow
        obtain ⟨va', vc', rfl⟩ := own_shape hown'
        have HO3 := Lib.hid hown'
        have hr : ∀ q, (Value.slice va n vc).ownBlock = some q → w.heap.size + 1 ≤ q := fun q hq => (HO2.out.lt q hq).1
        have hal := ba w2 (.cells #[.int .i64 (x)] 3)
        have HC3 := Lib.hid ((HC2.out.below hal).above hgrow hgl1 hr)
        have HG3 := Lib.hid (grown_own (grown_trans HG2.out (grown_below hal _)) hgrow (fun q hq => Nat.le_trans (Nat.le_succ _) (hr q hq)))
        have HGG3 := Lib.hid ((HGG2.out.below hal).above hgrow (Nat.lt_succ_self _) hr)
        clear hown' hgrow hr hal
        go_wp2
        go_roundw
        case rel => exact ⟨j - 1, n + 1, va', vc', zs ++ [x], by omega, by rw [show ((j - 1 : Nat) : Int) = (j : Int) - 1 by omega], rfl, by rw [List.map_append]; simpa using HO3.out, HC3.out.mono (by omega), HG3.out, HGG3.out⟩
        case measure => simp only [intOf]; omega
    · have hji : (j : Int) ≤ 0 := by omega
      go_wp2
      go_ret
      obtain rfl : j = 0 := by omega
      obtain rfl : n = m := by omega
      exact ⟨va, vc, zs, rfl, HO.out, HCr.out.mono (by omega), HGr.out⟩

set_option maxRecDepth 100000 in
set_option maxHeartbeats 6400000 in
theorem elements_any (g k : Nat) (hk : k ≤ 800000000) (P Q G : Int) (p0 : -7 ≤ P) (p1 : P ≤ 2000000000) (q0 : -1 ≤ Q) (q1 : Q ≤ 2000000000) (g0 : -1 ≤ G) (g1 : G ≤ 2000000001) (most : Nat) (hm : most ≤ 20) (w : World) (hc : Cur w g k) :
    Calls Try.prog 70 #[.pointer (some ⟨g, 0, none⟩), gv P Q G, .int .i64 most] w (ElsPost w g (k + 4 * most + 18) 25) := by
  have hgl := hc.lt
  have hgl1 : g < w.heap.size + 1 := by omega
  have hne : w.heap.size ≠ g := by omega
  have hal := ba w (.cells #[.int .i64 P, .int .i64 Q, .int .i64 G] 24)
  have HC := Lib.hid (hc.below hal)
  have HG := Lib.hid (grown_below hal (some g))
  have HR := Lib.hid (gr_new w P Q G 24)
  obtain ⟨i0, hi, hz0, hz1, hz2⟩ := info_parts Try.info3
  clear hc hal
  go_enter Try.func70, Try.ntmps70
  go_wp2_with fail
  refine (pick_any g k _ (by omega) (by omega) _ HC.out).mono ?_
  rintro e w1 ⟨x1, rfl, hx1, hc1, hg1⟩
  have hx10 : 0 ≤ x1 := hx1.1
  have hx11 : x1 ≤ (most : Int) := by omega
  obtain ⟨j1, rfl⟩ := Int.eq_ofNat_of_zero_le hx10
  have HC1 := Lib.hid hc1
  have HG1 := Lib.hid (grown_trans HG.out hg1)
  have HR1 := Lib.hid (HR.out.grown hg1 hne)
  clear hc1 hg1 hx1
  go_wp2
  go_loopw [7, 8] (fun V K wr => ∃ (j n : Nat) (va : Option Addr) (vc : Nat) (zs : List Int), (j ≤ most ∧ n + j ≤ most) ∧ K = .int .i64 j ∧ V = .slice va n vc ∧ wr.ownsRow (w.heap.size + 1) 3 1 (.slice va n vc) n (zs.map (Value.int .i64)) ∧ Cur wr g (k + 2 + 4 * (most - j)) ∧ w.grownBy wr (some g) ∧ GR wr w.heap.size P Q G) (fun _ K _ => (intOf K).toNat)
  case atStart => exact ⟨j1, 0, none, 0, [], by omega, rfl, rfl, World.ownsRow_nil _ _ _ _, HC1.out.mono (by omega), HG1.out, HR1.out⟩
  case round =>
    obtain ⟨j, n, va, vc, zs, ⟨hj0, hj1⟩, rfl, rfl, hown, hcr, hgr, hgg⟩ := hrel
    have HO := Lib.hid hown
    have HCr := Lib.hid hcr
    have HGr := Lib.hid hgr
    have HGG := Lib.hid hgg
    clear hown hcr hgr hgg
    by_cases hj : 0 < j
    · have hji : (0 : Int) < (j : Int) := by omega
      obtain ⟨c0, c1, c2⟩ := HGG.out
      go_wp2_with fail
      refine (element_any g _ (by omega) P Q G p0 p1 q0 q1 g0 g1 _ HCr.out).mono ?_
      rintro e w2 ⟨x, rfl, _, hc2, hg2⟩
      have HO2 := Lib.hid (own_cur HO.out hg2 hgl1)
      have HC2 := Lib.hid hc2
      have HG2 := Lib.hid (grown_trans HGr.out hg2)
      have HGG2 := Lib.hid (HGG.out.grown hg2 hne)
      clear hc2 hg2 c0 c1 c2
      go_wp2_with (at_builtin; refine wpList_append_ints rfl _ _ 36 rfl (w.heap.size + 1) 3 i0 Try.underlying36 hi hz0 hz1 hz2 _ n zs rfl (HO2.out.alloc _) (some ⟨w2.heap.size, 0, none⟩) 1 1 [x] rfl rfl (ints_spot w2 _ rfl [x] 3) (fun h => by cases h) (by omega) ?_ ?_)
      · have := HG2.out.size; have := HC2.out.lt; simp; omega
      · intro v' w3 hown' hgrow
        obtain ⟨va', vc', rfl⟩ := own_shape hown'
        have HO3 := Lib.hid hown'
        have hr : ∀ q, (Value.slice va n vc).ownBlock = some q → w.heap.size + 1 ≤ q := fun q hq => (HO2.out.lt q hq).1
        have hal := ba w2 (.cells #[.int .i64 (x)] 3)
        have HC3 := Lib.hid ((HC2.out.below hal).above hgrow hgl1 hr)
        have HG3 := Lib.hid (grown_own (grown_trans HG2.out (grown_below hal _)) hgrow (fun q hq => Nat.le_trans (Nat.le_succ _) (hr q hq)))
        have HGG3 := Lib.hid ((HGG2.out.below hal).above hgrow (Nat.lt_succ_self _) hr)
        clear hown' hgrow hr hal
        go_wp2
        go_roundw
        case rel => exact ⟨j - 1, n + 1, va', vc', zs ++ [x], by omega, by rw [show ((j - 1 : Nat) : Int) = (j : Int) - 1 by omega], rfl, by rw [List.map_append]; simpa using HO3.out, HC3.out.mono (by omega), HG3.out, HGG3.out⟩
        case measure => simp only [intOf]; omega
    · have hji : (j : Int) ≤ 0 := by omega
      go_wp2_with fail
      refine (one_any g _ _ (by omega) (by omega) _ HCr.out).mono ?_
      rintro e w2 ⟨b, rfl, hc2, hg2⟩
      have HO2 := Lib.hid (own_cur HO.out hg2 hgl1)
      have HC2 := Lib.hid hc2
      have HG2 := Lib.hid (grown_trans HGr.out hg2)
      have HGG2 := Lib.hid (HGG.out.grown hg2 hne)
      clear hc2 hg2
      cases b
      · clear HGG2
        go_wp2_with fail
        refine (one_any g _ _ (by omega) (by omega) _ HC2.out).mono ?_
        rintro e w5 ⟨b2, rfl, hc5, hg5⟩
        have HO5 := Lib.hid (own_cur HO2.out hg5 hgl1)
        have HC5 := Lib.hid hc5
        have HG5 := Lib.hid (grown_trans HG2.out hg5)
        clear hc5 hg5
        cases b2
        · go_wp2
          go_ret
          exact ⟨va, n, vc, zs, rfl, (by simpa using HO5.out), by omega, HC5.out.mono (by omega), HG5.out⟩
        · go_wp2_with fail
          refine (pick_any g _ 2 (by omega) (by omega) _ HC5.out).mono ?_
          rintro e w6 ⟨y, rfl, hy, hc6, hg6⟩
          have hy0 : 0 ≤ y := hy.1
          have hy1 : y ≤ 1 := by omega
          obtain ⟨j6, rfl⟩ := Int.eq_ofNat_of_zero_le hy0
          have HC6 := Lib.hid hc6
          have HG6 := Lib.hid (grown_trans HG5.out hg6)
          clear hc6 hg6 hy
          go_wp2
          go_loopw [7, 9] (fun V K wr => ∃ (j n : Nat) (va : Option Addr) (vc : Nat) (zs : List Int), (j ≤ 25 ∧ n + j ≤ 25) ∧ K = .int .i64 j ∧ V = .slice va n vc ∧ wr.ownsRow (w.heap.size + 1) 3 1 (.slice va n vc) n (zs.map (Value.int .i64)) ∧ Cur wr g (k + 4 * most + 18) ∧ w.grownBy wr (some g)) (fun _ K _ => (intOf K).toNat)
          case atStart => exact ⟨24 + j6, 0, none, 0, [], by omega, by go_num, rfl, World.ownsRow_nil _ _ _ _, HC6.out.mono (by omega), HG6.out⟩
          case round =>
            obtain ⟨j, n, va, vc, zs, ⟨hj0, hj1⟩, rfl, rfl, hown, hcr, hgr⟩ := hrel
            have HO := Lib.hid hown
            have HCr := Lib.hid hcr
            have HGr := Lib.hid hgr
            clear hown hcr hgr
            by_cases hj : 0 < j
            · have hji : (0 : Int) < (j : Int) := by omega
              go_wp2_with (at_builtin; refine wpList_append_ints rfl _ _ 36 rfl (w.heap.size + 1) 3 i0 Try.underlying36 hi hz0 hz1 hz2 _ n zs rfl (HO.out.alloc _) (some ⟨wr.heap.size, 0, none⟩) 1 1 [(1 : Int)] rfl rfl (ints_spot wr _ rfl [(1 : Int)] 3) (fun h => by cases h) (by omega) ?_ ?_)
              · have := HGr.out.size; have := HCr.out.lt; simp; omega
              · intro v' w7 hown' hgrow
                obtain ⟨va', vc', rfl⟩ := own_shape hown'
                have HO7 := Lib.hid hown'
                have hr : ∀ q, (Value.slice va n vc).ownBlock = some q → w.heap.size + 1 ≤ q := fun q hq => (HO.out.lt q hq).1
                have hal := ba wr (.cells #[.int .i64 ((1 : Int))] 3)
                have HC7 := Lib.hid ((HCr.out.below hal).above hgrow hgl1 hr)
                have HG7 := Lib.hid (grown_own (grown_trans HGr.out (grown_below hal _)) hgrow (fun q hq => Nat.le_trans (Nat.le_succ _) (hr q hq)))
                clear hown' hgrow hr hal
                go_wp2
                go_roundw
                case rel => exact ⟨j - 1, n + 1, va', vc', zs ++ [1], by omega, by rw [show ((j - 1 : Nat) : Int) = (j : Int) - 1 by omega], rfl, by rw [List.map_append]; simpa using HO7.out, HC7.out, HG7.out⟩
                case measure => simp only [intOf]; omega
            · have hji : (j : Int) ≤ 0 := by omega
              go_wp2
              go_ret
              exact ⟨va, n, vc, zs, rfl, HO.out, by omega, HCr.out.mono (by omega), HGr.out⟩
      · obtain ⟨c0, c1, c2⟩ := HGG2.out
        go_wp2_with fail
        refine (anyElement_any g _ (by omega) P Q G p0 p1 q0 q1 g0 g1 _ HC2.out).mono ?_
        rintro e w3 ⟨x, rfl, _, hc3, hg3⟩
        have HO3 := Lib.hid (own_cur HO2.out hg3 hgl1)
        have HC3 := Lib.hid hc3
        have HG3 := Lib.hid (grown_trans HG2.out hg3)
        clear hc3 hg3 c0 c1 c2
        go_wp2_with (at_builtin; refine wpList_append_ints rfl _ _ 36 rfl (w.heap.size + 1) 3 i0 Try.underlying36 hi hz0 hz1 hz2 _ n zs rfl (HO3.out.alloc _) (some ⟨w3.heap.size, 0, none⟩) 1 1 [x] rfl rfl (ints_spot w3 _ rfl [x] 3) (fun h => by cases h) (by omega) ?_ ?_)
        · have := HG3.out.size; have := HC3.out.lt; simp; omega
        · intro v' w4 hown' hgrow
          obtain ⟨va', vc', rfl⟩ := own_shape hown'
          have HO4 := Lib.hid hown'
          have hr : ∀ q, (Value.slice va n vc).ownBlock = some q → w.heap.size + 1 ≤ q := fun q hq => (HO3.out.lt q hq).1
          have hal := ba w3 (.cells #[.int .i64 (x)] 3)
          have HC4 := Lib.hid ((HC3.out.below hal).above hgrow hgl1 hr)
          have HG4 := Lib.hid (grown_own (grown_trans HG3.out (grown_below hal _)) hgrow (fun q hq => Nat.le_trans (Nat.le_succ _) (hr q hq)))
          clear hown' hgrow hr hal
          go_wp2_with fail
          refine (one_any g _ _ (by omega) (by omega) _ HC4.out).mono ?_
          rintro e w5 ⟨b2, rfl, hc5, hg5⟩
          have HO5 := Lib.hid (own_cur HO4.out hg5 hgl1)
          have HC5 := Lib.hid hc5
          have HG5 := Lib.hid (grown_trans HG4.out hg5)
          clear hc5 hg5
          cases b2
          · go_wp2
            go_ret
            exact ⟨va', n + 1, vc', (zs ++ [x]), rfl, (by simpa using HO5.out), by omega, HC5.out.mono (by omega), HG5.out⟩
          · go_wp2_with fail
            refine (pick_any g _ 2 (by omega) (by omega) _ HC5.out).mono ?_
            rintro e w6 ⟨y, rfl, hy, hc6, hg6⟩
            have hy0 : 0 ≤ y := hy.1
            have hy1 : y ≤ 1 := by omega
            obtain ⟨j6, rfl⟩ := Int.eq_ofNat_of_zero_le hy0
            have HC6 := Lib.hid hc6
            have HG6 := Lib.hid (grown_trans HG5.out hg6)
            clear hc6 hg6 hy
            go_wp2
            go_loopw [7, 9] (fun V K wr => ∃ (j n : Nat) (va : Option Addr) (vc : Nat) (zs : List Int), (j ≤ 25 ∧ n + j ≤ 25) ∧ K = .int .i64 j ∧ V = .slice va n vc ∧ wr.ownsRow (w.heap.size + 1) 3 1 (.slice va n vc) n (zs.map (Value.int .i64)) ∧ Cur wr g (k + 4 * most + 18) ∧ w.grownBy wr (some g)) (fun _ K _ => (intOf K).toNat)
            case atStart => exact ⟨24 + j6, 0, none, 0, [], by omega, by go_num, rfl, World.ownsRow_nil _ _ _ _, HC6.out.mono (by omega), HG6.out⟩
            case round =>
              obtain ⟨j, n, va, vc, zs, ⟨hj0, hj1⟩, rfl, rfl, hown, hcr, hgr⟩ := hrel
              have HO := Lib.hid hown
              have HCr := Lib.hid hcr
              have HGr := Lib.hid hgr
              clear hown hcr hgr
              by_cases hj : 0 < j
              · have hji : (0 : Int) < (j : Int) := by omega
                go_wp2_with (at_builtin; refine wpList_append_ints rfl _ _ 36 rfl (w.heap.size + 1) 3 i0 Try.underlying36 hi hz0 hz1 hz2 _ n zs rfl (HO.out.alloc _) (some ⟨wr.heap.size, 0, none⟩) 1 1 [(1 : Int)] rfl rfl (ints_spot wr _ rfl [(1 : Int)] 3) (fun h => by cases h) (by omega) ?_ ?_)
                · have := HGr.out.size; have := HCr.out.lt; simp; omega
                · intro v' w7 hown' hgrow
                  obtain ⟨va', vc', rfl⟩ := own_shape hown'
                  have HO7 := Lib.hid hown'
                  have hr : ∀ q, (Value.slice va n vc).ownBlock = some q → w.heap.size + 1 ≤ q := fun q hq => (HO.out.lt q hq).1
                  have hal := ba wr (.cells #[.int .i64 ((1 : Int))] 3)
                  have HC7 := Lib.hid ((HCr.out.below hal).above hgrow hgl1 hr)
                  have HG7 := Lib.hid (grown_own (grown_trans HGr.out (grown_below hal _)) hgrow (fun q hq => Nat.le_trans (Nat.le_succ _) (hr q hq)))
                  clear hown' hgrow hr hal
                  go_wp2
                  go_roundw
                  case rel => exact ⟨j - 1, n + 1, va', vc', zs ++ [1], by omega, by rw [show ((j - 1 : Nat) : Int) = (j : Int) - 1 by omega], rfl, by rw [List.map_append]; simpa using HO7.out, HC7.out, HG7.out⟩
                  case measure => simp only [intOf]; omega
              · have hji : (j : Int) ≤ 0 := by omega
                go_wp2
                go_ret
                exact ⟨va, n, vc, zs, rfl, HO.out, by omega, HCr.out.mono (by omega), HGr.out⟩

end Go.Proofs.Ytkpfmpndaenclaa
