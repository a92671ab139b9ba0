/- Interpolate of the reference, and both answers. -/
import Derived.Test.YtipfckfjelignaaPolP
namespace Go.Proofs.Ytipfckfjelignaa
open Go.RowKit

set_option maxHeartbeats 1600000 in
theorem sInterpolate_any (q : Int) (ad ad' : Option Addr) (n n' cap cap' : Nat) (xs ys : List Int) (hn : xs.length = n) (hn' : ys.length = n') (hl : n ≤ 17592186044416) (hl' : n' ≤ 17592186044416) (hcap : n ≤ cap) (w : World) (hx : IsInts w ad xs) (hy : IsInts w ad' ys) :
    Calls Try.prog 38 #[.int .i64 q, .slice ad n cap, .slice ad' n' cap'] w (ListOut w (itpRes q xs ys) (tabB q xs ys)) := by
  have HN := Lib.hid hn
  have HN' := Lib.hid hn'
  cases ht : tabB q xs ys
  · have e2 : itpRes q xs ys = [] := by simp [itpRes, ht]
    rw [e2]
    have HT := Lib.hid ht
    clear ht e2 hn hn'
    go_enter Try.func38, Try.ntmps38
    go_wp2_with fail
    refine (yTable_any q _ _ _ _ _ _ xs ys HN.out HN'.out (by omega) (by omega) hcap _ hx hy).mono ?_
    rintro e w1 ⟨rfl, hb1⟩; rw [HT.out]
    have HB1 := Lib.hid hb1
    clear hb1
    go_wp2
    go_ret2
    exact listOut_nil _ _ HB1.out
  · have HT := Lib.hid ht
    obtain ⟨hnn, hpr, hsx, hnd, h0, hsy⟩ := tab_of ht
    obtain ⟨h2, h3, hlx, hrx⟩ := shortB_of hsx
    obtain ⟨_, _, _, hry⟩ := shortB_of hsy
    have e2 : itpRes q xs ys = itp q xs ys := by simp [itpRes, ht]
    rw [e2]
    have HPR := Lib.hid hpr
    have HND := Lib.hid hnd
    have HRX := Lib.hid hrx
    have HRY := Lib.hid hry
    have hn24 : n ≤ 24 := by omega
    have hnn' : n' = n := by omega
    clear ht e2 hn hn' hnn hpr hsx hnd h0 hsy hlx hrx hry
    subst hnn'
    go_enter Try.func38, Try.ntmps38
    go_wp2_with fail
    refine (yTable_any q _ _ _ _ _ _ xs ys HN.out HN'.out (by omega) (by omega) hcap _ hx hy).mono ?_
    rintro e w1 ⟨rfl, hb1⟩; rw [HT.out]
    have HX1 := Lib.hid (hx.below hb1 (Nat.le_refl _))
    have HY1 := Lib.hid (hy.below hb1 (Nat.le_refl _))
    have HB1 := Lib.hid hb1
    clear hb1
    go_wp2_with fail
    refine (yInterpolate_any q ad ad' _ cap cap' xs ys HN.out HN'.out (by omega) hcap HPR.out HND.out HRX.out HRY.out _ HX1.out HY1.out).mono ?_
    rintro e w2 ⟨va, vc, rfl, hown, hb2⟩
    have HO := Lib.hid hown
    have HB2 := Lib.hid hb2
    clear hown hb2
    go_wp2
    go_ret2
    exact listOut_own HO.out HB1.out HB2.out

theorem interpolate_ans {q : Int} {P P' : Nat} {w : World} {v v' : Value} {xs ys : List Int} (hx : InI P w v xs) (hy : InI P' w v' ys) (hl : xs.length ≤ 17592186044416) (hl' : ys.length ≤ 17592186044416) :
    Calls Try.prog 37 #[.int .i64 q, v, v'] w (AnsY w (itpRes q xs ys) (tabB q xs ys)) := by
  obtain ⟨_, ad, cap, rfl, h1, _, hc⟩ := hx
  obtain ⟨_, ad', cap', rfl, h1', _⟩ := hy
  exact (interpolate_any q ad ad' _ _ cap cap' xs ys rfl rfl hl hl' hc w h1.ints h1'.ints).mono fun _ _ h => ansY_of h
theorem sInterpolate_ans {q : Int} {P P' : Nat} {w : World} {v v' : Value} {xs ys : List Int} (hx : InI P w v xs) (hy : InI P' w v' ys) (hl : xs.length ≤ 17592186044416) (hl' : ys.length ≤ 17592186044416) :
    Calls Try.prog 38 #[.int .i64 q, v, v'] w (AnsY w (itpRes q xs ys) (tabB q xs ys)) := by
  obtain ⟨_, ad, cap, rfl, h1, _, hc⟩ := hx
  obtain ⟨_, ad', cap', rfl, h1', _⟩ := hy
  exact (sInterpolate_any q ad ad' _ _ cap cap' xs ys rfl rfl hl hl' hc w h1.ints h1'.ints).mono fun _ _ h => ansY_of h

end Go.Proofs.Ytipfckfjelignaa

