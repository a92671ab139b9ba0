/- LagrangeCoefs of the reference; tables; ValueFrom of both. -/
import Derived.Test.YtkeokcebanodeaaPolL
namespace Go.Proofs.Ytkeokcebanodeaa
open Go.RowKit

theorem resB_in {x q : Int} (h2 : 2 ≤ q) (h3 : q ≤ 2000000000) : resB x q = inB x 0 (q - 1) := by
  cases h : inB x 0 (q - 1)
  · rw [resB_false]
    rcases inB_false.1 h with h | h
    · exact .inr (.inl h)
    · exact .inr (.inr (by omega))
  · obtain ⟨a, b⟩ := inB_true.1 h
    exact resB_true.2 ⟨h2, h3, a, by omega⟩

set_option maxHeartbeats 3200000 in
theorem sLagrangeCoefs_any (q : Int) (ad : Option Addr) (n cap : Nat) (xs : List Int) (x : Int) (hn : xs.length = n) (hl : n ≤ 17592186044416) (hcap : n ≤ cap) (w : World) (hx : IsInts w ad xs) :
    Calls Try.prog 40 #[.int .i64 q, .slice ad n cap, .int .i64 x] w (ListOut w (lagRes q x xs) (lagB q x xs)) := by
  have HR := Lib.hid (rows_one w ad n cap xs hn 23 hx)
  have HLL := Lib.hid (show ∀ r ∈ ([(ad, cap, xs)] : List RowD), r.2.2.length ≤ 17592186044416 by intro r hr; simp at hr; subst hr; simp; omega)
  have hb0 := (Below.refl w.heap.size w).alloc (Nat.le_refl _) (.cells #[.slice ad n cap] 23)
  have HB0 := Lib.hid hb0
  have HN := Lib.hid hn
  cases hf : fieldB q [xs]
  · have e1 : lagB q x xs = false := by simp [lagB, ptsB, hf]
    have e2 : lagRes q x xs = [] := by simp [lagRes, e1]
    rw [e1, e2]
    have HF := Lib.hid (show fieldB q (List.map (fun r : RowD => r.2.2) [(ad, cap, xs)]) = false from hf)
    clear hf e1 e2 hn hb0
    go_enter Try.func40, Try.ntmps40
    go_wp2_with fail
    refine (yGood_any _ _ 0 1 _ [(ad, cap, xs)] rfl (by omega) HLL.out _ HR.out).mono ?_
    rintro e w' ⟨rfl, rfl⟩; rw [HF.out]
    go_wp2
    go_ret2
    exact listOut_nil _ _ HB0.out
  · have HF := Lib.hid (show fieldB q (List.map (fun r : RowD => r.2.2) [(ad, cap, xs)]) = true from hf)
    obtain ⟨hpr, hsx⟩ := field_one hf
    obtain ⟨h2, h3, hlen, hres⟩ := shortB_of hsx
    have HX1 := Lib.hid (hx.below hb0 (Nat.le_refl _))
    have hn24 : n ≤ 24 := by omega
    by_cases hnd : xs.Nodup
    · have HND := Lib.hid (decide_eq_true hnd)
      by_cases h0 : n = 0
      · have e1 : lagB q x xs = false := by rw [lagB, ptsB, decide_eq_false (by omega)]; rfl
        have e2 : lagRes q x xs = [] := by simp [lagRes, e1]
        rw [e1, e2]
        subst h0
        clear hf e1 e2 hn hb0 hres hpr hsx hnd
        go_enter Try.func40, Try.ntmps40
        go_wp2_with fail
        refine (yGood_any _ _ 0 1 _ [(ad, cap, xs)] rfl (by omega) HLL.out _ HR.out).mono ?_
        rintro e w' ⟨rfl, rfl⟩; rw [HF.out]
        go_wp2_with fail
        refine (yPoints_any ad 0 cap xs HN.out (by omega) hcap _ HX1.out).mono ?_
        rintro e w' ⟨rfl, rfl⟩; rw [HND.out]
        go_wp2
        go_ret2
        exact listOut_nil _ _ HB0.out
      · have hnz : ((n : Int) == 0) = false := by simp; omega
        have HRI := Lib.hid (resB_in (x := x) h2 h3)
        cases hrx : resB x q
        · have e1 : lagB q x xs = false := by simp [lagB, hrx]
          have e2 : lagRes q x xs = [] := by simp [lagRes, e1]
          rw [e1, e2]
          have HX := Lib.hid (HRI.out.symm.trans hrx)
          clear hf e1 e2 hn hb0 hres hpr hsx hnd hrx
          go_enter Try.func40, Try.ntmps40
          go_wp2_with fail
          refine (yGood_any _ _ 0 1 _ [(ad, cap, xs)] rfl (by omega) HLL.out _ HR.out).mono ?_
          rintro e w' ⟨rfl, rfl⟩; rw [HF.out]
          go_wp2_with fail
          refine (yPoints_any ad n cap xs HN.out (by omega) hcap _ HX1.out).mono ?_
          rintro e w' ⟨rfl, rfl⟩; rw [HND.out]
          go_wp2_with fail
          refine (l1In_any _ _ _ _).mono ?_
          rintro e w' ⟨rfl, rfl⟩; rw [HX.out]
          go_wp2
          go_ret2
          exact listOut_nil _ _ HB0.out
        · have e1 : lagB q x xs = true := by simp [lagB, ptsB, hf, hrx, hnd]; intro h; subst h; simp at hn; omega
          have e2 : lagRes q x xs = lagr q x xs := by simp [lagRes, e1]
          rw [e1, e2]
          obtain ⟨_, _, hx0, hx1⟩ := resB_true.1 hrx
          have HX := Lib.hid (HRI.out.symm.trans hrx)
          have HRES := Lib.hid hres
          have HPR := Lib.hid hpr
          have HNN := Lib.hid hnd
          clear hf e1 e2 hn hb0 hres hpr hsx hnd hrx
          go_enter Try.func40, Try.ntmps40
          go_wp2_with fail
          refine (yGood_any _ _ 0 1 _ [(ad, cap, xs)] rfl (by omega) HLL.out _ HR.out).mono ?_
          rintro e w' ⟨rfl, rfl⟩; rw [HF.out]
          go_wp2_with fail
          refine (yPoints_any ad n cap xs HN.out (by omega) hcap _ HX1.out).mono ?_
          rintro e w' ⟨rfl, rfl⟩; rw [HND.out]
          go_wp2_with fail
          refine (l1In_any _ _ _ _).mono ?_
          rintro e w' ⟨rfl, rfl⟩; rw [HX.out]
          go_wp2_with fail
          refine (yLagrange_any q ad n cap xs x HN.out (by omega) HPR.out HRES.out HNN.out hx0 hx1 _ HX1.out).mono ?_
          rintro e w1 ⟨va, vc, rfl, hown, hb1⟩
          have HO := Lib.hid hown
          have HB1 := Lib.hid hb1
          clear hown hb1
          go_wp2
          go_ret2
          exact listOut_own HO.out HB0.out HB1.out
    · have HND := Lib.hid (decide_eq_false hnd)
      have e1 : lagB q x xs = false := by simp [lagB, ptsB, hnd]
      have e2 : lagRes q x xs = [] := by simp [lagRes, e1]
      rw [e1, e2]
      clear hf e1 e2 hn hb0 hres hpr hsx hnd
      go_enter Try.func40, Try.ntmps40
      go_wp2_with fail
      refine (yGood_any _ _ 0 1 _ [(ad, cap, xs)] rfl (by omega) HLL.out _ HR.out).mono ?_
      rintro e w' ⟨rfl, rfl⟩; rw [HF.out]
      go_wp2_with fail
      refine (yPoints_any ad n cap xs HN.out (by omega) hcap _ HX1.out).mono ?_
      rintro e w' ⟨rfl, rfl⟩; rw [HND.out]
      go_wp2
      go_ret2
      exact listOut_nil _ _ HB0.out

theorem lagrangeCoefs_ans {q x : Int} {P : Nat} {w : World} {v : Value} {xs : List Int} (hx : InI P w v xs) (hl : xs.length ≤ 17592186044416) :
    Calls Try.prog 31 #[.int .i64 q, v, .int .i64 x] w (AnsY w (lagRes q x xs) (lagB q x xs)) := by
  obtain ⟨_, ad, cap, rfl, h1, _, hc⟩ := hx
  exact (lagrangeCoefs_any q ad _ cap xs x rfl hl hc w h1.ints).mono fun _ _ h => ansY_of h
theorem sLagrangeCoefs_ans {q x : Int} {P : Nat} {w : World} {v : Value} {xs : List Int} (hx : InI P w v xs) (hl : xs.length ≤ 17592186044416) :
    Calls Try.prog 40 #[.int .i64 q, v, .int .i64 x] w (AnsY w (lagRes q x xs) (lagB q x xs)) := by
  obtain ⟨_, ad, cap, rfl, h1, _, hc⟩ := hx
  exact (sLagrangeCoefs_any q ad _ cap xs x rfl hl hc w h1.ints).mono fun _ _ h => ansY_of h

end Go.Proofs.Ytkeokcebanodeaa
