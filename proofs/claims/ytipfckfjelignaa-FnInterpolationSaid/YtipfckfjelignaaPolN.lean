/- Tables; ValueFrom of both. -/
import Derived.Test.YtipfckfjelignaaPolM
namespace Go.Proofs.Ytipfckfjelignaa
open Go.RowKit

/-- Points with as many values. -/
def tabB (q : Int) (xs ys : List Int) : Bool := decide (xs.length = ys.length) && ptsB q xs && fieldB q [ys]
theorem tabB_eq (q : Int) (xs ys : List Int) : tabB q xs ys = (fieldB q [xs, ys] && decide xs.Nodup && decide (0 < xs.length) && decide (xs.length = ys.length)) := by
  unfold tabB ptsB fieldB
  simp only [List.all_cons, List.all_nil, Bool.and_true]
  have e : decide (xs.length ≠ 0) = decide (0 < xs.length) := decide_eq_decide.2 Nat.pos_iff_ne_zero.symm
  rw [e]
  cases decide (xs.length = ys.length) <;> cases decide (0 < xs.length) <;> cases isPr q <;> cases shortB xs q <;> cases shortB ys q <;> cases decide xs.Nodup <;> rfl
theorem tab_of {q : Int} {xs ys : List Int} (h : tabB q xs ys = true) : xs.length = ys.length ∧ isPr q = true ∧ shortB xs q = true ∧ xs.Nodup ∧ xs.length ≠ 0 ∧ shortB ys q = true := by
  simp only [tabB, Bool.and_eq_true, decide_eq_true_eq] at h
  obtain ⟨⟨h1, h2⟩, h3⟩ := h
  obtain ⟨a, b, c, d⟩ := pts_of h2
  exact ⟨h1, a, b, c, d, (field_one h3).2⟩

set_option maxHeartbeats 1600000 in
theorem yTable_any (q : Int) (ad ad' : Option Addr) (n n' cap cap' : Nat) (xs ys : List Int) (hn : xs.length = n) (hn' : ys.length = n') (hl : n ≤ 17592186044416) (hl' : n' ≤ 17592186044416) (hcap : n ≤ cap) (w : World) (hx : IsInts w ad xs) (hy : IsInts w ad' ys) :
    Calls Try.prog 99 #[.int .i64 q, .slice ad n cap, .slice ad' n' cap'] w fun e w' => e = .returned (.bool (tabB q xs ys)) ∧ Below w.heap.size w w' := by
  have HR := Lib.hid (rows_two w ad ad' n n' cap cap' xs ys hn hn' 27 hx hy)
  have HLL := Lib.hid (show ∀ r ∈ ([(ad, cap, xs), (ad', cap', ys)] : List RowD), r.2.2.length ≤ 17592186044416 by intro r hr; simp at hr; rcases hr with rfl | rfl <;> simp <;> omega)
  have hb0 := (Below.refl w.heap.size w).alloc (Nat.le_refl _) (.cells #[.slice ad n cap, .slice ad' n' cap'] 27)
  have HB0 := Lib.hid hb0
  have HN := Lib.hid hn
  have HX1 := Lib.hid (hx.below hb0 (Nat.le_refl _))
  rw [tabB_eq]
  cases hf : fieldB q [xs, ys]
  · have HF := Lib.hid (show fieldB q (List.map (fun r : RowD => r.2.2) [(ad, cap, xs), (ad', cap', ys)]) = false from hf)
    simp only [Bool.false_and]
    clear hf hn hn' hb0
    go_enter Try.func99, Try.ntmps99
    go_wp2_with fail
    refine (yGood_any _ _ 0 2 _ [(ad, cap, xs), (ad', cap', ys)] rfl (by omega) HLL.out _ HR.out).mono ?_
    rintro e w' ⟨rfl, rfl⟩; rw [HF.out]
    go_wp2
    go_ret
    exact ⟨rfl, HB0.out⟩
  · have HF := Lib.hid (show fieldB q (List.map (fun r : RowD => r.2.2) [(ad, cap, xs), (ad', cap', ys)]) = true from hf)
    by_cases hnd : xs.Nodup
    · have HND := Lib.hid (decide_eq_true hnd)
      rw [decide_eq_true hnd]
      by_cases h0 : n = 0
      · rw [decide_eq_false (show ¬ 0 < xs.length by omega)]
        simp only [Bool.and_false, Bool.false_and]
        subst h0
        clear hf hn hn' hb0 hnd
        go_enter Try.func99, Try.ntmps99
        go_wp2_with fail
        refine (yGood_any _ _ 0 2 _ [(ad, cap, xs), (ad', cap', ys)] rfl (by omega) HLL.out _ HR.out).mono ?_
        rintro e w' ⟨rfl, rfl⟩; rw [HF.out]
        go_wp2_with fail
        refine (yPoints_any ad 0 cap xs HN.out (by omega) hcap _ HX1.out).mono ?_
        rintro e w' ⟨rfl, rfl⟩; rw [HND.out]
        go_wp2
        go_ret
        exact ⟨rfl, HB0.out⟩
      · rw [decide_eq_true (show 0 < xs.length by omega)]
        have h0i : (0 : Int) < (n : Int) := by omega
        by_cases hnn : n = n'
        · rw [decide_eq_true (show xs.length = ys.length by omega)]
          simp only [Bool.and_true]
          subst hnn
          clear hf hn hn' hb0 hnd
          go_enter Try.func99, Try.ntmps99
          go_wp2_with fail
          refine (yGood_any _ _ 0 2 _ [(ad, cap, xs), (ad', cap', ys)] rfl (by omega) HLL.out _ HR.out).mono ?_
          rintro e w' ⟨rfl, rfl⟩; rw [HF.out]
          go_wp2_with fail
          refine (yPoints_any ad n cap xs HN.out (by omega) hcap _ HX1.out).mono ?_
          rintro e w' ⟨rfl, rfl⟩; rw [HND.out]
          go_wp2
          go_ret
          exact ⟨rfl, HB0.out⟩
        · rw [decide_eq_false (show ¬ xs.length = ys.length by omega)]
          simp only [Bool.and_false]
          have hnb : ((n : Int) == (n' : Int)) = false := by simp; omega
          clear hf hn hn' hb0 hnd
          go_enter Try.func99, Try.ntmps99
          go_wp2_with fail
          refine (yGood_any _ _ 0 2 _ [(ad, cap, xs), (ad', cap', ys)] rfl (by omega) HLL.out _ HR.out).mono ?_
          rintro e w' ⟨rfl, rfl⟩; rw [HF.out]
          go_wp2_with fail
          refine (yPoints_any ad n cap xs HN.out (by omega) hcap _ HX1.out).mono ?_
          rintro e w' ⟨rfl, rfl⟩; rw [HND.out]
          go_wp2
          go_ret
          exact ⟨rfl, HB0.out⟩
    · have HND := Lib.hid (decide_eq_false hnd)
      rw [decide_eq_false hnd]
      simp only [Bool.and_false, Bool.false_and]
      clear hf hn hn' hb0 hnd
      go_enter Try.func99, Try.ntmps99
      go_wp2_with fail
      refine (yGood_any _ _ 0 2 _ [(ad, cap, xs), (ad', cap', ys)] rfl (by omega) HLL.out _ HR.out).mono ?_
      rintro e w' ⟨rfl, rfl⟩; rw [HF.out]
      go_wp2_with fail
      refine (yPoints_any ad n cap xs HN.out (by omega) hcap _ HX1.out).mono ?_
      rintro e w' ⟨rfl, rfl⟩; rw [HND.out]
      go_wp2
      go_ret
      exact ⟨rfl, HB0.out⟩

def valB (q x : Int) (xs ys : List Int) : Bool := tabB q xs ys && resB x q
def valRes (q x : Int) (xs ys : List Int) : Int := if valB q x xs ys then dotFrom q 0 (lagr q x xs) ys else 0
theorem lagr_res {q x : Int} (hq : 0 < q) (xs : List Int) : ∀ z ∈ lagr q x xs, 0 ≤ z ∧ z < q := by
  intro z hz
  obtain ⟨i, _, rfl⟩ := List.mem_map.1 hz
  exact ⟨Int.emod_nonneg _ (by omega), Int.emod_lt_of_pos _ hq⟩
theorem val_no {q x : Int} {xs ys : List Int} (h : lagB q x xs = false) : valB q x xs ys = false := by
  unfold lagB at h
  unfold valB tabB
  cases hp : ptsB q xs
  · simp
  · rw [hp, Bool.true_and] at h; rw [h]; simp
theorem val_dot {q x : Int} {xs ys : List Int} (h : lagB q x xs = true) : dotB (lagr q x xs) ys q = valB q x xs ys := by
  simp only [lagB, Bool.and_eq_true] at h
  obtain ⟨hp, hr⟩ := h
  obtain ⟨hpr, hs, hnd, h0⟩ := pts_of hp
  obtain ⟨h2, h3, hl, _⟩ := shortB_of hs
  unfold dotB valB tabB fieldB
  rw [hp, hr, hpr, lagr_length, listB_of h2 h3 (by rw [lagr_length]; omega) (lagr_res (by omega) xs)]
  simp only [List.all_cons, List.all_nil, Bool.and_true, Bool.true_and]
  by_cases hn : xs.length = ys.length
  · rw [short_list (by omega)]
  · rw [decide_eq_false hn]; rfl
theorem val_res {q x : Int} {xs ys : List Int} (h : lagB q x xs = true) : dotMod (lagr q x xs) ys q = valRes q x xs ys := by
  unfold dotMod valRes; rw [val_dot h]

set_option maxHeartbeats 1600000 in
theorem valueFrom_any (q : Int) (ad ad' : Option Addr) (n n' cap cap' : Nat) (xs ys : List Int) (x : Int) (hn : xs.length = n) (hn' : ys.length = n') (hl : n ≤ 17592186044416) (hl' : n' ≤ 17592186044416) (hcap : n ≤ cap) (w : World) (hx : IsInts w ad xs) (hy : IsInts w ad' ys) :
    Calls Try.prog 44 #[.int .i64 q, .slice ad n cap, .slice ad' n' cap', .int .i64 x] w fun e w' => e = .returned (.tuple #[.int .i64 (valRes q x xs ys), .bool (valB q x xs ys)]) ∧ Below w.heap.size w w' := by
  have HN := Lib.hid hn
  have HN' := Lib.hid hn'
  cases hb : lagB q x xs
  · have e1 := val_no (ys := ys) hb
    have e2 : valRes q x xs ys = 0 := by simp [valRes, e1]
    rw [e1, e2]
    have HL := Lib.hid (show lagRes q x xs = [] by simp [lagRes, hb])
    have HB := Lib.hid hb
    clear hb e1 e2 hn hn'
    go_enter Try.func44, Try.ntmps44
    go_wp2_with fail
    refine (lagrangeCoefs_any q ad n cap xs x HN.out (by omega) hcap _ hx).mono ?_
    rw [HL.out, HB.out]
    rintro e w1 ⟨va, m, vc, rfl, hown, hb1⟩
    have HB1 := Lib.hid hb1
    clear hb1 hown
    go_wp2
    go_ret2
    exact ⟨rfl, HB1.out⟩
  · have HD := Lib.hid (val_dot (ys := ys) hb)
    have HV := Lib.hid (val_res (ys := ys) hb)
    have HL := Lib.hid (show lagRes q x xs = lagr q x xs by simp [lagRes, hb])
    have HB := Lib.hid hb
    have HLN := Lib.hid (lagRes_le q x xs)
    clear hb hn hn'
    go_enter Try.func44, Try.ntmps44
    go_wp2_with fail
    refine (lagrangeCoefs_any q ad n cap xs x HN.out (by omega) hcap _ hx).mono ?_
    rw [HL.out, HB.out]
    rintro e w1 ⟨va, m, vc, rfl, hown, hb1⟩
    obtain ⟨hz1, hm1, _⟩ := ints_of_own_any hown
    have HM := Lib.hid hm1
    have HZ1 := Lib.hid hz1
    have HY1 := Lib.hid (hy.below hb1 (Nat.le_refl _))
    have HB1 := Lib.hid hb1
    have hm24 : m ≤ 24 := by rw [← hm1, ← HL.out]; exact HLN.out
    clear hb1 hown hz1 hm1
    go_wp2_with fail
    refine (dotMod_any va _ m _ vc _ (lagr q x xs) ys q HM.out HN'.out (by omega) (by omega) _ HZ1.out HY1.out).mono ?_
    rw [HD.out, HV.out]
    rintro e w2 ⟨rfl, hb2⟩
    have HB2 := Lib.hid (bt HB1.out hb2)
    clear hb2
    go_wp2
    go_ret2
    exact ⟨rfl, HB2.out⟩

theorem valueFrom_ans {q x : Int} {P P' : Nat} {w : World} {v v' : Value} {xs ys : List Int} (hx : InI P w v xs) (hy : InI P' w v' ys) (hl : xs.length ≤ 17592186044416) (hl' : ys.length ≤ 17592186044416) :
    Calls Try.prog 44 #[.int .i64 q, v, v', .int .i64 x] w fun e w' => e = .returned (.tuple #[.int .i64 (valRes q x xs ys), .bool (valB q x xs ys)]) ∧ Below w.heap.size w w' := by
  obtain ⟨_, ad, cap, rfl, h1, _, hc⟩ := hx
  obtain ⟨_, ad', cap', rfl, h1', _⟩ := hy
  exact valueFrom_any q ad ad' _ _ cap cap' xs ys x rfl rfl hl hl' hc w h1.ints h1'.ints
end Go.Proofs.Ytipfckfjelignaa

