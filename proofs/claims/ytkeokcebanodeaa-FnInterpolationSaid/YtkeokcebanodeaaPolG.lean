/- MulPolys; polynomials with given roots: PolyFromRoots. -/
import Derived.Test.YtkeokcebanodeaaPolE
namespace Go.Proofs.Ytkeokcebanodeaa
open Go.RowKit

def mulB (q : Int) (fs gs : List Int) : Bool := fieldB q [fs, gs] && decide (fs.length + gs.length ≤ 25)
def mulL (q : Int) (fs gs : List Int) : List Int := if fs.length = 0 ∨ gs.length = 0 then [] else pMul q fs gs
def mulRes (q : Int) (fs gs : List Int) : List Int := if mulB q fs gs then mulL q fs gs else []
theorem mulRes_le (q : Int) (fs gs : List Int) : (mulRes q fs gs).length ≤ 24 := by
  unfold mulRes
  split
  · rename_i h
    simp only [mulB, Bool.and_eq_true, decide_eq_true_eq] at h
    unfold mulL
    split
    · simp
    · rw [pMul_length]; omega
  · simp
theorem listOut_nilT (w w' : World) (h : Below w.heap.size w w') : ListOut w [] true (.returned (.tuple #[.slice none 0 0, .bool true])) w' :=
  ⟨none, 0, 0, rfl, World.ownsRow_nil _ _ _ _, h⟩

theorem yMul_nil (q : Int) (ad ad' : Option Addr) (n n' cap cap' : Nat) (h : n = 0 ∨ n' = 0) (w : World) :
    Calls Try.prog 49 #[.int .i64 q, .slice ad n cap, .slice ad' n' cap'] w fun e w' => e = .returned (.slice none 0 0) ∧ w = w' := by
  by_cases h0 : n = 0
  · subst h0
    go_enter Try.func49, Try.ntmps49
    go_wp2
    go_ret
    exact ⟨rfl, rfl⟩
  · obtain rfl : n' = 0 := by omega
    have hnz : ((n : Int) == 0) = false := by simp; omega
    go_enter Try.func49, Try.ntmps49
    go_wp2
    go_ret
    exact ⟨rfl, rfl⟩

set_option maxHeartbeats 1600000 in
theorem mulPolys_any (q : Int) (ad ad' : Option Addr) (n n' cap cap' : Nat) (fs gs : List Int) (hn : fs.length = n) (hn' : gs.length = n') (hl : n ≤ 17592186044416) (hl' : n' ≤ 17592186044416) (w : World) (hx : IsInts w ad fs) (hy : IsInts w ad' gs) :
    Calls Try.prog 15 #[.int .i64 q, .slice ad n cap, .slice ad' n' cap'] w (ListOut w (mulRes q fs gs) (mulB q fs gs)) := by
  have HR := Lib.hid (rows_two w ad ad' n n' cap cap' fs gs hn hn' 23 hx hy)
  have HLL := Lib.hid (show ∀ r ∈ ([(ad, cap, fs), (ad', cap', gs)] : List RowD), r.2.2.length ≤ 17592186044416 by intro r hr; simp at hr; rcases hr with rfl | rfl <;> simp <;> omega)
  have hb0 := (Below.refl w.heap.size w).alloc (Nat.le_refl _) (.cells #[.slice ad n cap, .slice ad' n' cap'] 23)
  have HB0 := Lib.hid hb0
  cases hf : fieldB q [fs, gs]
  · have e1 : mulB q fs gs = false := by simp [mulB, hf]
    have e2 : mulRes q fs gs = [] := by simp [mulRes, e1]
    rw [e1, e2]
    have HF := Lib.hid (show fieldB q (List.map (fun r : RowD => r.2.2) [(ad, cap, fs), (ad', cap', gs)]) = false from hf)
    clear hf e1 e2 hn hn' hb0
    go_enter Try.func15, Try.ntmps15
    go_wp2_with fail
    refine (inField_any _ _ 0 2 _ [(ad, cap, fs), (ad', cap', gs)] rfl (by omega) HLL.out _ HR.out).mono ?_
    rintro e w' ⟨rfl, rfl⟩; rw [HF.out]
    go_wp2
    go_ret2
    exact listOut_nil _ _ HB0.out
  · obtain ⟨_, hsf, hsg⟩ := field_two hf
    obtain ⟨h2, h3, hfl, hfr⟩ := shortB_of hsf
    obtain ⟨_, _, hgl, hgr⟩ := shortB_of hsg
    have HF := Lib.hid (show fieldB q (List.map (fun r : RowD => r.2.2) [(ad, cap, fs), (ad', cap', gs)]) = true from hf)
    have HFR := Lib.hid hfr
    have HGR := Lib.hid hgr
    have hn24 : n ≤ 24 := by omega
    have hn24' : n' ≤ 24 := by omega
    have HX1 := Lib.hid (hx.below hb0 (Nat.le_refl _))
    have HY1 := Lib.hid (hy.below hb0 (Nat.le_refl _))
    by_cases h0 : n = 0 ∨ n' = 0
    · have e1 : mulB q fs gs = true := by simp [mulB, hf]; omega
      have e2 : mulRes q fs gs = [] := by rw [mulRes, e1, if_pos rfl, mulL, if_pos (by omega)]
      rw [e1, e2]
      clear hf e1 e2 hb0 hfr hgr hfl hgl hsf hsg hn hn'
      by_cases hz : n = 0
      · subst hz
        go_enter Try.func15, Try.ntmps15
        go_wp2_with fail
        refine (inField_any _ _ 0 2 _ [(ad, cap, fs), (ad', cap', gs)] rfl (by omega) HLL.out _ HR.out).mono ?_
        rintro e w' ⟨rfl, rfl⟩; rw [HF.out]
        go_wp2
        go_ret2
        exact listOut_nilT _ _ HB0.out
      · obtain rfl : n' = 0 := by omega
        have hnz : ((n : Int) == 0) = false := by simp; omega
        go_enter Try.func15, Try.ntmps15
        go_wp2_with fail
        refine (inField_any _ _ 0 2 _ [(ad, cap, fs), (ad', cap', gs)] rfl (by omega) HLL.out _ HR.out).mono ?_
        rintro e w' ⟨rfl, rfl⟩; rw [HF.out]
        go_wp2
        go_ret2
        exact listOut_nilT _ _ HB0.out
    · have hnz : ((n : Int) == 0) = false := by simp; omega
      have hnz' : ((n' : Int) == 0) = false := by simp; omega
      have HN := Lib.hid hn
      have HN' := Lib.hid hn'
      by_cases h25 : n + n' ≤ 25
      · have e1 : mulB q fs gs = true := by simp [mulB, hf]; omega
        have e2 : mulRes q fs gs = pMul q fs gs := by rw [mulRes, e1, if_pos rfl, mulL, if_neg (by omega)]
        rw [e1, e2]
        have hsz : (n : Int) + (n' : Int) - 1 ≤ 24 := by omega
        clear hf e1 e2 hb0 hfr hgr hfl hgl hsf hsg hn hn'
        go_enter Try.func15, Try.ntmps15
        go_wp2_with fail
        refine (inField_any _ _ 0 2 _ [(ad, cap, fs), (ad', cap', gs)] rfl (by omega) HLL.out _ HR.out).mono ?_
        rintro e w' ⟨rfl, rfl⟩; rw [HF.out]
        go_wp2_with fail
        refine (multiplyPolys_any _ _ _ _ _ _ _ fs gs HN.out HN'.out (by omega) (by omega) (by omega) (by omega) h2 h3 HFR.out HGR.out _ HX1.out HY1.out).mono ?_
        rintro e w1 ⟨va, vc, rfl, hown, hb1⟩
        have HO := Lib.hid hown
        have HB1 := Lib.hid hb1
        clear hown hb1
        go_wp2
        go_ret2
        exact listOut_own HO.out HB0.out HB1.out
      · have e1 : mulB q fs gs = false := by simp [mulB]; omega
        have e2 : mulRes q fs gs = [] := by simp [mulRes, e1]
        rw [e1, e2]
        have hsz : (24 : Int) < (n : Int) + (n' : Int) - 1 := by omega
        clear hf e1 e2 hb0 hfr hgr hfl hgl hsf hsg hn hn'
        go_enter Try.func15, Try.ntmps15
        go_wp2_with fail
        refine (inField_any _ _ 0 2 _ [(ad, cap, fs), (ad', cap', gs)] rfl (by omega) HLL.out _ HR.out).mono ?_
        rintro e w' ⟨rfl, rfl⟩; rw [HF.out]
        go_wp2
        go_ret2
        exact listOut_nil _ _ HB0.out

set_option maxHeartbeats 1600000 in
theorem sMulPolys_any (q : Int) (ad ad' : Option Addr) (n n' cap cap' : Nat) (fs gs : List Int) (hn : fs.length = n) (hn' : gs.length = n') (hl : n ≤ 17592186044416) (hl' : n' ≤ 17592186044416) (w : World) (hx : IsInts w ad fs) (hy : IsInts w ad' gs) :
    Calls Try.prog 16 #[.int .i64 q, .slice ad n cap, .slice ad' n' cap'] w (ListOut w (mulRes q fs gs) (mulB q fs gs)) := by
  have HR := Lib.hid (rows_two w ad ad' n n' cap cap' fs gs hn hn' 23 hx hy)
  have HLL := Lib.hid (show ∀ r ∈ ([(ad, cap, fs), (ad', cap', gs)] : List RowD), r.2.2.length ≤ 17592186044416 by intro r hr; simp at hr; rcases hr with rfl | rfl <;> simp <;> omega)
  have hb0 := (Below.refl w.heap.size w).alloc (Nat.le_refl _) (.cells #[.slice ad n cap, .slice ad' n' cap'] 23)
  have HB0 := Lib.hid hb0
  cases hf : fieldB q [fs, gs]
  · have e1 : mulB q fs gs = false := by simp [mulB, hf]
    have e2 : mulRes q fs gs = [] := by simp [mulRes, e1]
    rw [e1, e2]
    have HF := Lib.hid (show fieldB q (List.map (fun r : RowD => r.2.2) [(ad, cap, fs), (ad', cap', gs)]) = false from hf)
    clear hf e1 e2 hn hn' hb0
    go_enter Try.func16, Try.ntmps16
    go_wp2_with fail
    refine (yGood_any _ _ 0 2 _ [(ad, cap, fs), (ad', cap', gs)] rfl (by omega) HLL.out _ HR.out).mono ?_
    rintro e w' ⟨rfl, rfl⟩; rw [HF.out]
    go_wp2
    go_ret2
    exact listOut_nil _ _ HB0.out
  · obtain ⟨_, hsf, hsg⟩ := field_two hf
    obtain ⟨h2, h3, hfl, hfr⟩ := shortB_of hsf
    obtain ⟨_, _, hgl, hgr⟩ := shortB_of hsg
    have HF := Lib.hid (show fieldB q (List.map (fun r : RowD => r.2.2) [(ad, cap, fs), (ad', cap', gs)]) = true from hf)
    have HFR := Lib.hid hfr
    have HGR := Lib.hid hgr
    have hn24 : n ≤ 24 := by omega
    have hn24' : n' ≤ 24 := by omega
    have HX1 := Lib.hid (hx.below hb0 (Nat.le_refl _))
    have HY1 := Lib.hid (hy.below hb0 (Nat.le_refl _))
    by_cases h0 : n = 0 ∨ n' = 0
    · have e1 : mulB q fs gs = true := by simp [mulB, hf]; omega
      have e2 : mulRes q fs gs = [] := by rw [mulRes, e1, if_pos rfl, mulL, if_pos (by omega)]
      rw [e1, e2]
      have hsz : (n : Int) + (n' : Int) - 1 ≤ 24 := by omega
      have H0 := Lib.hid h0
      clear hf e1 e2 hb0 hfr hgr hfl hgl hsf hsg hn hn' h0
      go_enter Try.func16, Try.ntmps16
      go_wp2_with fail
      refine (yGood_any _ _ 0 2 _ [(ad, cap, fs), (ad', cap', gs)] rfl (by omega) HLL.out _ HR.out).mono ?_
      rintro e w' ⟨rfl, rfl⟩; rw [HF.out]
      go_wp2_with fail
      refine (yMul_nil _ _ _ _ _ _ _ H0.out _).mono ?_
      rintro e w' ⟨rfl, rfl⟩
      go_wp2
      go_ret2
      exact listOut_nilT _ _ HB0.out
    · have HN := Lib.hid hn
      have HN' := Lib.hid hn'
      have H0 := Lib.hid h0
      by_cases h25 : n + n' ≤ 25
      · have e1 : mulB q fs gs = true := by simp [mulB, hf]; omega
        have e2 : mulRes q fs gs = pMul q fs gs := by rw [mulRes, e1, if_pos rfl, mulL, if_neg (by omega)]
        rw [e1, e2]
        have hsz : (n : Int) + (n' : Int) - 1 ≤ 24 := by omega
        clear hf e1 e2 hb0 hfr hgr hfl hgl hsf hsg hn hn' h0
        go_enter Try.func16, Try.ntmps16
        go_wp2_with fail
        refine (yGood_any _ _ 0 2 _ [(ad, cap, fs), (ad', cap', gs)] rfl (by omega) HLL.out _ HR.out).mono ?_
        rintro e w' ⟨rfl, rfl⟩; rw [HF.out]
        go_wp2_with fail
        refine (yMul_any _ _ _ _ _ _ _ fs gs HN.out HN'.out (by have := H0.out; omega) (by have := H0.out; omega) (by omega) (by omega) h2 h3 HFR.out HGR.out _ HX1.out HY1.out).mono ?_
        rintro e w1 ⟨va, vc, rfl, hown, hb1⟩
        have HO := Lib.hid hown
        have HB1 := Lib.hid hb1
        clear hown hb1
        go_wp2
        go_ret2
        exact listOut_own HO.out HB0.out HB1.out
      · have e1 : mulB q fs gs = false := by simp [mulB]; omega
        have e2 : mulRes q fs gs = [] := by simp [mulRes, e1]
        rw [e1, e2]
        have hsz : (24 : Int) < (n : Int) + (n' : Int) - 1 := by omega
        clear hf e1 e2 hb0 hfr hgr hfl hgl hsf hsg hn hn' h0
        go_enter Try.func16, Try.ntmps16
        go_wp2_with fail
        refine (yGood_any _ _ 0 2 _ [(ad, cap, fs), (ad', cap', gs)] rfl (by omega) HLL.out _ HR.out).mono ?_
        rintro e w' ⟨rfl, rfl⟩; rw [HF.out]
        go_wp2
        go_ret2
        exact listOut_nil _ _ HB0.out

theorem mulPolys_ans {q : Int} {P P' : Nat} {w : World} {v v' : Value} {fs gs : List Int} (hx : InI P w v fs) (hy : InI P' w v' gs) (hl : fs.length ≤ 17592186044416) (hl' : gs.length ≤ 17592186044416) :
    Calls Try.prog 15 #[.int .i64 q, v, v'] w (AnsY w (mulRes q fs gs) (mulB q fs gs)) := by
  obtain ⟨_, ad, cap, rfl, h1, _⟩ := hx
  obtain ⟨_, ad', cap', rfl, h1', _⟩ := hy
  exact (mulPolys_any q ad ad' _ _ cap cap' fs gs rfl rfl hl hl' w h1.ints h1'.ints).mono fun _ _ h => ansY_of h
theorem sMulPolys_ans {q : Int} {P P' : Nat} {w : World} {v v' : Value} {fs gs : List Int} (hx : InI P w v fs) (hy : InI P' w v' gs) (hl : fs.length ≤ 17592186044416) (hl' : gs.length ≤ 17592186044416) :
    Calls Try.prog 16 #[.int .i64 q, v, v'] w (AnsY w (mulRes q fs gs) (mulB q fs gs)) := by
  obtain ⟨_, ad, cap, rfl, h1, _⟩ := hx
  obtain ⟨_, ad', cap', rfl, h1', _⟩ := hy
  exact (sMulPolys_any q ad ad' _ _ cap cap' fs gs rfl rfl hl hl' w h1.ints h1'.ints).mono fun _ _ h => ansY_of h

end Go.Proofs.Ytkeokcebanodeaa
