/- Polynomials with given roots: PolyFromRoots of both. -/
import Derived.Test.YtipfckfjelignaaPolG
namespace Go.Proofs.Ytipfckfjelignaa
open Go.RowKit

/-- What is still to be multiplied with P. -/
def RootsAt (q : Int) (rs : List Int) (k : Nat) (P : List Int) : Prop := P.length = k + 1 ∧ (∀ z ∈ P, 0 ≤ z ∧ z < q) ∧ rootsFrom q P (rs.drop k) = pRoots q rs
theorem rootsAt_zero {q : Int} {rs : List Int} (hq : 1 < q) : RootsAt q rs 0 [1] := ⟨rfl, by intro z hz; simp at hz; omega, rfl⟩
theorem rootsAt_step {q r : Int} {rs rest P : List Int} {k : Nat} (hq : 0 < q) (h : RootsAt q rs k P) (hd : rs.drop k = r :: rest) : RootsAt q rs (k + 1) (pMul q P [(-r) % q, 1]) := by
  obtain ⟨h1, _, h3⟩ := h
  refine ⟨by rw [pMul_length]; simp; omega, pMul_res hq _ _, ?_⟩
  have e : rs.drop (k + 1) = rest := by rw [← List.drop_drop, hd]; rfl
  rw [e, ← h3, hd]; rfl
theorem rootsAt_end {q : Int} {rs P : List Int} {k : Nat} (h : RootsAt q rs k P) (hk : rs.length ≤ k) : P = pRoots q rs := by
  have := h.2.2
  rwa [List.drop_of_length_le hk] at this
theorem lin_res {q r : Int} (hq : 1 < q) : ∀ z ∈ [(-r) % q, 1], 0 ≤ z ∧ z < q := by
  intro z hz
  simp only [List.mem_cons, List.not_mem_nil, or_false] at hz
  rcases hz with rfl | rfl
  · exact ⟨Int.emod_nonneg _ (by omega), Int.emod_lt_of_pos _ (by omega)⟩
  · omega

set_option maxHeartbeats 1600000 in
theorem polyWithRoots_any (q : Int) (ad : Option Addr) (n cap : Nat) (rs : List Int) (hn : rs.length = n) (hl : n ≤ 1000) (h2 : 2 ≤ q) (h3 : q ≤ 2000000000) (hr : ∀ z ∈ rs, 0 ≤ z ∧ z < q) (w : World) (hx : IsInts w ad rs) :
    Calls Try.prog 98 #[.int .i64 q, .slice ad n cap] w (OwnOut w (pRoots q rs)) := by
  have HRR := Lib.hid hr
  have HN := Lib.hid hn
  have HO1 := Lib.hid (own_lit w [1] (by decide) 3)
  have HB1 := Lib.hid (ba w (.cells ([(1 : Int)].map (Value.int .i64)).toArray 3))
  clear hr hn
  go_enter Try.func98, Try.ntmps98
  go_wp2_with fail
  go_loopw [5, 11] (fun V K wr => ∃ (k : Nat) (P : List Int) (va : Option Addr) (vc : Nat), k ≤ n ∧ K = .int .i64 k ∧ V = .slice va (k + 1) vc ∧ RootsAt q rs k P ∧ wr.ownsRow w.heap.size 3 1 (.slice va (k + 1) vc) (k + 1) (P.map (Value.int .i64)) ∧ Below w.heap.size w wr) (fun _ K _ => n - (intOf K).toNat)
  case atStart => exact ⟨0, [1], _, _, Nat.zero_le _, rfl, rfl, rootsAt_zero (by omega), HO1.out, HB1.out⟩
  case round =>
    obtain ⟨k, P, va, vc, hk, rfl, rfl, hm, hownr, hbel⟩ := hrel
    by_cases hkn : k < n
    · obtain ⟨b, off, r, rfl, hb, hc, hd⟩ := (hx.below hbel (Nat.le_refl _)).at (k := k) (by have := HN.out; omega)
      obtain ⟨hr0, hr1⟩ := HRR.out r (mem_drop hd)
      obtain ⟨hP, hPl, _⟩ := ints_of_own_any hownr
      have HPR := Lib.hid hm.2.1
      have HPI := Lib.hid hP
      have HPL := Lib.hid hPl
      have HMS := Lib.hid (rootsAt_step (show 0 < q by omega) hm hd)
      have HB := Lib.hid hbel
      clear hm hd hownr hbel hP hPl HO1 HB1
      go_wp2_with fail
      refine (subtract_any q 0 r h2 h3 (by omega) (by omega) hr0 hr1 _).mono ?_
      rintro e w' ⟨rfl, rfl⟩
      rw [Int.zero_sub]
      have HAL := Lib.hid (ba wr (.cells ([(-r) % q, 1].map (Value.int .i64)).toArray 3))
      have HLI := Lib.hid (ints_lit wr [(-r) % q, 1] 3)
      have HPJ := Lib.hid (HPI.out.below HAL.out (Nat.le_refl _))
      go_wp2_with fail
      refine (multiplyPolys_any q va _ (k + 1) 2 vc _ P [(-r) % q, 1] HPL.out rfl (by omega) (by omega) (by omega) (by omega) h2 h3 HPR.out (lin_res (by omega)) _ HPJ.out HLI.out).mono ?_
      rintro e w3 ⟨va', vc', rfl, hown3, hb3⟩
      rw [HMS.out.1] at hown3 ⊢
      have HO3 := Lib.hid (own_base hown3 (Nat.le_trans HB.out.size HAL.out.size))
      have HB3 := Lib.hid (HB.out.trans ((HAL.out.trans (hb3.mono HAL.out.size)).mono HB.out.size))
      clear hown3 hb3
      go_wp2
      go_roundw
      case rel => exact ⟨k + 1, _, va', vc', by omega, by go_num, rfl, HMS.out, HO3.out, HB3.out⟩
      case measure => simp only [intOf]; omega
    · have HO := Lib.hid hownr
      have HB := Lib.hid hbel
      have HE := Lib.hid (rootsAt_end hm (by have := HN.out; omega))
      clear hownr hbel hm
      go_wp2
      go_ret
      have h := HO.out
      rw [HE.out] at h
      exact ownOut_mk h HB.out

theorem nMod_mod (a m : Int) (h0 : -m < a) (h1 : a < m) (h2 : 2 ≤ m) (h3 : m ≤ 2000000000) (w : World) :
    Calls Try.prog 112 #[.int .i64 a, .int .i64 m] w fun e w' => e = .returned (.int .i64 (a % m)) ∧ w = w' := by
  have e : (if a < 0 then a + m else a) = a % m := by
    split
    · rw [← Int.add_emod_right, Int.emod_eq_of_lt (by omega) (by omega)]
    · rw [Int.emod_eq_of_lt (by omega) (by omega)]
  have h := nMod_any a m h0 h1 h2 h3 w
  rwa [e] at h

set_option maxHeartbeats 1600000 in
theorem yRoots_any (q : Int) (ad : Option Addr) (n cap : Nat) (rs : List Int) (hn : rs.length = n) (hl : n ≤ 1000) (h2 : 2 ≤ q) (h3 : q ≤ 2000000000) (hr : ∀ z ∈ rs, 0 ≤ z ∧ z < q) (w : World) (hx : IsInts w ad rs) :
    Calls Try.prog 103 #[.int .i64 q, .slice ad n cap] w (OwnOut w (pRoots q rs)) := by
  have HRR := Lib.hid hr
  have HN := Lib.hid hn
  have HO1 := Lib.hid (own_lit w [1] (by decide) 3)
  have HB1 := Lib.hid (ba w (.cells ([(1 : Int)].map (Value.int .i64)).toArray 3))
  clear hr hn
  go_enter Try.func103, Try.ntmps103
  go_wp2_with fail
  go_loopw [5, 11] (fun V K wr => ∃ (k : Nat) (P : List Int) (va : Option Addr) (vc : Nat), k ≤ n ∧ K = .int .i64 k ∧ V = .slice va (k + 1) vc ∧ RootsAt q rs k P ∧ wr.ownsRow w.heap.size 3 1 (.slice va (k + 1) vc) (k + 1) (P.map (Value.int .i64)) ∧ Below w.heap.size w wr) (fun _ K _ => n - (intOf K).toNat)
  case atStart => exact ⟨0, [1], _, _, Nat.zero_le _, rfl, rfl, rootsAt_zero (by omega), HO1.out, HB1.out⟩
  case round =>
    obtain ⟨k, P, va, vc, hk, rfl, rfl, hm, hownr, hbel⟩ := hrel
    by_cases hkn : k < n
    · obtain ⟨b, off, r, rfl, hb, hc, hd⟩ := (hx.below hbel (Nat.le_refl _)).at (k := k) (by have := HN.out; omega)
      obtain ⟨hr0, hr1⟩ := HRR.out r (mem_drop hd)
      obtain ⟨hP, hPl, _⟩ := ints_of_own_any hownr
      have HPR := Lib.hid hm.2.1
      have HPI := Lib.hid hP
      have HPL := Lib.hid hPl
      have HMS := Lib.hid (rootsAt_step (show 0 < q by omega) hm hd)
      have HB := Lib.hid hbel
      clear hm hd hownr hbel hP hPl HO1 HB1
      go_wp2_with fail
      refine (nMod_mod (-r) q (by omega) (by omega) h2 h3 _).mono ?_
      rintro e w' ⟨rfl, rfl⟩
      have HAL := Lib.hid (ba wr (.cells ([(-r) % q, 1].map (Value.int .i64)).toArray 3))
      have HLI := Lib.hid (ints_lit wr [(-r) % q, 1] 3)
      have HPJ := Lib.hid (HPI.out.below HAL.out (Nat.le_refl _))
      go_wp2_with fail
      refine (yMul_any q va _ (k + 1) 2 vc _ P [(-r) % q, 1] HPL.out rfl (by omega) (by omega) (by omega) (by omega) h2 h3 HPR.out (lin_res (by omega)) _ HPJ.out HLI.out).mono ?_
      rintro e w3 ⟨va', vc', rfl, hown3, hb3⟩
      rw [HMS.out.1] at hown3 ⊢
      have HO3 := Lib.hid (own_base hown3 (Nat.le_trans HB.out.size HAL.out.size))
      have HB3 := Lib.hid (HB.out.trans ((HAL.out.trans (hb3.mono HAL.out.size)).mono HB.out.size))
      clear hown3 hb3
      go_wp2
      go_roundw
      case rel => exact ⟨k + 1, _, va', vc', by omega, by go_num, rfl, HMS.out, HO3.out, HB3.out⟩
      case measure => simp only [intOf]; omega
    · have HO := Lib.hid hownr
      have HB := Lib.hid hbel
      have HE := Lib.hid (rootsAt_end hm (by have := HN.out; omega))
      clear hownr hbel hm
      go_wp2
      go_ret
      have h := HO.out
      rw [HE.out] at h
      exact ownOut_mk h HB.out

def rootsB (q : Int) (rs : List Int) : Bool := fieldB q [rs] && decide (rs.length ≤ 23)
def rootsRes (q : Int) (rs : List Int) : List Int := if rootsB q rs then pRoots q rs else []
theorem rootsRes_le (q : Int) (rs : List Int) : (rootsRes q rs).length ≤ 24 := by
  unfold rootsRes
  split
  · rename_i h
    simp only [rootsB, Bool.and_eq_true, decide_eq_true_eq] at h
    rw [pRoots_length]; omega
  · simp

set_option maxHeartbeats 1600000 in
theorem polyFromRoots_any (q : Int) (ad : Option Addr) (n cap : Nat) (rs : List Int) (hn : rs.length = n) (hl : n ≤ 17592186044416) (w : World) (hx : IsInts w ad rs) :
    Calls Try.prog 40 #[.int .i64 q, .slice ad n cap] w (ListOut w (rootsRes q rs) (rootsB q rs)) := by
  have HR := Lib.hid (rows_one w ad n cap rs hn 27 hx)
  have HLL := Lib.hid (show ∀ r ∈ ([(ad, cap, rs)] : List RowD), r.2.2.length ≤ 17592186044416 by intro r hr; simp at hr; subst hr; simp; omega)
  have hb0 := (Below.refl w.heap.size w).alloc (Nat.le_refl _) (.cells #[.slice ad n cap] 27)
  have HB0 := Lib.hid hb0
  by_cases h23 : n ≤ 23
  · have h23i : (n : Int) + 1 ≤ 24 := by omega
    cases hf : fieldB q [rs]
    · have e1 : rootsB q rs = false := by simp [rootsB, hf]
      have e2 : rootsRes q rs = [] := by simp [rootsRes, e1]
      rw [e1, e2]
      have HF := Lib.hid (show fieldB q (List.map (fun r : RowD => r.2.2) [(ad, cap, rs)]) = false from hf)
      clear hf e1 e2 hn hb0
      go_enter Try.func40, Try.ntmps40
      go_wp2_with fail
      refine (inField_any _ _ 0 1 _ [(ad, cap, rs)] rfl (by omega) HLL.out _ HR.out).mono ?_
      rintro e w' ⟨rfl, rfl⟩; rw [HF.out]
      go_wp2
      go_ret2
      exact listOut_nil _ _ HB0.out
    · have e1 : rootsB q rs = true := by simp [rootsB, hf]; omega
      have e2 : rootsRes q rs = pRoots q rs := by simp [rootsRes, e1]
      rw [e1, e2]
      obtain ⟨h2, h3, _, hfr⟩ := shortB_of (field_one hf).2
      have HF := Lib.hid (show fieldB q (List.map (fun r : RowD => r.2.2) [(ad, cap, rs)]) = true from hf)
      have HFR := Lib.hid hfr
      have HX1 := Lib.hid (hx.below hb0 (Nat.le_refl _))
      have HN := Lib.hid hn
      clear hf e1 e2 hn hb0 hfr
      go_enter Try.func40, Try.ntmps40
      go_wp2_with fail
      refine (inField_any _ _ 0 1 _ [(ad, cap, rs)] rfl (by omega) HLL.out _ HR.out).mono ?_
      rintro e w' ⟨rfl, rfl⟩; rw [HF.out]
      go_wp2_with fail
      refine (polyWithRoots_any q ad n cap rs HN.out (by omega) h2 h3 HFR.out _ HX1.out).mono ?_
      rintro e w1 ⟨va, vc, rfl, hown, hb1⟩
      have HO := Lib.hid hown
      have HB1 := Lib.hid hb1
      clear hown hb1
      go_wp2
      go_ret2
      exact listOut_own HO.out HB0.out HB1.out
  · have e1 : rootsB q rs = false := by simp [rootsB]; omega
    have e2 : rootsRes q rs = [] := by simp [rootsRes, e1]
    rw [e1, e2]
    have h23i : (24 : Int) < (n : Int) + 1 := by omega
    clear e1 e2 hn hb0
    go_enter Try.func40, Try.ntmps40
    go_wp2
    go_ret2
    exact listOut_nil _ _ (Below.refl _ _)

set_option maxHeartbeats 1600000 in
theorem sPolyFromRoots_any (q : Int) (ad : Option Addr) (n cap : Nat) (rs : List Int) (hn : rs.length = n) (hl : n ≤ 17592186044416) (w : World) (hx : IsInts w ad rs) :
    Calls Try.prog 41 #[.int .i64 q, .slice ad n cap] w (ListOut w (rootsRes q rs) (rootsB q rs)) := by
  have HR := Lib.hid (rows_one w ad n cap rs hn 27 hx)
  have HLL := Lib.hid (show ∀ r ∈ ([(ad, cap, rs)] : List RowD), r.2.2.length ≤ 17592186044416 by intro r hr; simp at hr; subst hr; simp; omega)
  have hb0 := (Below.refl w.heap.size w).alloc (Nat.le_refl _) (.cells #[.slice ad n cap] 27)
  have HB0 := Lib.hid hb0
  cases hf : fieldB q [rs]
  · have e1 : rootsB q rs = false := by simp [rootsB, hf]
    have e2 : rootsRes q rs = [] := by simp [rootsRes, e1]
    rw [e1, e2]
    have HF := Lib.hid (show fieldB q (List.map (fun r : RowD => r.2.2) [(ad, cap, rs)]) = false from hf)
    clear hf e1 e2 hn hb0
    go_enter Try.func41, Try.ntmps41
    go_wp2_with fail
    refine (yGood_any _ _ 0 1 _ [(ad, cap, rs)] rfl (by omega) HLL.out _ HR.out).mono ?_
    rintro e w' ⟨rfl, rfl⟩; rw [HF.out]
    go_wp2
    go_ret2
    exact listOut_nil _ _ HB0.out
  · have HF := Lib.hid (show fieldB q (List.map (fun r : RowD => r.2.2) [(ad, cap, rs)]) = true from hf)
    by_cases h23 : n ≤ 23
    · have h23i : (n : Int) < 24 := by omega
      have e1 : rootsB q rs = true := by simp [rootsB, hf]; omega
      have e2 : rootsRes q rs = pRoots q rs := by simp [rootsRes, e1]
      rw [e1, e2]
      obtain ⟨h2, h3, _, hfr⟩ := shortB_of (field_one hf).2
      have HFR := Lib.hid hfr
      have HX1 := Lib.hid (hx.below hb0 (Nat.le_refl _))
      have HN := Lib.hid hn
      clear hf e1 e2 hn hb0 hfr
      go_enter Try.func41, Try.ntmps41
      go_wp2_with fail
      refine (yGood_any _ _ 0 1 _ [(ad, cap, rs)] rfl (by omega) HLL.out _ HR.out).mono ?_
      rintro e w' ⟨rfl, rfl⟩; rw [HF.out]
      go_wp2_with fail
      refine (yRoots_any q ad n cap rs HN.out (by omega) h2 h3 HFR.out _ HX1.out).mono ?_
      rintro e w1 ⟨va, vc, rfl, hown, hb1⟩
      have HO := Lib.hid hown
      have HB1 := Lib.hid hb1
      clear hown hb1
      go_wp2
      go_ret2
      exact listOut_own HO.out HB0.out HB1.out
    · have e1 : rootsB q rs = false := by simp [rootsB]; omega
      have e2 : rootsRes q rs = [] := by simp [rootsRes, e1]
      rw [e1, e2]
      have h23i : (24 : Int) ≤ (n : Int) := by omega
      clear hf e1 e2 hn hb0
      go_enter Try.func41, Try.ntmps41
      go_wp2_with fail
      refine (yGood_any _ _ 0 1 _ [(ad, cap, rs)] rfl (by omega) HLL.out _ HR.out).mono ?_
      rintro e w' ⟨rfl, rfl⟩; rw [HF.out]
      go_wp2
      go_ret2
      exact listOut_nil _ _ HB0.out

theorem polyFromRoots_ans {q : Int} {P : Nat} {w : World} {v : Value} {rs : List Int} (hx : InI P w v rs) (hl : rs.length ≤ 17592186044416) :
    Calls Try.prog 40 #[.int .i64 q, v] w (AnsY w (rootsRes q rs) (rootsB q rs)) := by
  obtain ⟨_, ad, cap, rfl, h1, _⟩ := hx
  exact (polyFromRoots_any q ad _ cap rs rfl hl w h1.ints).mono fun _ _ h => ansY_of h
theorem sPolyFromRoots_ans {q : Int} {P : Nat} {w : World} {v : Value} {rs : List Int} (hx : InI P w v rs) (hl : rs.length ≤ 17592186044416) :
    Calls Try.prog 41 #[.int .i64 q, v] w (AnsY w (rootsRes q rs) (rootsB q rs)) := by
  obtain ⟨_, ad, cap, rfl, h1, _⟩ := hx
  exact (sPolyFromRoots_any q ad _ cap rs rfl hl w h1.ints).mono fun _ _ h => ansY_of h

end Go.Proofs.Ytipfckfjelignaa

