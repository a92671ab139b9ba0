/- Interpolate of the reference. -/
import Derived.Test.YtipfckfjelignaaPolO
namespace Go.Proofs.Ytipfckfjelignaa
open Go.RowKit

theorem pRoots_fac {q x : Int} (hq : 1 < q) (rs : List Int) : pev q x (pRoots q rs) = fac q x rs := pRoots_pev hq rs

set_option maxRecDepth 20000 in
set_option maxHeartbeats 3200000 in
theorem yInterpolate_any (q : Int) (ad ad' : Option Addr) (n cap cap' : Nat) (xs ys : List Int) (hn : xs.length = n) (hn' : ys.length = n) (hl : n ≤ 1000) (hcap : n ≤ cap) (hpr : isPr q = true) (hnd : xs.Nodup)
    (hres : ∀ z ∈ xs, 0 ≤ z ∧ z < q) (hresy : ∀ z ∈ ys, 0 ≤ z ∧ z < q) (w : World) (hx : IsInts w ad xs) (hy : IsInts w ad' ys) :
    Calls Try.prog 100 #[.int .i64 q, .slice ad n cap, .slice ad' n cap'] w (OwnOut w (itp q xs ys)) := by
  obtain ⟨h2, h3, _⟩ := isPr_num hpr
  obtain ⟨i0, hi0, hz0, hz1, hz2⟩ := info_parts Try.info3
  have HZ2 := Lib.hid hz2
  have HN := Lib.hid hn
  have HN' := Lib.hid hn'
  have HPR := Lib.hid hpr
  have HND := Lib.hid hnd
  have HRES := Lib.hid hres
  have HRESY := Lib.hid hresy
  clear hn hn' hpr hnd hres hresy
  go_enter Try.func100, Try.ntmps100
  go_wp2_with (at_make
               refine wpList_make_full _ rfl _ _ 27 rfl w.heap.size 3 i0 (.int .i64 0) 1 Try.underlying27 hi0 hz0 hz1 .i64 .i64 _ _ n rfl rfl rfl rfl (by rw [HZ2.out]; omega) (by unfold maxLen; omega) (Nat.le_refl _) ?_
               intro w1 hown hgrow
               have HOW := Lib.hid (made_zeros hown)
               have HB1 := Lib.hid ((Below.refl w.heap.size w).grown hgrow (Nat.le_refl _) (by simp))
               clear hown hgrow)
  go_loopw [7, 19] (fun V K wr => ∃ (k : Nat) (P : List Int) (va : Option Addr) (vc : Nat), k ≤ n ∧ V = .slice va n vc ∧ K = .int .i64 k ∧ ItpAt q xs ys n k P ∧ wr.ownsRow w.heap.size 3 1 (.slice va n vc) n (P.map (Value.int .i64)) ∧ Below w.heap.size w wr) (fun _ K _ => n - (intOf K).toNat)
  case atStart => exact ⟨0, _, _, _, Nat.zero_le _, rfl, rfl, itpAt_zero (by omega) HN.out, HOW.out, HB1.out⟩
  case round =>
    obtain ⟨k, P, va, vc, hk, rfl, rfl, hm, hownr, hbel⟩ := hrel
    by_cases hkn : k < n
    · have hxr := hx.below hbel (Nat.le_refl _)
      have hyr := hy.below hbel (Nat.le_refl _)
      obtain ⟨by', offy, y, rfl, hby, hcy, hdy⟩ := hyr.at (k := k) (by have := HN'.out; omega)
      obtain ⟨hy0, hy1⟩ := HRESY.out y (mem_drop hdy)
      have HPRS := Lib.hid hm.2.1
      have HPL := Lib.hid hm.1
      have HMS := Lib.hid (itpAt_step (show 0 < q by omega) hm hdy)
      obtain ⟨b, off, z, rfl, hb, hc, hd⟩ := hxr.at (k := k) (by have := HN.out; omega)
      obtain ⟨hz0', hz1'⟩ := HRES.out z (mem_drop hd)
      obtain ⟨hf0, hfok⟩ := fac_inv HPR.out HRES.out HND.out hd
      obtain ⟨hfb0, hfb1⟩ := fac_range (q := q) (x := z) (by omega) (wo xs k)
      obtain ⟨hi0', hi1'⟩ := itpC_range (show 0 < q by omega) xs k y
      have HOK := Lib.hid hfok
      have HZ := Lib.hid (at_of_drop hd)
      have HO := Lib.hid hownr
      have HB := Lib.hid hbel
      have HWL := Lib.hid (show (wo xs k).length + 1 = n by rw [wo_length (by have := HN.out; omega)]; have := HN.out; omega)
      have HWR := Lib.hid (show ∀ z ∈ wo xs k, 0 ≤ z ∧ z < q from fun z h => HRES.out z (wo_mem h))
      have HBD := Lib.hid (show Below wr.heap.size wr wr.drew from (Below.refl _ _).drew)
      have HXD := Lib.hid (hxr.below HBD.out (Nat.le_refl _))
      have HTL := Lib.hid (show (xs.take k).length = k by simp; have := HN.out; omega)
      have HDL := Lib.hid (show (xs.drop (k + 1)).length = n - (k + 1) by simp; have := HN.out; omega)
      have HCY := Lib.hid hcy
      have HBY := Lib.hid hby
      have hwr : IntKind.i64.wrap ((k : Int) + 1) = (k : Int) + 1 := by rw [IntKind.wrap_i64]; omega
      have hp0 : (0 : Int) ≤ (k : Int) + 1 := by omega
      have hp2 : ((k : Int) + 1).toNat = k + 1 := by omega
      have hp3 : (k : Int) + 1 ≤ (n : Int) := by omega
      have hp4 : (k : Int) + 1 ≤ (cap : Int) := by omega
      have hp5 : k ≤ cap := by omega
      clear hownr hbel hd hfok hxr hyr HOW HB1 hm hdy hcy hby
      obtain ⟨L, hL⟩ : ∃ L, k + (n - (k + 1)) = L := ⟨_, rfl⟩
      have HL4 := Lib.hid (show (wo xs k).length = L by have := HWL.out; omega)
      have hL24 : L ≤ 1000 := by omega
      by_cases hkc : cap = k + 1
      · subst hkc
        have HE0 := Lib.hid (show xs.drop (k + 1) = [] from List.drop_of_length_le (by have := HN.out; omega))
        have hkk : (k : Int) ≤ (k : Int) + 1 := by omega
        have HDL0 := Lib.hid (show (xs.drop (k + 1)).length = 0 by rw [HE0.out]; rfl)
        have hL0 : k + 0 = L := by omega
        go_wp2_with fail
        go_region_law (first
          | (go_simp
             go_at_call 131
             refine (l1Own_any (some ⟨b, off, none⟩) k (k + 1) (xs.take k) HTL.out (by omega) (fun h => by cases h) _ (HXD.out.take k)).mono ?_
             rintro e w3 ⟨vo, vco, rfl, hown3, hb3⟩
             rw [HTL.out] at hown3 ⊢
             have HO3 := Lib.hid hown3
             have HB3 := Lib.hid (HBD.out.trans hb3)
             have HXD3 := Lib.hid (show IsInts w3 (some ⟨b, off, none⟩) (xs.drop (k + 1)) from .inl HE0.out)
             clear hown3 hb3)
          | (refine step_append_ints (by rfl) (.tmp 27) (.tmp 31) _ (by rfl) wr.heap.size 3 i0 Try.underlying27 hi0 hz0 hz1 hz2 (.slice vo k vco) k (xs.take k) (by simp [Act.eval]) HO3.out (some ⟨b, off, none⟩) 0 0 (xs.drop (k + 1)) (by simp [Act.eval]) HDL0.out HXD3.out (fun h => by cases h) (by omega) HB3.out.size ?_
             intro v' w4 hown4 hgrow4
             rw [hL0] at hown4
             obtain ⟨vr, vrc, rfl⟩ := own_shape hown4
             obtain ⟨hi4, _, _⟩ := ints_of_own_any hown4
             have HI4 := Lib.hid (show IsInts w4 vr (wo xs k) from hi4)
             have HB4 := Lib.hid (HB3.out.grown hgrow4 HB3.out.size (fun q hq => (HO3.out.lt q hq).1))
             clear hown4 hgrow4 hi4)
          | fail)
        go_wp2_with fail
        refine (yRoots_any q vr L vrc (wo xs k) HL4.out (by omega) h2 h3 HWR.out _ HI4.out).mono ?_
        rintro e w5 ⟨vf, vfc, rfl, hown5, hb5⟩
        rw [pRoots_length, HWL.out] at hown5 ⊢
        obtain ⟨hi5, hl5, _⟩ := ints_of_own_any hown5
        have HI5 := Lib.hid hi5
        have HL5 := Lib.hid hl5
        have HB5 := Lib.hid (bt HB4.out hb5)
        have hcy5 : w5.cell? ⟨by', offy + k, none⟩ = some (.int .i64 y) := by rw [HB5.out.cell (p := ⟨by', offy + k, none⟩) HBY.out]; exact HCY.out
        have HCY5 := Lib.hid hcy5
        clear hown5 hb5 hi5 hl5 hcy5
        go_wp2_with fail
        refine (yEval_any q vf n vfc (pRoots q (wo xs k)) z HL5.out (by omega) h2 h3 hz0' hz1' (pRoots_res (by omega) _) _ HI5.out).mono ?_
        rintro e w' ⟨rfl, rfl⟩
        rw [pRoots_fac (by omega)]
        have HNI := Lib.hid (show Num.ninv (fac q z (wo xs k)) q = Num.inv (fac q z (wo xs k)) q by rw [Num.inv_ninv, HOK.out]; rfl)
        obtain ⟨_, v0, v1⟩ := inv_res ⟨hfb0, hfb1⟩ h2 HOK.out
        obtain ⟨p0, p1⟩ := mul_res h3 hy0 hy1 v0 v1
        have HMS2 := Lib.hid (show ItpAt q xs ys n (k + 1) (axpy q P (y * Num.inv (fac q z (wo xs k)) q % q) (pRoots q (wo xs k))) by have h := HMS.out; unfold itpC at h; rwa [HZ.out] at h)
        generalize fac q z (wo xs k) = fb at *
        go_wp2_with fail
        refine (nInverse_any fb q hfb0 hfb1 h2 h3 _).mono ?_
        rintro e w' ⟨rfl, rfl⟩
        rw [HNI.out]
        generalize Num.inv fb q = iv at *
        have hc0 : 0 ≤ y * iv % q := Int.emod_nonneg _ (by omega)
        have hc1 : y * iv % q < q := Int.emod_lt_of_pos _ (by omega)
        have hcy6 := HCY5.out
        have HAL := Lib.hid (ba w5 (.cells ([y * iv % q].map (Value.int .i64)).toArray 3))
        have HLI := Lib.hid (ints_lit w5 [y * iv % q] 3)
        have HI5A := Lib.hid (HI5.out.below HAL.out (Nat.le_refl _))
        have HC1 := Lib.hid (show ∀ z ∈ [y * iv % q], 0 ≤ z ∧ z < q by intro z hz; rw [List.mem_singleton] at hz; subst hz; exact ⟨hc0, hc1⟩)
        clear hc0 hc1
        go_wp2_with fail
        refine (yMul_any q vf _ n 1 vfc _ (pRoots q (wo xs k)) [y * iv % q] HL5.out rfl (by omega) (by omega) (by omega) (by omega) h2 h3 (pRoots_res (by omega) _) HC1.out _ HI5A.out HLI.out).mono ?_
        rintro e w6 ⟨vm, vmc, rfl, hown6, hb6⟩
        have HML := Lib.hid (show (pMul q (pRoots q (wo xs k)) [y * iv % q]).length = n by rw [pMul_length, HL5.out]; rfl)
        rw [HML.out] at hown6 ⊢
        obtain ⟨hi6, _, _⟩ := ints_of_own_any hown6
        have HI6 := Lib.hid hi6
        have HB6 := Lib.hid (bt HB5.out (bt HAL.out hb6))
        have HP6 := Lib.hid (ints_of_own_any (own_below HO.out HB6.out)).1
        clear hown6 hb6 hi6 hcy6
        go_wp2_with fail
        refine (yAdd_any q va vm n n vc vmc P (pMul q (pRoots q (wo xs k)) [y * iv % q]) HPL.out HML.out (by omega) (by omega) h2 h3 HPRS.out (pMul_res (by omega) _ _) _ HP6.out HI6.out).mono ?_
        rw [pAdd_axpy (by rw [HL5.out, HPL.out])]
        rintro e w7 ⟨vs, vsc, rfl, hown7, hb7⟩
        rw [HMS2.out.1] at hown7 ⊢
        have HO7 := Lib.hid (own_base hown7 (Nat.le_trans HB.out.size HB6.out.size))
        have HB7 := Lib.hid (HB.out.trans ((bt HB6.out hb7).mono HB.out.size))
        clear hown7 hb7
        go_wp2
        go_roundw
        case rel => exact ⟨k + 1, _, vs, vsc, by omega, rfl, by go_num, HMS2.out, HO7.out, HB7.out⟩
        case measure => simp only [intOf]; omega
      · go_wp2_with fail
        go_region_law (first
          | (go_simp
             go_at_call 131
             refine (l1Own_any (some ⟨b, off, none⟩) k cap (xs.take k) HTL.out (by omega) (fun h => by cases h) _ (HXD.out.take k)).mono ?_
             rintro e w3 ⟨vo, vco, rfl, hown3, hb3⟩
             rw [HTL.out] at hown3 ⊢
             have HO3 := Lib.hid hown3
             have HB3 := Lib.hid (HBD.out.trans hb3)
             have HXD3 := Lib.hid ((HXD.out.below hb3 (Nat.le_refl _)).drop (k + 1))
             clear hown3 hb3)
          | (refine step_append_ints (by rfl) (.tmp 27) (.tmp 31) _ (by rfl) wr.heap.size 3 i0 Try.underlying27 hi0 hz0 hz1 hz2 (.slice vo k vco) k (xs.take k) (by simp [Act.eval]) HO3.out (some ⟨b, off + (k + 1), none⟩) (n - (k + 1)) (cap - (k + 1)) (xs.drop (k + 1)) (by simp [Act.eval]) HDL.out HXD3.out (fun h => by cases h) (by omega) HB3.out.size ?_
             intro v' w4 hown4 hgrow4
             rw [hL] at hown4
             obtain ⟨vr, vrc, rfl⟩ := own_shape hown4
             obtain ⟨hi4, _, _⟩ := ints_of_own_any hown4
             have HI4 := Lib.hid (show IsInts w4 vr (wo xs k) from hi4)
             have HB4 := Lib.hid (HB3.out.grown hgrow4 HB3.out.size (fun q hq => (HO3.out.lt q hq).1))
             clear hown4 hgrow4 hi4)
          | fail)
        go_wp2_with fail
        refine (yRoots_any q vr L vrc (wo xs k) HL4.out (by omega) h2 h3 HWR.out _ HI4.out).mono ?_
        rintro e w5 ⟨vf, vfc, rfl, hown5, hb5⟩
        rw [pRoots_length, HWL.out] at hown5 ⊢
        obtain ⟨hi5, hl5, _⟩ := ints_of_own_any hown5
        have HI5 := Lib.hid hi5
        have HL5 := Lib.hid hl5
        have HB5 := Lib.hid (bt HB4.out hb5)
        have hcy5 : w5.cell? ⟨by', offy + k, none⟩ = some (.int .i64 y) := by rw [HB5.out.cell (p := ⟨by', offy + k, none⟩) HBY.out]; exact HCY.out
        have HCY5 := Lib.hid hcy5
        clear hown5 hb5 hi5 hl5 hcy5
        go_wp2_with fail
        refine (yEval_any q vf n vfc (pRoots q (wo xs k)) z HL5.out (by omega) h2 h3 hz0' hz1' (pRoots_res (by omega) _) _ HI5.out).mono ?_
        rintro e w' ⟨rfl, rfl⟩
        rw [pRoots_fac (by omega)]
        have HNI := Lib.hid (show Num.ninv (fac q z (wo xs k)) q = Num.inv (fac q z (wo xs k)) q by rw [Num.inv_ninv, HOK.out]; rfl)
        obtain ⟨_, v0, v1⟩ := inv_res ⟨hfb0, hfb1⟩ h2 HOK.out
        obtain ⟨p0, p1⟩ := mul_res h3 hy0 hy1 v0 v1
        have HMS2 := Lib.hid (show ItpAt q xs ys n (k + 1) (axpy q P (y * Num.inv (fac q z (wo xs k)) q % q) (pRoots q (wo xs k))) by have h := HMS.out; unfold itpC at h; rwa [HZ.out] at h)
        generalize fac q z (wo xs k) = fb at *
        go_wp2_with fail
        refine (nInverse_any fb q hfb0 hfb1 h2 h3 _).mono ?_
        rintro e w' ⟨rfl, rfl⟩
        rw [HNI.out]
        generalize Num.inv fb q = iv at *
        have hc0 : 0 ≤ y * iv % q := Int.emod_nonneg _ (by omega)
        have hc1 : y * iv % q < q := Int.emod_lt_of_pos _ (by omega)
        have hcy6 := HCY5.out
        have HAL := Lib.hid (ba w5 (.cells ([y * iv % q].map (Value.int .i64)).toArray 3))
        have HLI := Lib.hid (ints_lit w5 [y * iv % q] 3)
        have HI5A := Lib.hid (HI5.out.below HAL.out (Nat.le_refl _))
        have HC1 := Lib.hid (show ∀ z ∈ [y * iv % q], 0 ≤ z ∧ z < q by intro z hz; rw [List.mem_singleton] at hz; subst hz; exact ⟨hc0, hc1⟩)
        clear hc0 hc1
        go_wp2_with fail
        refine (yMul_any q vf _ n 1 vfc _ (pRoots q (wo xs k)) [y * iv % q] HL5.out rfl (by omega) (by omega) (by omega) (by omega) h2 h3 (pRoots_res (by omega) _) HC1.out _ HI5A.out HLI.out).mono ?_
        rintro e w6 ⟨vm, vmc, rfl, hown6, hb6⟩
        have HML := Lib.hid (show (pMul q (pRoots q (wo xs k)) [y * iv % q]).length = n by rw [pMul_length, HL5.out]; rfl)
        rw [HML.out] at hown6 ⊢
        obtain ⟨hi6, _, _⟩ := ints_of_own_any hown6
        have HI6 := Lib.hid hi6
        have HB6 := Lib.hid (bt HB5.out (bt HAL.out hb6))
        have HP6 := Lib.hid (ints_of_own_any (own_below HO.out HB6.out)).1
        clear hown6 hb6 hi6 hcy6
        go_wp2_with fail
        refine (yAdd_any q va vm n n vc vmc P (pMul q (pRoots q (wo xs k)) [y * iv % q]) HPL.out HML.out (by omega) (by omega) h2 h3 HPRS.out (pMul_res (by omega) _ _) _ HP6.out HI6.out).mono ?_
        rw [pAdd_axpy (by rw [HL5.out, HPL.out])]
        rintro e w7 ⟨vs, vsc, rfl, hown7, hb7⟩
        rw [HMS2.out.1] at hown7 ⊢
        have HO7 := Lib.hid (own_base hown7 (Nat.le_trans HB.out.size HB6.out.size))
        have HB7 := Lib.hid (HB.out.trans ((bt HB6.out hb7).mono HB.out.size))
        clear hown7 hb7
        go_wp2
        go_roundw
        case rel => exact ⟨k + 1, _, vs, vsc, by omega, rfl, by go_num, HMS2.out, HO7.out, HB7.out⟩
        case measure => simp only [intOf]; omega
    · have HO := Lib.hid hownr
      have HB := Lib.hid hbel
      have HE := Lib.hid (itpAt_end hm (by have := HN'.out; omega))
      clear hownr hbel hm HOW HB1
      go_wp2
      go_ret
      have h := HO.out
      rw [HE.out] at h
      exact ownOut_mk h HB.out

end Go.Proofs.Ytipfckfjelignaa

