/- Lagrange coefficients of the reference; ValueFrom of both. -/
import Derived.Test.YtkeokcebanodeaaPolK
namespace Go.Proofs.Ytkeokcebanodeaa
open Go.RowKit

/-- What is left of a list without its i-th element from the j-th on. -/
def remW (xs : List Int) (i j : Nat) : List Int := if j ≤ i then wo (xs.drop j) (i - j) else xs.drop j
theorem remW_zero (xs : List Int) (i : Nat) : remW xs i 0 = wo xs i := by simp [remW]
theorem remW_step {xs : List Int} {z : Int} {i j : Nat} (h : xs.drop j = z :: xs.drop (j + 1)) (hne : j ≠ i) : remW xs i j = z :: remW xs i (j + 1) := by
  unfold remW
  rcases Nat.lt_or_gt_of_ne hne with hlt | hgt
  · rw [if_pos (by omega), if_pos (by omega), h]
    obtain ⟨s, hs⟩ : ∃ s, i - j = s + 1 := ⟨i - j - 1, by omega⟩
    rw [hs, show i - (j + 1) = s by omega]
    simp [wo]
  · rw [if_neg (by omega), if_neg (by omega), h]
theorem remW_skip {xs : List Int} {z : Int} {i : Nat} (h : xs.drop i = z :: xs.drop (i + 1)) : remW xs i i = remW xs i (i + 1) := by
  unfold remW
  rw [if_pos (Nat.le_refl _), if_neg (by omega), Nat.sub_self, h]
  simp [wo]
theorem remW_end {xs : List Int} {i j : Nat} (hi : i < xs.length) (hj : xs.length ≤ j) : remW xs i j = [] := by
  unfold remW
  rw [if_neg (by omega), List.drop_of_length_le hj]
theorem lagr_take {q x : Int} {xs : List Int} {k : Nat} (h : k < xs.length) : (lagr q x xs).take (k + 1) = (lagr q x xs).take k ++ [coefAt q x xs k] := by
  rw [List.take_succ_eq_append_getElem (by rw [lagr_length]; exact h), lagr_get]

set_option maxHeartbeats 3200000 in
theorem yLagrange_any (q : Int) (ad : Option Addr) (n cap : Nat) (xs : List Int) (x : Int) (hn : xs.length = n) (hl : n ≤ 100000) (hpr : isPr q = true) (hres : ∀ z ∈ xs, 0 ≤ z ∧ z < q) (hnd : xs.Nodup) (hx0 : 0 ≤ x) (hx1 : x < q) (w : World) (hx : IsInts w ad xs) :
    Calls Try.prog 73 #[.int .i64 q, .slice ad n cap, .int .i64 x] w (OwnOut w (lagr q x xs)) := by
  obtain ⟨i0, hi, hz0, hz1, hz2⟩ := info_parts Try.info3
  obtain ⟨h2, h3, _⟩ := isPr_num hpr
  have HN := Lib.hid hn
  have HPR := Lib.hid hpr
  have HND := Lib.hid hnd
  have HRES := Lib.hid hres
  clear hn hpr hnd hres
  go_enter Try.func73, Try.ntmps73
  go_wp2_with fail
  go_loopg [7, 18] n (fun gk V K wr => ∃ (k : Nat) (va : Option Addr) (vc : Nat), gk + k = n ∧ k ≤ n ∧ V = .slice va k vc ∧ K = .int .i64 k ∧ wr.ownsRow w.heap.size 3 1 (.slice va k vc) k (((lagr q x xs).take k).map (Value.int .i64)) ∧ Below w.heap.size w wr)
  case atStart => exact ⟨0, none, 0, by omega, Nat.zero_le _, rfl, rfl, World.ownsRow_nil _ _ _ _, Below.refl _ _⟩
  case round =>
    obtain ⟨k, va, vc, hgk, hk, rfl, rfl, hownr, hbel⟩ := hrel
    have HGK := Lib.hid hgk
    clear hgk
    by_cases hkn : k < n
    · have hxr := hx.below hbel (Nat.le_refl _)
      obtain ⟨b, off, z, rfl, hb, hc, hd⟩ := hxr.at (k := k) (by have := HN.out; omega)
      obtain ⟨hz0', hz1'⟩ := HRES.out z (mem_drop hd)
      obtain ⟨hf0, hfok⟩ := fac_inv HPR.out HRES.out HND.out hd
      obtain ⟨hfa0, hfa1⟩ := fac_range (q := q) (x := x) (by omega) (wo xs k)
      obtain ⟨hfb0, hfb1⟩ := fac_range (q := q) (x := z) (by omega) (wo xs k)
      have HOK := Lib.hid hfok
      have HZ := Lib.hid (at_of_drop hd)
      have HO := Lib.hid hownr
      have HB := Lib.hid hbel
      have HXR := Lib.hid hxr
      have HD := Lib.hid hd
      have HFA := Lib.hid (And.intro hfa0 hfa1)
      have HFB := Lib.hid (And.intro hfb0 hfb1)
      clear hownr hbel hd hfok hxr hf0 hfa0 hfa1 hfb0 hfb1
      go_wp2_with fail
      go_loopg [10, 11, 25] n (fun gj U D J wj => ∃ (j : Nat) (u d : Int), gj + j = n ∧ j ≤ n ∧ (0 ≤ u ∧ u < q) ∧ (0 ≤ d ∧ d < q) ∧ U = .int .i64 u ∧ D = .int .i64 d ∧ J = .int .i64 j ∧ fac q x (wo xs k) = facFrom q x u (remW xs k j) ∧ fac q z (wo xs k) = facFrom q z d (remW xs k j) ∧ wj = wr)
      case atStart => exact ⟨0, 1, 1, by omega, Nat.zero_le _, ⟨by omega, by omega⟩, ⟨by omega, by omega⟩, rfl, rfl, rfl, by rw [remW_zero]; rfl, by rw [remW_zero]; rfl, rfl⟩
      case round =>
        obtain ⟨j, u, d, hgj, hj, ⟨hu0, hu1⟩, ⟨hd0, hd1⟩, rfl, rfl, rfl, hfu, hfd, rfl⟩ := hrel
        have HGJ := Lib.hid hgj
        clear hgj
        by_cases hjn : j < n
        · obtain ⟨b', off', y, hbo, hb', hcy, hdy⟩ := HXR.out.at (k := j) (by have := HN.out; omega)
          simp only [Option.some.injEq, Addr.mk.injEq, and_true] at hbo
          obtain ⟨rfl, rfl⟩ := hbo
          obtain ⟨hy0, hy1⟩ := HRES.out y (mem_drop hdy)
          by_cases hjk : j = k
          · subst hjk
            have HFU := Lib.hid (hfu.trans (by rw [remW_skip hdy]))
            have HFD := Lib.hid (hfd.trans (by rw [remW_skip hdy]))
            clear hfu hfd hdy
            go_wp2_with fail
            go_roundg (n - (j + 1))
            case measure => have := HGJ.out; omega
            case rel => exact ⟨j + 1, u, d, by omega, by omega, ⟨hu0, hu1⟩, ⟨hd0, hd1⟩, rfl, rfl, by go_num, HFU.out, HFD.out, rfl⟩
          · have hjb : ((j : Int) != (k : Int)) = true := by simp; omega
            have hm0 : 0 ≤ (x - y) % q := Int.emod_nonneg _ (by omega)
            have hm1 : (x - y) % q < q := Int.emod_lt_of_pos _ (by omega)
            have hn0 : 0 ≤ (z - y) % q := Int.emod_nonneg _ (by omega)
            have hn1 : (z - y) % q < q := Int.emod_lt_of_pos _ (by omega)
            have HFU := Lib.hid (hfu.trans (show facFrom q x u (remW xs k j) = facFrom q x (u * ((x - y) % q) % q) (remW xs k (j + 1)) by rw [remW_step hdy hjk]; rfl))
            have HFD := Lib.hid (hfd.trans (show facFrom q z d (remW xs k j) = facFrom q z (d * ((z - y) % q) % q) (remW xs k (j + 1)) by rw [remW_step hdy hjk]; rfl))
            obtain ⟨s0, s1⟩ := mul_res h3 hu0 hu1 hm0 hm1
            obtain ⟨t0, t1⟩ := mul_res h3 hd0 hd1 hn0 hn1
            clear hfu hfd hdy hjk
            go_wp2_with fail
            refine (nMod_mod (x - y) q (by omega) (by omega) h2 h3 _).mono ?_
            rintro e w' ⟨rfl, rfl⟩
            generalize (x - y) % q = mx at *
            have hu2 : 0 ≤ u * mx % q := Int.emod_nonneg _ (by omega)
            have hu3 : u * mx % q < q := Int.emod_lt_of_pos _ (by omega)
            go_wp2_with fail
            refine (nMod_mod (z - y) q (by omega) (by omega) h2 h3 _).mono ?_
            rintro e w' ⟨rfl, rfl⟩
            generalize (z - y) % q = mz at *
            have hd2 : 0 ≤ d * mz % q := Int.emod_nonneg _ (by omega)
            have hd3 : d * mz % q < q := Int.emod_lt_of_pos _ (by omega)
            go_wp2_with fail
            go_roundg (n - (j + 1))
            case measure => have := HGJ.out; omega
            case rel => exact ⟨j + 1, _, _, by omega, by omega, ⟨hu2, hu3⟩, ⟨hd2, hd3⟩, rfl, rfl, by go_num, HFU.out, HFD.out, rfl⟩
        · have hu : u = fac q x (wo xs k) := by rw [hfu, remW_end (by have := HN.out; omega) (by have := HN.out; omega)]; rfl
          have hd : d = fac q z (wo xs k) := by rw [hfd, remW_end (by have := HN.out; omega) (by have := HN.out; omega)]; rfl
          have HOK2 := Lib.hid (show Num.invOk d q = true by rw [hd]; exact HOK.out)
          have HNI := Lib.hid (show Num.ninv d q = Num.inv d q by rw [Num.inv_ninv, HOK2.out]; rfl)
          have HCE := Lib.hid (show coefAt q x xs k = u * Num.inv d q % q by unfold coefAt; rw [HZ.out, hu, hd])
          obtain ⟨_, v0, v1⟩ := inv_res ⟨hd0, hd1⟩ h2 HOK2.out
          obtain ⟨p0, p1⟩ := mul_res h3 hu0 hu1 v0 v1
          have HLT := Lib.hid (lagr_take (q := q) (x := x) (show k < xs.length by have := HN.out; omega))
          clear hfu hfd hu hd
          go_wp2_with fail
          refine (nInverse_any d q hd0 hd1 h2 h3 _).mono ?_
          rintro e w' ⟨rfl, rfl⟩
          rw [HNI.out]
          generalize Num.inv d q = iv at *
          go_wp2_with (at_builtin
                       refine wpList_append_own _ rfl _ _ 23 rfl w.heap.size 3 i0 (.int .i64 0) 1 8 Try.underlying23 hi hz0 hz1 hz2 rfl (by decide) _ _ _ rfl (HO.out.alloc _) ⟨wr.heap.size, 0, none⟩ 1 1 [.int .i64 (u * iv % q)] rfl rfl ?c1 ?c2 ?c3 ?c4 ?c5 ?_)
          case c1 => exact cell_one_new _ _ _
          case c2 => intro u hu; simp at hu; subst hu; rfl
          case c3 => unfold maxLen; omega
          case c4 => omega
          case c5 => have := HB.out.size; simp; omega
          intro v' w1 hown' hgrow _
          obtain ⟨va', vc', rfl⟩ := own_shape hown'
          have HO2 := Lib.hid hown'
          have HG := Lib.hid hgrow
          clear hown' hgrow
          go_wp2
          go_roundg (n - (k + 1))
          case measure => have := HGK.out; omega
          case rel =>
            refine ⟨k + 1, va', vc', by omega, by omega, rfl, by go_num, ?_, ?_⟩
            · have h := HO2.out
              rw [HLT.out, HCE.out, List.map_append, List.map_take]
              simpa [List.map_take] using h
            · exact (HB.out.alloc HB.out.size _).grown HG.out (Nat.le_trans HB.out.size (by simp)) (fun q hq => (HO.out.lt q hq).1)
    · have HO := Lib.hid hownr
      have HB := Lib.hid hbel
      clear hownr hbel
      obtain rfl : k = n := by omega
      go_wp2
      go_ret
      have h := HO.out
      rw [List.take_of_length_le (by rw [lagr_length]; have := HN.out; omega)] at h
      exact ownOut_mk h HB.out

end Go.Proofs.Ytkeokcebanodeaa
