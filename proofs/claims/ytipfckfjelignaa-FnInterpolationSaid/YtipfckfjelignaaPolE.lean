/- Products of the reference; MulPolys of both. -/
import Derived.Test.YtipfckfjelignaaPolD
import Derived.Deep.LoopGhost
namespace Go.Proofs.Ytipfckfjelignaa
open Go.RowKit

set_option maxHeartbeats 3200000 in
theorem yMul_any (q : Int) (ad ad' : Option Addr) (n n' cap cap' : Nat) (fs gs : List Int) (hn : fs.length = n) (hn' : gs.length = n') (h1 : 1 ≤ n) (h1' : 1 ≤ n') (hl : n ≤ 100000) (hl' : n' ≤ 100000) (h2 : 2 ≤ q) (h3 : q ≤ 2000000000)
    (hfr : ∀ z ∈ fs, 0 ≤ z ∧ z < q) (hgr : ∀ z ∈ gs, 0 ≤ z ∧ z < q) (w : World) (hx : IsInts w ad fs) (hy : IsInts w ad' gs) :
    Calls Try.prog 134 #[.int .i64 q, .slice ad n cap, .slice ad' n' cap'] w (OwnOut w (pMul q fs gs)) := by
  obtain ⟨i0, hi, hz0, hz1, hz2⟩ := info_parts Try.info3
  have HZ2 := Lib.hid hz2
  have HFR := Lib.hid hfr
  have HGR := Lib.hid hgr
  have HN := Lib.hid hn
  have HN' := Lib.hid hn'
  obtain ⟨N, hN⟩ : ∃ N, n + n' - 1 = N := ⟨_, rfl⟩
  have hM : (n : Int) + (n' : Int) - 1 = (N : Int) := by omega
  have hNn : n + n' = N + 1 := by omega
  have hN2 : N ≤ 200000 := by omega
  have HNN := Lib.hid hNn
  have hnz : ((n : Int) == 0) = false := by simp; omega
  have hnz' : ((n' : Int) == 0) = false := by simp; omega
  clear hn hn' hfr hgr hz2 hN hNn
  go_enter Try.func134, Try.ntmps134
  go_wp2_with (at_make
               refine wpList_make_full _ rfl _ _ 27 rfl w.heap.size 3 i0 (.int .i64 0) 1 Try.underlying27 hi hz0 hz1 .i64 .i64 _ _ N rfl rfl rfl rfl (by rw [HZ2.out]; omega) (by unfold maxLen; omega) (Nat.le_refl _) ?_
               intro w1 hown hgrow
               have HOW := Lib.hid (made_zeros hown)
               have HB1 := Lib.hid ((Below.refl w.heap.size w).grown hgrow (Nat.le_refl _) (by simp))
               clear hown hgrow)
  go_loopg [29] n (fun gk K wr => ∃ (k : Nat) (P : List Int), gk + k = n ∧ k ≤ n ∧ K = .int .i64 k ∧ MulAt q fs gs N k P ∧ wr.ownsRow w.heap.size 3 1 (.slice (some ⟨w.heap.size, 0, none⟩) N N) N (P.map (Value.int .i64)) ∧ Below w.heap.size w wr)
  case atStart => exact ⟨0, _, by omega, Nat.zero_le _, rfl, mulAt_zero (by omega) (by have := HN.out; have := HN'.out; have := HNN.out; omega), HOW.out, HB1.out⟩
  case round =>
    obtain ⟨k, P, hgk, hk, rfl, hm, hownr, hbel⟩ := hrel
    have HGK := Lib.hid hgk
    clear hgk
    by_cases hkn : k < n
    · obtain ⟨b, off, z, rfl, hb, hc, hd⟩ := (hx.below hbel (Nat.le_refl _)).at (k := k) (by have := HN.out; omega)
      have hzr := HFR.out z (mem_drop hd)
      obtain ⟨hz0', hz1'⟩ := hzr
      have HPR := Lib.hid hm.2.1
      have HPL := Lib.hid hm.1
      have HMS := Lib.hid (mulAt_step (show 0 < q by omega) hm hd)
      have HO := Lib.hid hownr
      have HB := Lib.hid hbel
      have hkN : k + n' ≤ N := by have := HNN.out; omega
      clear hm hd hownr hbel HOW HB1
      go_wp2
      go_loopg [36] n' (fun gj J wj => ∃ j : Nat, gj + j = n' ∧ j ≤ n' ∧ J = .int .i64 j ∧ wj.ownsRow w.heap.size 3 1 (.slice (some ⟨w.heap.size, 0, none⟩) N N) N ((rowAt q z P gs k j).map (Value.int .i64)) ∧ wr.grownBy wj (some w.heap.size))
      case atStart => exact ⟨0, by omega, Nat.zero_le _, rfl, by rw [rowAt_zero]; exact HO.out, grown_of_below (Below.refl _ _) _⟩
      case round =>
        obtain ⟨j, hgj, hj, rfl, hownj, hgrj⟩ := hrel
        have HGJ := Lib.hid hgj
        clear hgj
        by_cases hjn : j < n'
        · obtain ⟨b', o', y, rfl, hb', hcy, hdy⟩ := ((hy.below HB.out (Nat.le_refl _)).grown hgrj (ints_ne hy (Nat.le_refl _) (by intro h; have := HN'.out; simp [h] at this; omega))).at (k := j) (by have := HN'.out; omega)
          have hok : k + j < P.length := by rw [HPL.out]; omega
          have hpk : P[k + j]? = some P[k + j] := by simp [hok]
          obtain ⟨hcu, hfu⟩ := own_at hownj (j := k + j) (by omega) ((rowAt_get hok).trans hpk)
          obtain ⟨hp0, hp1⟩ := HPR.out P[k + j] (List.getElem_mem hok)
          obtain ⟨hy0, hy1⟩ := HGR.out y (mem_drop hdy)
          obtain ⟨m0, m1⟩ := mul_res h3 hz0' hz1' hy0 hy1
          have HOJ := Lib.hid (own_set (j := k + j) hownj ((P[k + j] + z * y) % q))
          have HS := Lib.hid (rowAt_step (q := q) (c := z) hok hpk hdy)
          have HGR2 := Lib.hid hgrj
          generalize P[k + j] = p at *
          clear hownj hgrj hdy hpk hok
          go_wp2
          go_roundg (n' - (j + 1))
          case measure => have := HGJ.out; omega
          case rel =>
            refine ⟨j + 1, by omega, by omega, by go_num, ?_, grown_trans HGR2.out (grown_cell _ _ _)⟩
            have h := HOJ.out
            rwa [HS.out] at h
        · have hOJ := hownj
          rw [rowAt_all (by have := HN'.out; omega)] at hOJ
          have HOJ := Lib.hid hOJ
          have HBJ := Lib.hid (HB.out.grown hgrj HB.out.size (by simp))
          clear hownj hgrj hOJ
          go_wp2
          go_roundg (n - (k + 1))
          case measure => have := HGK.out; omega
          case rel => exact ⟨k + 1, _, by omega, by omega, by go_num, HMS.out, HOJ.out, HBJ.out⟩
    · have HO := Lib.hid hownr
      have HB := Lib.hid hbel
      have HE := Lib.hid (mulAt_end hm (by have := HN.out; omega))
      clear hownr hbel hm
      go_wp2
      go_ret
      have h := HO.out
      rw [HE.out] at h
      exact ownOut_mk h HB.out

end Go.Proofs.Ytipfckfjelignaa

