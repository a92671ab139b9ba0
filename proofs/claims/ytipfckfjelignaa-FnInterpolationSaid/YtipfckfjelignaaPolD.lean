/- Products of polynomials, of both; the polynomial with given roots. -/
import Derived.Test.YtipfckfjelignaaPolC
namespace Go.Proofs.Ytipfckfjelignaa
open Go.RowKit

/-- What is still to be added to the row P. -/
def MulAt (q : Int) (fs gs : List Int) (N : Nat) (k : Nat) (P : List Int) : Prop := P.length = N ∧ (∀ z ∈ P, 0 ≤ z ∧ z < q) ∧ mulFrom q gs k (fs.drop k) P = pMul q fs gs
theorem mulAt_zero {q : Int} {fs gs : List Int} {N : Nat} (hq : 0 < q) (hN : fs.length + gs.length - 1 = N) : MulAt q fs gs N 0 (List.replicate N 0) := by
  subst hN
  exact ⟨by simp, zeros_res hq _, rfl⟩
theorem mulAt_step {q c : Int} {fs gs rest P : List Int} {N k : Nat} (hq : 0 < q) (h : MulAt q fs gs N k P) (hd : fs.drop k = c :: rest) : MulAt q fs gs N (k + 1) (P.take k ++ axpy q (P.drop k) c gs) := by
  obtain ⟨h1, h2, h3⟩ := h
  refine ⟨by rw [row_length]; exact h1, fun z hz => ?_, ?_⟩
  · rcases List.mem_append.1 hz with h' | h'
    · exact h2 z (List.mem_of_mem_take h')
    · exact axpy_res hq _ _ (fun z hz => h2 z (List.mem_of_mem_drop hz)) z h'
  · rw [hd, mulFrom] at h3
    have e : fs.drop (k + 1) = rest := by
      rw [← List.drop_drop, hd]; rfl
    rw [e]; exact h3
theorem mulAt_end {q : Int} {fs gs P : List Int} {N k : Nat} (h : MulAt q fs gs N k P) (hk : fs.length ≤ k) : P = pMul q fs gs := by
  have := h.2.2
  rwa [List.drop_of_length_le hk, mulFrom] at this

set_option maxHeartbeats 1600000 in
theorem multiplyPolys_any (q : Int) (ad ad' : Option Addr) (n n' cap cap' : Nat) (fs gs : List Int) (hn : fs.length = n) (hn' : gs.length = n') (h1 : 1 ≤ n) (h1' : 1 ≤ n') (hl : n ≤ 100000) (hl' : n' ≤ 100000) (h2 : 2 ≤ q) (h3 : q ≤ 2000000000)
    (hfr : ∀ z ∈ fs, 0 ≤ z ∧ z < q) (hgr : ∀ z ∈ gs, 0 ≤ z ∧ z < q) (w : World) (hx : IsInts w ad fs) (hy : IsInts w ad' gs) :
    Calls Try.prog 129 #[.int .i64 q, .slice ad n cap, .slice ad' n' cap'] w (OwnOut w (pMul q fs gs)) := by
  obtain ⟨i0, hi, hz0, hz1, hz2⟩ := info_parts Try.info3
  have HZ2 := Lib.hid hz2
  have HFR := Lib.hid hfr
  have HGR := Lib.hid hgr
  have HN := Lib.hid hn
  have HN' := Lib.hid hn'
  obtain ⟨N, hN⟩ : ∃ N, n + n' - 1 = N := ⟨_, rfl⟩
  have hM : (n : Int) + (n' : Int) - 1 = (N : Int) := by omega
  have hNn : n + n' = N + 1 := by omega
  have hN2 : N ≤ 200000 := by omega
  have HNN := Lib.hid hNn
  clear hn hn' hfr hgr hz2 hN
  go_enter Try.func129, Try.ntmps129
  go_wp2_with (at_make
               refine wpList_make_full _ rfl _ _ 27 rfl w.heap.size 3 i0 (.int .i64 0) 1 Try.underlying27 hi hz0 hz1 .i64 .i64 _ _ N rfl rfl rfl rfl (by rw [HZ2.out]; omega) (by unfold maxLen; omega) (Nat.le_refl _) ?_
               intro w1 hown hgrow
               have HOW := Lib.hid (made_zeros hown)
               have HB1 := Lib.hid ((Below.refl w.heap.size w).grown hgrow (Nat.le_refl _) (by simp))
               clear hown hgrow)
  go_loopw [8, 9, 19] (fun _ _ K wr => ∃ (k : Nat) (P : List Int), k ≤ n ∧ K = .int .i64 k ∧ MulAt q fs gs N k P ∧ wr.ownsRow w.heap.size 3 1 (.slice (some ⟨w.heap.size, 0, none⟩) N N) N (P.map (Value.int .i64)) ∧ Below w.heap.size w wr) (fun _ _ K _ => n - (intOf K).toNat)
  case atStart => exact ⟨0, _, Nat.zero_le _, rfl, mulAt_zero (by omega) (by have := HN.out; have := HN'.out; have := HNN.out; omega), HOW.out, HB1.out⟩
  case round =>
    obtain ⟨k, P, hk, rfl, hm, hownr, hbel⟩ := hrel
    by_cases hkn : k < n
    · obtain ⟨b, off, z, rfl, hb, hc, hd⟩ := (hx.below hbel (Nat.le_refl _)).at (k := k) (by have := HN.out; omega)
      have hzr := HFR.out z (mem_drop hd)
      have HPR := Lib.hid hm.2.1
      have HMS := Lib.hid (mulAt_step (show 0 < q by omega) hm hd)
      have HO := Lib.hid hownr
      have HB := Lib.hid hbel
      have hkN : k < N := by have := HNN.out; omega
      clear hm hd hownr hbel HOW HB1
      go_wp2_with fail
      refine (addMultiple_any q z w.heap.size w.heap.size k (N - k) _ N N P ad' n' cap' gs h2 h3 hzr.1 hzr.2 HPR.out HGR.out HN'.out (by have := HNN.out; omega) (by omega) (by omega) _ HO.out (hy.below HB.out (Nat.le_refl _)) (ints_ne hy (Nat.le_refl _))).mono ?_
      rintro e w3 ⟨⟨v, rfl⟩, hown3, hgr3⟩
      have HO3 := Lib.hid hown3
      have HB3 := Lib.hid (HB.out.grown hgr3 HB.out.size (by simp))
      clear hown3 hgr3
      go_wp2
      go_roundw
      case rel => exact ⟨k + 1, _, by omega, by go_num, HMS.out, HO3.out, HB3.out⟩
      case measure => simp only [intOf]; omega
    · have HO := Lib.hid hownr
      have HB := Lib.hid hbel
      have HE := Lib.hid (mulAt_end hm (by have := HN.out; omega))
      clear hownr hbel hm
      go_wp2
      go_ret
      have h := HO.out
      rw [HE.out] at h
      exact ownOut_mk h HB.out

end Go.Proofs.Ytipfckfjelignaa

