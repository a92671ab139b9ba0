/- ElGamal: the reference's EncryptElement, EncryptExp, DecryptElement, DecryptExp. -/
import Derived.Test.YtafoenoilcgjdaaElJ
namespace Go.Proofs.Ytafoenoilcgjdaa
open Go.RowKit

theorem enc_parts (P Q G key m r : Int) : encB P Q G key m r = (kgB P Q G key && elB P Q m && exB Q r) := rfl

theorem ee_iff (P Q G key v r : Int) : eeB P Q G key v r = (kgB P Q G key && (exB Q v && exB Q r)) := by
  unfold eeB keyB encB kgB
  cases hg : goodB P Q G
  · simp
  cases hv : exB Q v
  · simp
  rw [el_pow hg (good_el hg) (exB_true.1 hv).1]
  simp

theorem ee_zero {P Q G key v r : Int} (h : eeB P Q G key v r = false) : eeA P Q G key v r = 0 ∧ eeM P Q G key v r = 0 := by
  cases hk : keyB P Q G v
  · exact (ee_off hk).2
  · obtain ⟨e0, e1, e2⟩ := ee_on (key := key) (r := r) hk
    rw [e0] at h
    rw [e1, e2]
    exact enc_off h

theorem gLog_any (P Q G b x most : Int) (h : logC P Q G b x most = true) (w : World) :
    Calls Try.prog 80 #[gv P Q G, .int .i64 b, .int .i64 x, .int .i64 most] w fun e w' => e = .returned (.tuple #[.int .i64 (logV P Q G b x most), .bool (logB P Q G b x most)]) ∧ Below w.heap.size w w' := by
  obtain ⟨p, q, g, b', x', m, rfl, rfl, rfl, rfl, rfl, rfl, k1, k2, k3, k4, k5, k6, k7, k8⟩ := log_nat h
  have e1 : logV p q g b' x' m = optV (Num.lgs p b' x' (m + 1)) := by unfold logV logR; rw [h]; rfl
  have e2 : logB p q g b' x' m = optB (Num.lgs p b' x' (m + 1)) := by unfold logB logR; rw [h]; rfl
  rw [e1, e2]
  exact gLog_nat p q g b' x' m k1 k2 k5 k6 k7 w
theorem dx_logC {P Q G s a b most : Int} (h : decB P Q G s a b = true) (hm : inB most 0 1000000 = true) : logC P Q G G (decW P Q a b s) most = true := by
  unfold decB vcB cipB at h
  simp only [Bool.and_eq_true] at h
  obtain ⟨⟨hg, ha, hb⟩, hs⟩ := h
  exact logC_true.2 ⟨inB_true.1 hm, hg, good_el hg, dec_el hg ha hb (exB_true.1 hs).1⟩
theorem dx_most {P Q G s a b most : Int} (h : decB P Q G s a b = true) (hm : inB most 0 1000000 = false) : dxB P Q G s a b most = false ∧ dxV P Q G s a b most = 0 := by
  have hc : logC P Q G G (decW P Q a b s) most = false := by unfold logC; rw [hm]; rfl
  obtain ⟨e1, e2⟩ := log_off hc
  obtain ⟨f1, f2⟩ := dx_on (most := most) h
  rw [f1, f2, e1, e2]; exact ⟨rfl, rfl⟩

end Go.Proofs.Ytafoenoilcgjdaa

