/- ElGamal: the program's functions on lists of ciphertexts, and decryption. -/
import Derived.Test.YtdnofcpobpoehaaElC
namespace Go.Proofs.Ytdnofcpobpoehaa
open Go.RowKit


theorem cs_rng {P Q : Int} {zs : List Int} (h : csB P Q zs = true) : zs.length ≤ 48 ∧ ∀ z ∈ zs, 0 ≤ z ∧ z < P := by
  unfold csB at h
  rw [Bool.and_eq_true, decide_eq_true_eq] at h
  exact ⟨h.1, all_rng h.2⟩
theorem mc_on {P Q G : Int} {zs : List Int} (h : mcB P Q G zs = true) : mcA P Q G zs = mulFrom P 1 (evens zs) ∧ mcM P Q G zs = mulFrom P 1 (odds zs) := by simp [mcA, mcM, h]
theorem wp_on {P Q G : Int} {zs es : List Int} (h : wpB P Q G zs es = true) : wpA P Q G zs es = powsFrom P 1 (evens zs) es ∧ wpM P Q G zs es = powsFrom P 1 (odds zs) es := by simp [wpA, wpM, h]
theorem he_wp (P Q G : Int) (zs es : List Int) : heB P Q G zs es = wpB P Q G zs es := by
  rw [Bool.eq_iff_iff]
  simp only [heB, wpB, csB, exsB, allIn, Bool.and_eq_true, decide_eq_true_eq]
  constructor
  · rintro ⟨⟨⟨h1, h2⟩, h3, h4⟩, h5, h6⟩; exact ⟨⟨⟨h2, h3, h4⟩, h1⟩, h6⟩
  · rintro ⟨⟨⟨h2, h3, h4⟩, h1⟩, h6⟩; exact ⟨⟨⟨h1, h2⟩, h3, h4⟩, by omega, h6⟩
theorem wp_parts {P Q G : Int} {zs es : List Int} (h : wpB P Q G zs es = true) : goodB P Q G = true ∧ csB P Q zs = true ∧ zs.length = es.length * 2 ∧ ∀ e ∈ es, 0 ≤ e ∧ e < Q := by
  unfold wpB at h
  simp only [Bool.and_eq_true, decide_eq_true_eq] at h
  refine ⟨h.1.1.1, h.1.1.2, h.1.2, fun e he => ?_⟩
  have := List.all_eq_true.1 h.2 e he
  rw [inB_true] at this
  omega

/-- CipherSum's condition and what it answers. -/
def suB (P Q G : Int) (zs : List Int) : Bool := decide (zs.length ≠ 0) && mcB P Q G zs
def suA (P Q G : Int) (zs : List Int) : Int := if zs.length = 0 then 0 else mcA P Q G zs
def suM (P Q G : Int) (zs : List Int) : Int := if zs.length = 0 then 0 else mcM P Q G zs

theorem ediv_any (q a b : Int) (h2 : 2 ≤ q) (h3 : q ≤ 2000000000) (ha0 : 0 ≤ a) (ha : a < q) (hb0 : 0 ≤ b) (hb : b < q) (hok : Num.invOk b q = true) (i0 : 0 ≤ Num.inv b q) (i1 : Num.inv b q < q) (w : World) :
    Calls Try.prog 82 #[.int .i64 q, .int .i64 a, .int .i64 b] w fun e w' => e = .returned (.int .i64 (a * Num.inv b q % q)) ∧ w = w' := by
  obtain ⟨p0, p1⟩ := prod_bd (a := a) (z := Num.inv b q) ha0 (by omega) i0 (by omega)
  have HK := Lib.hid hok
  clear hok
  go_enter Try.func82, Try.ntmps82
  go_wp2_with fail
  refine (invert_any _ _ (by omega) (by omega) (by omega) _).mono ?_; rintro e w' ⟨rfl, rfl⟩; rw [HK.out]
  go_wp2
  go_ret
  exact ⟨rfl, rfl⟩
theorem dec_on {P Q G s a b : Int} (h : decB P Q G s a b = true) : decV P Q G s a b = decW P Q a b s := by simp [decV, h]
theorem dec_off {P Q G s a b : Int} (h : decB P Q G s a b = false) : decV P Q G s a b = 0 := by simp [decV, h]

/-- DecryptExp's condition and what it answers. -/
def dxB (P Q G s a b most : Int) : Bool := decB P Q G s a b && logB P Q G G (decW P Q a b s) most
def dxV (P Q G s a b most : Int) : Int := if decB P Q G s a b then logV P Q G G (decW P Q a b s) most else 0
theorem dx_on {P Q G s a b most : Int} (h : decB P Q G s a b = true) : dxB P Q G s a b most = logB P Q G G (decW P Q a b s) most ∧ dxV P Q G s a b most = logV P Q G G (decW P Q a b s) most := by simp [dxB, dxV, h]
theorem dx_off {P Q G s a b most : Int} (h : decB P Q G s a b = false) : dxB P Q G s a b most = false ∧ dxV P Q G s a b most = 0 := by simp [dxB, dxV, h]

end Go.Proofs.Ytdnofcpobpoehaa

