/- Simulators and extractors: what the functions answer, in plain words. -/
import Derived.Test.YtinmpookknpmlaaSigT
import Derived.Test.YtinmpookknpmlaaG5
namespace Go.Proofs.Ytinmpookknpmlaa
open Go.RowKit
set_option linter.unusedVariables false
set_option linter.unusedSimpArgs false

/-! ### RespondTo -/
def rtB (P Q G s c e : Int) : Bool := goodB P Q G && allIn [s, c, e] 0 (Q - 1)
def rtV (P Q G s c e : Int) : Int := if rtB P Q G s c e then (c + e * s) % Q else 0
theorem rt_off {P Q G s c e : Int} (h : rtB P Q G s c e = false) : rtV P Q G s c e = 0 := by simp [rtV, h]
theorem rt_on {P Q G s c e : Int} (h : rtB P Q G s c e = true) : rtV P Q G s c e = (c + e * s) % Q := by simp [rtV, h]
theorem in_three {Q s c e : Int} (h : allIn [s, c, e] 0 (Q - 1) = true) : (0 ≤ s ∧ s < Q) ∧ (0 ≤ c ∧ c < Q) ∧ (0 ≤ e ∧ e < Q) := by
  have h' : ∀ z ∈ [s, c, e], 0 ≤ z ∧ z < Q := fun z hz => by
    unfold allIn at h; rw [List.all_eq_true] at h; have := inB_true.1 (h z hz); omega
  exact ⟨h' s (by simp), h' c (by simp), h' e (by simp)⟩
theorem in_two {Q c e : Int} (h : allIn [c, e] 0 (Q - 1) = true) : (0 ≤ c ∧ c < Q) ∧ (0 ≤ e ∧ e < Q) := by
  have h' : ∀ z ∈ [c, e], 0 ≤ z ∧ z < Q := fun z hz => by
    unfold allIn at h; rw [List.all_eq_true] at h; have := inB_true.1 (h z hz); omega
  exact ⟨h' c (by simp), h' e (by simp)⟩
theorem el_two {P Q a b : Int} (h : allEl P Q [a, b] = true) : elB P Q a = true ∧ elB P Q b = true := by
  rw [allEl_two, Bool.and_eq_true] at h; exact h
theorem exs_three (Q s c e : Int) : exsB Q [s, c, e] = allIn [s, c, e] 0 (Q - 1) := by simp [exsB, allIn, exB]
theorem exs_two (Q c e : Int) : exsB Q [c, e] = allIn [c, e] 0 (Q - 1) := by simp [exsB, allIn, exB]
theorem els_two (P Q a b : Int) : elsB P Q [a, b] = allEl P Q [a, b] := by simp [elsB]
theorem els_four (P Q a b c d : Int) : elsB P Q [a, b, c, d] = allEl P Q [a, b, c, d] := by simp [elsB]

/-! ### Transcripts -/
def trB (P Q c e z : Int) : Bool := elB P Q c && (exB Q e && exB Q z)
theorem trB_true {P Q c e z : Int} : trB P Q c e z = true ↔ elB P Q c = true ∧ (0 ≤ e ∧ e < Q) ∧ 0 ≤ z ∧ z < Q := by
  simp [trB, exB_true]
theorem tr_two (P Q c e z : Int) : trB P Q c e z = (elB P Q c && allIn [e, z] 0 (Q - 1)) := by simp [trB, allIn, exB]
def accW (P b y c e z : Int) : Bool := decide (Num.pow b z P = c * Num.pow y e P % P)
def iaB (P Q G b y c e z : Int) : Bool := goodB P Q G && (allEl P Q [b, y] && trB P Q c e z)
def iaV (P Q G b y c e z : Int) : Bool := iaB P Q G b y c e z && accW P b y c e z
theorem iaB_true {P Q G b y c e z : Int} : iaB P Q G b y c e z = true ↔ goodB P Q G = true ∧ allEl P Q [b, y] = true ∧ trB P Q c e z = true := by simp [iaB]
theorem ia_off {P Q G b y c e z : Int} (h : iaB P Q G b y c e z = false) : iaV P Q G b y c e z = false := by simp [iaV, h]
theorem ia_on {P Q G b y c e z : Int} (h : iaB P Q G b y c e z = true) : iaV P Q G b y c e z = accW P b y c e z := by simp [iaV, h]
/-- The only commit that fits a challenge and a response. -/
def simW (P Q b y e z : Int) : Int := decW P Q y (Num.pow b z P) e
theorem acc_sim {P Q G b y c e z : Int} (hg : goodB P Q G = true) (hb : elB P Q b = true) (hy : elB P Q y = true) (hc : elB P Q c = true) (he : 0 ≤ e) : decide (c = simW P Q b y e z) = accW P b y c e z := by
  have h := goodB_true.1 hg
  have hp := pow_lt b z P (by omega)
  have hr := el_rng hc
  unfold accW simW
  rw [Bool.eq_iff_iff, decide_eq_true_eq, decide_eq_true_eq, ← dec_iff hg hy he hp.1 hp.2 hr.1 hr.2]
  exact ⟨fun h => h.symm, fun h => h.symm⟩
theorem sim_el {P Q G b y e z : Int} (hg : goodB P Q G = true) (hb : elB P Q b = true) (hy : elB P Q y = true) (he : 0 ≤ e) (hz : 0 ≤ z) : elB P Q (simW P Q b y e z) = true :=
  dec_el hg hy (el_pow hg hb hz) he
theorem sim_neg {P Q G b y e z : Int} (hg : goodB P Q G = true) (hb : elB P Q b = true) (hy : elB P Q y = true) (he : 0 ≤ e ∧ e < Q) (hz : 0 ≤ z) : simW P Q b y e z = Num.pow b z P * Num.pow y ((-e) % Q) P % P :=
  dec_neg hg (el_pow hg hb hz) hy he

/-! ### SimulateKnowledge -/
def skB (P Q G b y e z : Int) : Bool := goodB P Q G && (allEl P Q [b, y] && allIn [e, z] 0 (Q - 1))
def skC (P Q G b y e z : Int) : Int := if skB P Q G b y e z then simW P Q b y e z else 0
def skE (P Q G b y e z : Int) : Int := if skB P Q G b y e z then e else 0
def skZ (P Q G b y e z : Int) : Int := if skB P Q G b y e z then z else 0
theorem sk_off {P Q G b y e z : Int} (h : skB P Q G b y e z = false) : skC P Q G b y e z = 0 ∧ skE P Q G b y e z = 0 ∧ skZ P Q G b y e z = 0 := by simp [skC, skE, skZ, h]
theorem sk_on {P Q G b y e z : Int} (h : skB P Q G b y e z = true) : skC P Q G b y e z = simW P Q b y e z ∧ skE P Q G b y e z = e ∧ skZ P Q G b y e z = z := by simp [skC, skE, skZ, h]

/-! ### SimulateEqual -/
def seB (P Q G a b c d e z : Int) : Bool := goodB P Q G && (allEl P Q [a, b, c, d] && allIn [e, z] 0 (Q - 1))
def seA (P Q G a b c d e z : Int) : Int := if seB P Q G a b c d e z then simW P Q a b e z else 0
def seC (P Q G a b c d e z : Int) : Int := if seB P Q G a b c d e z then simW P Q c d e z else 0
theorem se_off {P Q G a b c d e z : Int} (h : seB P Q G a b c d e z = false) : seA P Q G a b c d e z = 0 ∧ seC P Q G a b c d e z = 0 := by simp [seA, seC, h]
theorem se_on {P Q G a b c d e z : Int} (h : seB P Q G a b c d e z = true) : seA P Q G a b c d e z = simW P Q a b e z ∧ seC P Q G a b c d e z = simW P Q c d e z := by simp [seA, seC, h]
theorem el_four {P Q a b c d : Int} (h : allEl P Q [a, b, c, d] = true) : elB P Q a = true ∧ elB P Q b = true ∧ elB P Q c = true ∧ elB P Q d = true := by
  simpa [allEl] using h

/-! ### ExtractKnowledge -/
def slope (Q z1 z2 e1 e2 : Int) : Int := (z1 - z2) % Q * Num.inv ((e1 - e2) % Q) Q % Q
def ekB (P Q G b y c1 e1 z1 c2 e2 z2 : Int) : Bool := iaV P Q G b y c1 e1 z1 && (iaV P Q G b y c2 e2 z2 && (decide (c1 = c2) && !decide (e1 = e2)))
def ekV (P Q G b y c1 e1 z1 c2 e2 z2 : Int) : Int := if ekB P Q G b y c1 e1 z1 c2 e2 z2 then slope Q z1 z2 e1 e2 else 0
theorem ek_off {P Q G b y c1 e1 z1 c2 e2 z2 : Int} (h : ekB P Q G b y c1 e1 z1 c2 e2 z2 = false) : ekV P Q G b y c1 e1 z1 c2 e2 z2 = 0 := by simp [ekV, h]
theorem ek_on {P Q G b y c1 e1 z1 c2 e2 z2 : Int} (h : ekB P Q G b y c1 e1 z1 c2 e2 z2 = true) : ekV P Q G b y c1 e1 z1 c2 e2 z2 = slope Q z1 z2 e1 e2 := by simp [ekV, h]
/-- The difference of two exponents that are not the same has an inverse. -/
theorem diff_inv {P Q G e1 e2 : Int} (hg : goodB P Q G = true) (h1 : 0 ≤ e1 ∧ e1 < Q) (h2 : 0 ≤ e2 ∧ e2 < Q) (hne : ¬ e1 = e2) : Num.invOk ((e1 - e2) % Q) Q = true ∧ (0 < (e1 - e2) % Q ∧ (e1 - e2) % Q < Q) ∧ 0 ≤ Num.inv ((e1 - e2) % Q) Q ∧ Num.inv ((e1 - e2) % Q) Q < Q := by
  obtain ⟨p, q, g, rfl, rfl, rfl, _, hq, _, _, _, _, _, _, _⟩ := good_nat hg
  have hq2 := hq.1
  have h3 : (e1 - e2) % (q : Int) = if e1 < e2 then e1 - e2 + q else e1 - e2 := by
    split
    · rw [← Int.add_emod_right, Int.emod_eq_of_lt (by omega) (by omega)]
    · rw [Int.emod_eq_of_lt (by omega) (by omega)]
  have h4 : 0 < (e1 - e2) % (q : Int) ∧ (e1 - e2) % (q : Int) < q := by rw [h3]; split <;> omega
  obtain ⟨d, hd⟩ := Int.eq_ofNat_of_zero_le (show 0 ≤ (e1 - e2) % (q : Int) by omega)
  rw [hd] at h4 ⊢
  have hok := Num.invOk_prime hq (x := d) (by omega) (by omega)
  refine ⟨hok, h4, ?_⟩
  have hr := Num.eg_bd q q d 0 1 (Num.bd_start (by omega))
  unfold Num.inv
  rw [hok]
  unfold Num.invRaw
  rw [Int.toNat_natCast, Int.toNat_natCast]
  simp only [if_true]
  split <;> omega
theorem slope_ninv {Q z1 z2 e1 e2 : Int} (hok : Num.invOk ((e1 - e2) % Q) Q = true) : (z1 - z2) % Q * Num.ninv ((e1 - e2) % Q) Q % Q = slope Q z1 z2 e1 e2 := by
  unfold slope; rw [Num.inv_ninv, hok, if_pos rfl]

end Go.Proofs.Ytinmpookknpmlaa
