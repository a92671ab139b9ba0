/- Plain facts for ElGamal: ciphertexts as flat lists of pairs, powers of pairs, decryption undoes encryption. No Go in sight. -/
import Derived.Test.YtglfbhkdmkneoaaGrG
namespace Go.Proofs.Ytglfbhkdmkneoaa
open Go.RowKit

/-- The first and the second halves of a flat list of pairs. -/
def evens : List Int → List Int
  | a :: _ :: r => a :: evens r
  | _ => []
def odds : List Int → List Int
  | _ :: b :: r => b :: odds r
  | _ => []
theorem evens_length : ∀ (n : Nat) (zs : List Int), zs.length = n * 2 → (evens zs).length = n
  | 0, zs, h => by
    have : zs = [] := List.length_eq_zero_iff.1 (by omega)
    subst this; rfl
  | n + 1, [], h => by simp at h
  | n + 1, [x], h => by simp at h; omega
  | n + 1, a :: b :: r, h => by
    simp only [List.length_cons] at h
    simp [evens, evens_length n r (by omega)]
theorem odds_length : ∀ (n : Nat) (zs : List Int), zs.length = n * 2 → (odds zs).length = n
  | 0, zs, h => by
    have : zs = [] := List.length_eq_zero_iff.1 (by omega)
    subst this; rfl
  | n + 1, [], h => by simp at h
  | n + 1, [x], h => by simp at h; omega
  | n + 1, a :: b :: r, h => by
    simp only [List.length_cons] at h
    simp [odds, odds_length n r (by omega)]
theorem evens_drop : ∀ (k : Nat) (zs : List Int), evens (zs.drop (k * 2)) = (evens zs).drop k
  | 0, zs => by simp
  | k + 1, [] => by simp [evens]
  | k + 1, [x] => by rw [List.drop_of_length_le (by simp; omega)]; simp [evens]
  | k + 1, a :: b :: r => by
    rw [show (k + 1) * 2 = k * 2 + 1 + 1 by omega]
    simp only [List.drop_succ_cons, evens]
    exact evens_drop k r
theorem odds_drop : ∀ (k : Nat) (zs : List Int), odds (zs.drop (k * 2)) = (odds zs).drop k
  | 0, zs => by simp
  | k + 1, [] => by simp [odds]
  | k + 1, [x] => by rw [List.drop_of_length_le (by simp; omega)]; simp [odds]
  | k + 1, a :: b :: r => by
    rw [show (k + 1) * 2 = k * 2 + 1 + 1 by omega]
    simp only [List.drop_succ_cons, odds]
    exact odds_drop k r
theorem pair_step {zs : List Int} {a b : Int} {k : Nat} (h : zs.drop (k * 2) = a :: b :: zs.drop ((k + 1) * 2)) :
    (evens zs).drop k = a :: (evens zs).drop (k + 1) ∧ (odds zs).drop k = b :: (odds zs).drop (k + 1) := by
  have h1 := evens_drop k zs
  have h2 := odds_drop k zs
  rw [h] at h1 h2
  simp only [evens, odds] at h1 h2
  rw [evens_drop] at h1
  rw [odds_drop] at h2
  exact ⟨h1.symm, h2.symm⟩
theorem evens_mem : ∀ (n : Nat) (zs : List Int), zs.length = n * 2 → ∀ z ∈ evens zs, z ∈ zs
  | 0, zs, h => by
    have : zs = [] := List.length_eq_zero_iff.1 (by omega)
    subst this; simp [evens]
  | n + 1, [], h => by simp at h
  | n + 1, [x], h => by simp at h; omega
  | n + 1, a :: b :: r, h => by
    simp only [List.length_cons] at h
    intro z hz
    simp only [evens, List.mem_cons] at hz
    rcases hz with rfl | hz
    · simp
    · simp [evens_mem n r (by omega) z hz]
theorem odds_mem : ∀ (n : Nat) (zs : List Int), zs.length = n * 2 → ∀ z ∈ odds zs, z ∈ zs
  | 0, zs, h => by
    have : zs = [] := List.length_eq_zero_iff.1 (by omega)
    subst this; simp [odds]
  | n + 1, [], h => by simp at h
  | n + 1, [x], h => by simp at h; omega
  | n + 1, a :: b :: r, h => by
    simp only [List.length_cons] at h
    intro z hz
    simp only [odds, List.mem_cons] at hz
    rcases hz with rfl | hz
    · simp
    · simp [odds_mem n r (by omega) z hz]

/-- A round of the powers of a pair, and its early end. -/
theorem pw_one {r n m : Nat} (hr : r < m) : Num.pw r 1 n m = r := by
  rw [Num.pw_eq m n r 1 hr, Nat.one_pow, Nat.mul_one, Nat.mod_eq_of_lt hr]

/-! ### Keys, ciphertexts: conditions and answers -/
theorem good_el {P Q G : Int} (h : goodB P Q G = true) : elB P Q G = true := by
  have := goodB_true.1 h
  exact elB_true.2 ⟨⟨by omega, by omega⟩, this.2.2.2.2.1⟩
theorem one_el {P Q G : Int} (h : goodB P Q G = true) : elB P Q 1 = true := by
  obtain ⟨p, q, g, rfl, rfl, rfl, hp, hq, _, _, _, _, _, _, _⟩ := good_nat h
  have hp1 : 1 < p := hp.1
  exact el_mk (n := 1) hp1 (Nat.le_refl _) hp1 (by rw [Nat.one_pow]; exact Nat.mod_eq_of_lt hp1)
def keyB (P Q G s : Int) : Bool := goodB P Q G && exB Q s
def keyV (P Q G s : Int) : Int := if keyB P Q G s then Num.pow G s P else 0
theorem key_exp (P Q G s : Int) : expB P Q G G s = keyB P Q G s ∧ expV P Q G G s = keyV P Q G s := by
  have h1 : expB P Q G G s = keyB P Q G s := by
    unfold expB keyB
    cases h : goodB P Q G
    · rfl
    · rw [good_el h]; rfl
  exact ⟨h1, by unfold expV keyV; rw [h1]⟩
def cipB (P Q a b : Int) : Bool := elB P Q a && elB P Q b
theorem cipB_two (P Q a b : Int) : allEl P Q [a, b] = cipB P Q a b := by simp [allEl, cipB]
def vcB (P Q G a b : Int) : Bool := goodB P Q G && cipB P Q a b
/-- A list of ciphertexts, flat. -/
def csB (P Q : Int) (zs : List Int) : Bool := decide (zs.length ≤ 48) && allEl P Q zs

def encB (P Q G key m r : Int) : Bool := goodB P Q G && elB P Q key && elB P Q m && exB Q r
def encA (P Q G key m r : Int) : Int := if encB P Q G key m r then Num.pow G r P else 0
def encM (P Q G key m r : Int) : Int := if encB P Q G key m r then m * Num.pow key r P % P else 0
theorem enc_off {P Q G key m r : Int} (h : encB P Q G key m r = false) : encA P Q G key m r = 0 ∧ encM P Q G key m r = 0 := by simp [encA, encM, h]
theorem enc_on {P Q G key m r : Int} (h : encB P Q G key m r = true) : encA P Q G key m r = Num.pow G r P ∧ encM P Q G key m r = m * Num.pow key r P % P := by simp [encA, encM, h]
theorem encB_true {P Q G key m r : Int} : encB P Q G key m r = true ↔ ((goodB P Q G = true ∧ elB P Q key = true) ∧ elB P Q m = true) ∧ exB Q r = true := by simp [encB]

theorem mul_one_lt {P a : Int} (h0 : 0 ≤ a) (h1 : a < P) : 1 * a % P = a := by rw [Int.one_mul]; exact Int.emod_eq_of_lt h0 h1
theorem mulFrom_two {P a b : Int} (h0 : 0 ≤ a) (h1 : a < P) : mulFrom P 1 [a, b] = a * b % P := by
  show (1 * a % P) * b % P = _
  rw [mul_one_lt h0 h1]

def reB (P Q G key a b r : Int) : Bool := encB P Q G key 1 r && cipB P Q a b
/-- A re-encrypted pair. -/
def reA (P G a r : Int) : Int := a * Num.pow G r P % P
def reM (P key b r : Int) : Int := b * Num.pow key r P % P
theorem pow_rng {P : Int} (a e : Int) (h : 2 ≤ P) : 0 ≤ Num.pow a e P ∧ Num.pow a e P < P := pow_lt a e P h
theorem encM_one {P Q G key r : Int} (h : encB P Q G key 1 r = true) : encM P Q G key 1 r = Num.pow key r P := by
  have h' := encB_true.1 h
  have hm := good_mo h'.1.1.1
  have := pow_lt key r P hm.1.1
  rw [(enc_on h).2]
  exact mul_one_lt this.1 this.2

def decB (P Q G s a b : Int) : Bool := vcB P Q G a b && exB Q s
def decW (P Q a b s : Int) : Int := b * Num.pow (Num.pow a s P) (Q - 1) P % P
def decV (P Q G s a b : Int) : Int := if decB P Q G s a b then decW P Q a b s else 0

def flatRe (P G key : Int) : List Int → List Int → List Int
  | a :: b :: r, e :: es => reA P G a e :: reM P key b e :: flatRe P G key r es
  | _, _ => []
def flatPow (P : Int) : List Int → List Int → List Int
  | a :: b :: r, e :: es => Num.pow a e P :: Num.pow b e P :: flatPow P r es
  | _, _ => []
theorem flatRe_length (P G key : Int) : ∀ (es zs : List Int), zs.length = es.length * 2 → (flatRe P G key zs es).length = zs.length
  | [], zs, h => by
    have : zs = [] := List.length_eq_zero_iff.1 (by simpa using h)
    subst this; rfl
  | e :: es, [], h => by simp at h
  | e :: es, [x], h => by simp at h; omega
  | e :: es, a :: b :: r, h => by
    simp only [List.length_cons] at h
    simp [flatRe, flatRe_length P G key es r (by omega)]
theorem flatPow_length (P : Int) : ∀ (es zs : List Int), zs.length = es.length * 2 → (flatPow P zs es).length = zs.length
  | [], zs, h => by
    have : zs = [] := List.length_eq_zero_iff.1 (by simpa using h)
    subst this; rfl
  | e :: es, [], h => by simp at h
  | e :: es, [x], h => by simp at h; omega
  | e :: es, a :: b :: r, h => by
    simp only [List.length_cons] at h
    simp [flatPow, flatPow_length P es r (by omega)]
theorem flatRe_drop (P G key : Int) : ∀ (k : Nat) (zs es : List Int), (flatRe P G key zs es).drop (k * 2) = flatRe P G key (zs.drop (k * 2)) (es.drop k)
  | 0, zs, es => by simp
  | k + 1, [], es => by simp [flatRe]
  | k + 1, [x], es => by
    have : [x].drop ((k + 1) * 2) = ([] : List Int) := List.drop_of_length_le (by simp; omega)
    rw [this]; simp [flatRe]
  | k + 1, a :: b :: r, [] => by simp [flatRe]
  | k + 1, a :: b :: r, e :: es => by
    rw [show (k + 1) * 2 = k * 2 + 1 + 1 by omega]
    simp only [flatRe, List.drop_succ_cons]
    exact flatRe_drop P G key k r es
theorem flatPow_drop (P : Int) : ∀ (k : Nat) (zs es : List Int), (flatPow P zs es).drop (k * 2) = flatPow P (zs.drop (k * 2)) (es.drop k)
  | 0, zs, es => by simp
  | k + 1, [], es => by simp [flatPow]
  | k + 1, [x], es => by
    have : [x].drop ((k + 1) * 2) = ([] : List Int) := List.drop_of_length_le (by simp; omega)
    rw [this]; simp [flatPow]
  | k + 1, a :: b :: r, [] => by simp [flatPow]
  | k + 1, a :: b :: r, e :: es => by
    rw [show (k + 1) * 2 = k * 2 + 1 + 1 by omega]
    simp only [flatPow, List.drop_succ_cons]
    exact flatPow_drop P k r es
theorem evens_pow (P : Int) : ∀ (zs es : List Int), evens (flatPow P zs es) = powL P (evens zs) es
  | [], es => by cases es <;> simp [flatPow, evens, powL]
  | [x], es => by cases es <;> simp [flatPow, evens, powL]
  | a :: b :: r, [] => by simp [flatPow, evens, powL]
  | a :: b :: r, e :: es => by simp only [flatPow, evens, powL]; rw [evens_pow P r es]
theorem odds_pow (P : Int) : ∀ (zs es : List Int), odds (flatPow P zs es) = powL P (odds zs) es
  | [], es => by cases es <;> simp [flatPow, odds, powL]
  | [x], es => by cases es <;> simp [flatPow, odds, powL]
  | a :: b :: r, [] => by simp [flatPow, odds, powL]
  | a :: b :: r, e :: es => by simp only [flatPow, odds, powL]; rw [odds_pow P r es]

/-- What a re-encryption of a list asks, and what it answers. -/
def raB (P Q G key : Int) (zs es : List Int) : Bool := goodB P Q G && elB P Q key && csB P Q zs && decide (zs.length = es.length * 2) && allIn es 0 (Q - 1)
def raV (P Q G key : Int) (zs es : List Int) : List Int := if raB P Q G key zs es then flatRe P G key zs es else []
def mcB (P Q G : Int) (zs : List Int) : Bool := goodB P Q G && csB P Q zs
def mcA (P Q G : Int) (zs : List Int) : Int := if mcB P Q G zs then mulFrom P 1 (evens zs) else 0
def mcM (P Q G : Int) (zs : List Int) : Int := if mcB P Q G zs then mulFrom P 1 (odds zs) else 0
theorem mc_off {P Q G : Int} {zs : List Int} (h : mcB P Q G zs = false) : mcA P Q G zs = 0 ∧ mcM P Q G zs = 0 := by simp [mcA, mcM, h]
def wpB (P Q G : Int) (zs es : List Int) : Bool := goodB P Q G && csB P Q zs && decide (zs.length = es.length * 2) && allIn es 0 (Q - 1)
def wpA (P Q G : Int) (zs es : List Int) : Int := if wpB P Q G zs es then powsFrom P 1 (evens zs) es else 0
def wpM (P Q G : Int) (zs es : List Int) : Int := if wpB P Q G zs es then powsFrom P 1 (odds zs) es else 0
theorem wp_off {P Q G : Int} {zs es : List Int} (h : wpB P Q G zs es = false) : wpA P Q G zs es = 0 ∧ wpM P Q G zs es = 0 := by simp [wpA, wpM, h]
def pcB (P Q G a b e : Int) : Bool := vcB P Q G a b && exB Q e
def pcA (P Q G a b e : Int) : Int := if pcB P Q G a b e then Num.pow a e P else 0
def pcM (P Q G a b e : Int) : Int := if pcB P Q G a b e then Num.pow b e P else 0
theorem wp_one (P Q G a b e : Int) : wpB P Q G [a, b] [e] = pcB P Q G a b e ∧ wpA P Q G [a, b] [e] = pcA P Q G a b e ∧ wpM P Q G [a, b] [e] = pcM P Q G a b e := by
  have h1 : wpB P Q G [a, b] [e] = pcB P Q G a b e := by
    unfold wpB pcB vcB csB
    rw [cipB_two]
    simp [allIn, exB]
  refine ⟨h1, ?_, ?_⟩
  · unfold wpA pcA
    rw [h1]
    cases h : pcB P Q G a b e
    · rfl
    · simp only [if_true, evens, powsFrom]
      unfold pcB vcB at h
      simp only [Bool.and_eq_true] at h
      have := pow_lt a e P (good_mo h.1.1).1.1
      exact mul_one_lt this.1 this.2
  · unfold wpM pcM
    rw [h1]
    cases h : pcB P Q G a b e
    · rfl
    · simp only [if_true, odds, powsFrom]
      unfold pcB vcB at h
      simp only [Bool.and_eq_true] at h
      have := pow_lt b e P (good_mo h.1.1).1.1
      exact mul_one_lt this.1 this.2

theorem el_rng {P Q x : Int} (h : elB P Q x = true) : 0 ≤ x ∧ x < P := by have := (elB_true.1 h).1; omega
theorem all_rng {P Q : Int} {zs : List Int} (h : allEl P Q zs = true) : ∀ z ∈ zs, 0 ≤ z ∧ z < P := fun z hz => by have := (els_range h z hz).1; omega

end Go.Proofs.Ytglfbhkdmkneoaa

