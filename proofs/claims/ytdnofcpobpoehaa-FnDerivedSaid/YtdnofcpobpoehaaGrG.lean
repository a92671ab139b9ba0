/- Plain facts that the law of powers asks: products of powers, logarithms. -/
import Derived.Test.YtdnofcpobpoehaaG7
import Derived.Test.YtdnofcpobpoehaaG4
namespace Go.Proofs.Ytdnofcpobpoehaa
open Go.RowKit

/-- The single powers. -/
def powL (P : Int) : List Int → List Int → List Int
  | x :: xs, e :: es => Num.pow x e P :: powL P xs es
  | _, _ => []
theorem powL_length (P : Int) : ∀ (zs es : List Int), es.length = zs.length → (powL P zs es).length = zs.length
  | [], _, _ => rfl
  | x :: xs, e :: es, h => by simp [powL, powL_length P xs es (by simpa using h)]
theorem powL_mul (P : Int) : ∀ (zs es : List Int) (acc : Int), mulFrom P acc (powL P zs es) = powsFrom P acc zs es
  | [], _, _ => rfl
  | _ :: _, [], _ => rfl
  | x :: xs, e :: es, acc => powL_mul P xs es (acc * Num.pow x e P % P)
theorem powL_get (P : Int) : ∀ (zs es : List Int) (k : Nat), es.length = zs.length → k < zs.length → (powL P zs es).take (k + 1) = (powL P zs es).take k ++ [Num.pow (zs.getD k 0) (es.getD k 0) P]
  | x :: xs, e :: es, 0, _, _ => by simp [powL]
  | x :: xs, e :: es, k + 1, h, hk => by
    have ih := powL_get P xs es k (by simpa using h) (by simpa using hk)
    simp only [powL, List.take_succ_cons, ih]
    simp

theorem exp_el {P Q G x e : Int} (h : expB P Q G x e = true) : elB P Q (Num.pow x e P) = true := by
  unfold expB at h
  rw [Bool.and_eq_true, Bool.and_eq_true] at h
  obtain ⟨hg, hx, he⟩ := h
  obtain ⟨p, q, g, rfl, rfl, rfl, hp, hq, hd, _, _, _, _, _, _⟩ := good_nat hg
  have hp1 : 1 < p := hp.1
  have hq1 : 1 < q := hq.1
  obtain ⟨n, rfl, n1, n2, n3⟩ := el_nat hp1 hx
  have h1 := exB_true.1 he
  obtain ⟨m, rfl⟩ := Int.eq_ofNat_of_zero_le h1.1
  rw [Num.pow_eq hp1]
  have h2 : (n ^ m % p) ^ q % p = 1 := Num.pow_el hp1 n3
  have h3 : 1 ≤ n ^ m % p := by
    have := Num.el_pos (x := n ^ m % p) hp1 (by omega) h2
    rwa [Nat.mod_mod] at this
  exact el_mk hp1 h3 (Nat.mod_lt _ (by omega)) h2

theorem powL_els (P Q G : Int) : ∀ (zs es : List Int), goodB P Q G = true → allEl P Q zs = true → allIn es 0 (Q - 1) = true → allEl P Q (powL P zs es) = true
  | [], _, _, _, _ => rfl
  | _ :: _, [], _, _, _ => rfl
  | x :: xs, e :: es, hg, h1, h2 => by
    simp only [allEl, allIn, List.all_cons, Bool.and_eq_true] at h1 h2
    have ih := powL_els P Q G xs es hg h1.2 h2.2
    have hx : elB P Q (Num.pow x e P) = true := exp_el (G := G) (by unfold expB exB; rw [hg, h1.1, h2.1]; rfl)
    simp only [allEl, powL, List.all_cons, Bool.and_eq_true] at ih ⊢
    exact ⟨hx, ih⟩

theorem pop_facts {P Q G : Int} {zs es : List Int} (h : popB P Q G zs es = true) :
    es.length = zs.length ∧ zs.length ≤ 24 ∧ (∀ k, k < zs.length → expB P Q G (zs.getD k 0) (es.getD k 0) = true ∧ expV P Q G (zs.getD k 0) (es.getD k 0) = Num.pow (zs.getD k 0) (es.getD k 0) P) ∧
    mulB P Q G (powL P zs es) = true ∧ mulV P Q G (powL P zs es) = popV P Q G zs es := by
  have h0 := h
  unfold popB at h
  simp only [Bool.and_eq_true, decide_eq_true_eq] at h
  obtain ⟨⟨⟨hg, hl⟩, h24⟩, hp⟩ := h
  have hp' := hp
  rw [powsOk_all P Q zs es hl.symm, Bool.and_eq_true] at hp'
  have hm : mulB P Q G (powL P zs es) = true := by
    unfold mulB elsB
    rw [hg, powL_length P zs es hl, decide_eq_true h24, powL_els P Q G zs es hg hp'.1 hp'.2]; rfl
  refine ⟨hl, h24, fun k hk => ?_, hm, ?_⟩
  · have h1 : elB P Q (zs.getD k 0) = true := by
      have := List.all_eq_true.1 hp'.1 (zs.getD k 0) (by simp [List.getD, hk])
      exact this
    have h2 : inB (es.getD k 0) 0 (Q - 1) = true := by
      have hk' : k < es.length := by omega
      have := List.all_eq_true.1 hp'.2 (es.getD k 0) (by simp [List.getD, hk'])
      exact this
    have h3 : expB P Q G (zs.getD k 0) (es.getD k 0) = true := by unfold expB exB; rw [hg, h1, h2]; rfl
    exact ⟨h3, by simp only [expV, h3, if_true]⟩
  · unfold mulV popV
    rw [hm, h0, if_pos rfl, if_pos rfl, powL_mul]

theorem log_facts {P Q G b y m : Int} (h : logB P Q G b y m = true) :
    ∃ r : Nat, logV P Q G b y m = r ∧ (r : Int) ≤ m ∧ (2 ≤ Q ∧ Q ≤ 2000000000) ∧ (r : Int) % Q = r ∧ expB P Q G b r = true ∧ expV P Q G b r = y := by
  cases hc : logC P Q G b y m
  · rw [(log_off hc).2] at h; cases h
  · cases hl : Num.lgs P.toNat b.toNat y.toNat (m.toNat + 1) with
    | none => rw [(log_none hc hl).2] at h; cases h
    | some r =>
      obtain ⟨e1, _⟩ := log_some hc hl
      obtain ⟨⟨m0, m1⟩, hg, hb, hy⟩ := logC_true.1 hc
      obtain ⟨p, q, g, rfl, rfl, rfl, hp, hq, hd, _, _, _, _, hp9, hqp⟩ := good_nat hg
      have hp1 : 1 < p := hp.1
      have hq1 : 1 < q := hq.1
      obtain ⟨n, rfl, n1, n2, n3⟩ := el_nat hp1 hb
      obtain ⟨y', rfl, y1, y2, _⟩ := el_nat hp1 hy
      simp only [Int.toNat_natCast] at hl
      obtain ⟨hr1, hr2⟩ := Num.lgs_some hl
      have hr3 := Num.lgs_lt hp1 (by omega) n3 hl
      have he : expB p q g n r = true := by
        unfold expB
        rw [hg, hb, exB_true.2 (by omega)]; rfl
      refine ⟨r, e1, by omega, by omega, Int.emod_eq_of_lt (by omega) (by omega), he, ?_⟩
      unfold expV
      rw [he, if_pos rfl, Num.pow_eq hp1, hr1]

end Go.Proofs.Ytdnofcpobpoehaa

/- Plain facts for ElGamal: ciphertexts as flat lists of pairs, powers of pairs, decryption undoes encryption. No Go in sight. -/
namespace Go.Proofs.Ytdnofcpobpoehaa
open Go.RowKit

/-- The first and the second halves of a flat list of pairs. -/
def evens : List Int → List Int
  | a :: _ :: r => a :: evens r
  | _ => []
def odds : List Int → List Int
  | _ :: b :: r => b :: odds r
  | _ => []
theorem evens_length : ∀ (n : Nat) (zs : List Int), zs.length = n * 2 → (evens zs).length = n
  | 0, zs, h => by
    have : zs = [] := List.length_eq_zero_iff.1 (by omega)
    subst this; rfl
  | n + 1, [], h => by simp at h
  | n + 1, [x], h => by simp at h; omega
  | n + 1, a :: b :: r, h => by
    simp only [List.length_cons] at h
    simp [evens, evens_length n r (by omega)]
theorem odds_length : ∀ (n : Nat) (zs : List Int), zs.length = n * 2 → (odds zs).length = n
  | 0, zs, h => by
    have : zs = [] := List.length_eq_zero_iff.1 (by omega)
    subst this; rfl
  | n + 1, [], h => by simp at h
  | n + 1, [x], h => by simp at h; omega
  | n + 1, a :: b :: r, h => by
    simp only [List.length_cons] at h
    simp [odds, odds_length n r (by omega)]
theorem evens_drop : ∀ (k : Nat) (zs : List Int), evens (zs.drop (k * 2)) = (evens zs).drop k
  | 0, zs => by simp
  | k + 1, [] => by simp [evens]
  | k + 1, [x] => by rw [List.drop_of_length_le (by simp; omega)]; simp [evens]
  | k + 1, a :: b :: r => by
    rw [show (k + 1) * 2 = k * 2 + 1 + 1 by omega]
    simp only [List.drop_succ_cons, evens]
    exact evens_drop k r
theorem odds_drop : ∀ (k : Nat) (zs : List Int), odds (zs.drop (k * 2)) = (odds zs).drop k
  | 0, zs => by simp
  | k + 1, [] => by simp [odds]
  | k + 1, [x] => by rw [List.drop_of_length_le (by simp; omega)]; simp [odds]
  | k + 1, a :: b :: r => by
    rw [show (k + 1) * 2 = k * 2 + 1 + 1 by omega]
    simp only [List.drop_succ_cons, odds]
    exact odds_drop k r
theorem pair_step {zs : List Int} {a b : Int} {k : Nat} (h : zs.drop (k * 2) = a :: b :: zs.drop ((k + 1) * 2)) :
    (evens zs).drop k = a :: (evens zs).drop (k + 1) ∧ (odds zs).drop k = b :: (odds zs).drop (k + 1) := by
  have h1 := evens_drop k zs
  have h2 := odds_drop k zs
  rw [h] at h1 h2
  simp only [evens, odds] at h1 h2
  rw [evens_drop] at h1
  rw [odds_drop] at h2
  exact ⟨h1.symm, h2.symm⟩
theorem evens_mem : ∀ (n : Nat) (zs : List Int), zs.length = n * 2 → ∀ z ∈ evens zs, z ∈ zs
  | 0, zs, h => by
    have : zs = [] := List.length_eq_zero_iff.1 (by omega)
    subst this; simp [evens]
  | n + 1, [], h => by simp at h
  | n + 1, [x], h => by simp at h; omega
  | n + 1, a :: b :: r, h => by
    simp only [List.length_cons] at h
    intro z hz
    simp only [evens, List.mem_cons] at hz
    rcases hz with rfl | hz
    · simp
    · simp [evens_mem n r (by omega) z hz]
theorem odds_mem : ∀ (n : Nat) (zs : List Int), zs.length = n * 2 → ∀ z ∈ odds zs, z ∈ zs
  | 0, zs, h => by
    have : zs = [] := List.length_eq_zero_iff.1 (by omega)
    subst this; simp [odds]
  | n + 1, [], h => by simp at h
  | n + 1, [x], h => by simp at h; omega
  | n + 1, a :: b :: r, h => by
    simp only [List.length_cons] at h
    intro z hz
    simp only [odds, List.mem_cons] at hz
    rcases hz with rfl | hz
    · simp
    · simp [odds_mem n r (by omega) z hz]

/-- A round of the powers of a pair, and its early end. -/
theorem pw_one {r n m : Nat} (hr : r < m) : Num.pw r 1 n m = r := by
  rw [Num.pw_eq m n r 1 hr, Nat.one_pow, Nat.mul_one, Nat.mod_eq_of_lt hr]

/-! ### Keys, ciphertexts: conditions and answers -/
theorem good_el {P Q G : Int} (h : goodB P Q G = true) : elB P Q G = true := by
  have := goodB_true.1 h
  exact elB_true.2 ⟨⟨by omega, by omega⟩, this.2.2.2.2.1⟩
theorem one_el {P Q G : Int} (h : goodB P Q G = true) : elB P Q 1 = true := by
  obtain ⟨p, q, g, rfl, rfl, rfl, hp, hq, _, _, _, _, _, _, _⟩ := good_nat h
  have hp1 : 1 < p := hp.1
  exact el_mk (n := 1) hp1 (Nat.le_refl _) hp1 (by rw [Nat.one_pow]; exact Nat.mod_eq_of_lt hp1)
def keyB (P Q G s : Int) : Bool := goodB P Q G && exB Q s
def keyV (P Q G s : Int) : Int := if keyB P Q G s then Num.pow G s P else 0
theorem key_exp (P Q G s : Int) : expB P Q G G s = keyB P Q G s ∧ expV P Q G G s = keyV P Q G s := by
  have h1 : expB P Q G G s = keyB P Q G s := by
    unfold expB keyB
    cases h : goodB P Q G
    · rfl
    · rw [good_el h]; rfl
  exact ⟨h1, by unfold expV keyV; rw [h1]⟩
def cipB (P Q a b : Int) : Bool := elB P Q a && elB P Q b
theorem cipB_two (P Q a b : Int) : allEl P Q [a, b] = cipB P Q a b := by simp [allEl, cipB]
def vcB (P Q G a b : Int) : Bool := goodB P Q G && cipB P Q a b
/-- A list of ciphertexts, flat. -/
def csB (P Q : Int) (zs : List Int) : Bool := decide (zs.length ≤ 48) && allEl P Q zs

def encB (P Q G key m r : Int) : Bool := goodB P Q G && elB P Q key && elB P Q m && exB Q r
def encA (P Q G key m r : Int) : Int := if encB P Q G key m r then Num.pow G r P else 0
def encM (P Q G key m r : Int) : Int := if encB P Q G key m r then m * Num.pow key r P % P else 0
theorem enc_off {P Q G key m r : Int} (h : encB P Q G key m r = false) : encA P Q G key m r = 0 ∧ encM P Q G key m r = 0 := by simp [encA, encM, h]
theorem enc_on {P Q G key m r : Int} (h : encB P Q G key m r = true) : encA P Q G key m r = Num.pow G r P ∧ encM P Q G key m r = m * Num.pow key r P % P := by simp [encA, encM, h]
theorem encB_true {P Q G key m r : Int} : encB P Q G key m r = true ↔ ((goodB P Q G = true ∧ elB P Q key = true) ∧ elB P Q m = true) ∧ exB Q r = true := by simp [encB]

theorem mul_one_lt {P a : Int} (h0 : 0 ≤ a) (h1 : a < P) : 1 * a % P = a := by rw [Int.one_mul]; exact Int.emod_eq_of_lt h0 h1
theorem mulFrom_two {P a b : Int} (h0 : 0 ≤ a) (h1 : a < P) : mulFrom P 1 [a, b] = a * b % P := by
  show (1 * a % P) * b % P = _
  rw [mul_one_lt h0 h1]

def reB (P Q G key a b r : Int) : Bool := encB P Q G key 1 r && cipB P Q a b
/-- A re-encrypted pair. -/
def reA (P G a r : Int) : Int := a * Num.pow G r P % P
def reM (P key b r : Int) : Int := b * Num.pow key r P % P
theorem pow_rng {P : Int} (a e : Int) (h : 2 ≤ P) : 0 ≤ Num.pow a e P ∧ Num.pow a e P < P := pow_lt a e P h
theorem encM_one {P Q G key r : Int} (h : encB P Q G key 1 r = true) : encM P Q G key 1 r = Num.pow key r P := by
  have h' := encB_true.1 h
  have hm := good_mo h'.1.1.1
  have := pow_lt key r P hm.1.1
  rw [(enc_on h).2]
  exact mul_one_lt this.1 this.2

def decB (P Q G s a b : Int) : Bool := vcB P Q G a b && exB Q s
def decW (P Q a b s : Int) : Int := b * Num.pow (Num.pow a s P) (Q - 1) P % P
def decV (P Q G s a b : Int) : Int := if decB P Q G s a b then decW P Q a b s else 0

def flatRe (P G key : Int) : List Int → List Int → List Int
  | a :: b :: r, e :: es => reA P G a e :: reM P key b e :: flatRe P G key r es
  | _, _ => []
def flatPow (P : Int) : List Int → List Int → List Int
  | a :: b :: r, e :: es => Num.pow a e P :: Num.pow b e P :: flatPow P r es
  | _, _ => []
theorem flatRe_length (P G key : Int) : ∀ (es zs : List Int), zs.length = es.length * 2 → (flatRe P G key zs es).length = zs.length
  | [], zs, h => by
    have : zs = [] := List.length_eq_zero_iff.1 (by simpa using h)
    subst this; rfl
  | e :: es, [], h => by simp at h
  | e :: es, [x], h => by simp at h; omega
  | e :: es, a :: b :: r, h => by
    simp only [List.length_cons] at h
    simp [flatRe, flatRe_length P G key es r (by omega)]
theorem flatPow_length (P : Int) : ∀ (es zs : List Int), zs.length = es.length * 2 → (flatPow P zs es).length = zs.length
  | [], zs, h => by
    have : zs = [] := List.length_eq_zero_iff.1 (by simpa using h)
    subst this; rfl
  | e :: es, [], h => by simp at h
  | e :: es, [x], h => by simp at h; omega
  | e :: es, a :: b :: r, h => by
    simp only [List.length_cons] at h
    simp [flatPow, flatPow_length P es r (by omega)]
theorem flatRe_drop (P G key : Int) : ∀ (k : Nat) (zs es : List Int), (flatRe P G key zs es).drop (k * 2) = flatRe P G key (zs.drop (k * 2)) (es.drop k)
  | 0, zs, es => by simp
  | k + 1, [], es => by simp [flatRe]
  | k + 1, [x], es => by
    have : [x].drop ((k + 1) * 2) = ([] : List Int) := List.drop_of_length_le (by simp; omega)
    rw [this]; simp [flatRe]
  | k + 1, a :: b :: r, [] => by simp [flatRe]
  | k + 1, a :: b :: r, e :: es => by
    rw [show (k + 1) * 2 = k * 2 + 1 + 1 by omega]
    simp only [flatRe, List.drop_succ_cons]
    exact flatRe_drop P G key k r es
theorem flatPow_drop (P : Int) : ∀ (k : Nat) (zs es : List Int), (flatPow P zs es).drop (k * 2) = flatPow P (zs.drop (k * 2)) (es.drop k)
  | 0, zs, es => by simp
  | k + 1, [], es => by simp [flatPow]
  | k + 1, [x], es => by
    have : [x].drop ((k + 1) * 2) = ([] : List Int) := List.drop_of_length_le (by simp; omega)
    rw [this]; simp [flatPow]
  | k + 1, a :: b :: r, [] => by simp [flatPow]
  | k + 1, a :: b :: r, e :: es => by
    rw [show (k + 1) * 2 = k * 2 + 1 + 1 by omega]
    simp only [flatPow, List.drop_succ_cons]
    exact flatPow_drop P k r es
theorem evens_pow (P : Int) : ∀ (zs es : List Int), evens (flatPow P zs es) = powL P (evens zs) es
  | [], es => by cases es <;> simp [flatPow, evens, powL]
  | [x], es => by cases es <;> simp [flatPow, evens, powL]
  | a :: b :: r, [] => by simp [flatPow, evens, powL]
  | a :: b :: r, e :: es => by simp only [flatPow, evens, powL]; rw [evens_pow P r es]
theorem odds_pow (P : Int) : ∀ (zs es : List Int), odds (flatPow P zs es) = powL P (odds zs) es
  | [], es => by cases es <;> simp [flatPow, odds, powL]
  | [x], es => by cases es <;> simp [flatPow, odds, powL]
  | a :: b :: r, [] => by simp [flatPow, odds, powL]
  | a :: b :: r, e :: es => by simp only [flatPow, odds, powL]; rw [odds_pow P r es]

/-- What a re-encryption of a list asks, and what it answers. -/
def raB (P Q G key : Int) (zs es : List Int) : Bool := goodB P Q G && elB P Q key && csB P Q zs && decide (zs.length = es.length * 2) && allIn es 0 (Q - 1)
def raV (P Q G key : Int) (zs es : List Int) : List Int := if raB P Q G key zs es then flatRe P G key zs es else []
def mcB (P Q G : Int) (zs : List Int) : Bool := goodB P Q G && csB P Q zs
def mcA (P Q G : Int) (zs : List Int) : Int := if mcB P Q G zs then mulFrom P 1 (evens zs) else 0
def mcM (P Q G : Int) (zs : List Int) : Int := if mcB P Q G zs then mulFrom P 1 (odds zs) else 0
theorem mc_off {P Q G : Int} {zs : List Int} (h : mcB P Q G zs = false) : mcA P Q G zs = 0 ∧ mcM P Q G zs = 0 := by simp [mcA, mcM, h]
def wpB (P Q G : Int) (zs es : List Int) : Bool := goodB P Q G && csB P Q zs && decide (zs.length = es.length * 2) && allIn es 0 (Q - 1)
def wpA (P Q G : Int) (zs es : List Int) : Int := if wpB P Q G zs es then powsFrom P 1 (evens zs) es else 0
def wpM (P Q G : Int) (zs es : List Int) : Int := if wpB P Q G zs es then powsFrom P 1 (odds zs) es else 0
theorem wp_off {P Q G : Int} {zs es : List Int} (h : wpB P Q G zs es = false) : wpA P Q G zs es = 0 ∧ wpM P Q G zs es = 0 := by simp [wpA, wpM, h]
def pcB (P Q G a b e : Int) : Bool := vcB P Q G a b && exB Q e
def pcA (P Q G a b e : Int) : Int := if pcB P Q G a b e then Num.pow a e P else 0
def pcM (P Q G a b e : Int) : Int := if pcB P Q G a b e then Num.pow b e P else 0
theorem wp_one (P Q G a b e : Int) : wpB P Q G [a, b] [e] = pcB P Q G a b e ∧ wpA P Q G [a, b] [e] = pcA P Q G a b e ∧ wpM P Q G [a, b] [e] = pcM P Q G a b e := by
  have h1 : wpB P Q G [a, b] [e] = pcB P Q G a b e := by
    unfold wpB pcB vcB csB
    rw [cipB_two]
    simp [allIn, exB]
  refine ⟨h1, ?_, ?_⟩
  · unfold wpA pcA
    rw [h1]
    cases h : pcB P Q G a b e
    · rfl
    · simp only [if_true, evens, powsFrom]
      unfold pcB vcB at h
      simp only [Bool.and_eq_true] at h
      have := pow_lt a e P (good_mo h.1.1).1.1
      exact mul_one_lt this.1 this.2
  · unfold wpM pcM
    rw [h1]
    cases h : pcB P Q G a b e
    · rfl
    · simp only [if_true, odds, powsFrom]
      unfold pcB vcB at h
      simp only [Bool.and_eq_true] at h
      have := pow_lt b e P (good_mo h.1.1).1.1
      exact mul_one_lt this.1 this.2

theorem el_rng {P Q x : Int} (h : elB P Q x = true) : 0 ≤ x ∧ x < P := by have := (elB_true.1 h).1; omega
theorem all_rng {P Q : Int} {zs : List Int} (h : allEl P Q zs = true) : ∀ z ∈ zs, 0 ≤ z ∧ z < P := fun z hz => by have := (els_range h z hz).1; omega

end Go.Proofs.Ytdnofcpobpoehaa

/- Plain facts for the laws of ElGamal: decryption undoes encryption and re-encryption, and goes through products of powers. No Go in sight. -/
namespace Go.Proofs.Ytdnofcpobpoehaa
open Go.RowKit

/-- Alike modulo P. -/
def Cg (P x y : Int) : Prop := x % P = y % P
theorem Cg.refl (P x : Int) : Cg P x x := rfl
theorem Cg.symm {P x y : Int} (h : Cg P x y) : Cg P y x := Eq.symm h
theorem Cg.trans {P x y z : Int} (h : Cg P x y) (k : Cg P y z) : Cg P x z := Eq.trans h k
theorem Cg.mul {P x y u v : Int} (h : Cg P x y) (k : Cg P u v) : Cg P (x * u) (y * v) := by
  unfold Cg at *
  rw [Int.mul_emod, h, k, ← Int.mul_emod]
theorem Cg.pow {P x y : Int} (h : Cg P x y) : ∀ n : Nat, Cg P (x ^ n) (y ^ n)
  | 0 => by rw [Int.pow_zero, Int.pow_zero]; exact Cg.refl _ _
  | n + 1 => by rw [Int.pow_succ, Int.pow_succ]; exact (Cg.pow h n).mul h
theorem cg_mod (P x : Int) : Cg P (x % P) x := Int.emod_emod_of_dvd _ (Int.dvd_refl _)
theorem Cg.lt {P x y : Int} (h : Cg P x y) (x0 : 0 ≤ x) (x1 : x < P) (y0 : 0 ≤ y) (y1 : y < P) : x = y := by
  unfold Cg at h
  rwa [Int.emod_eq_of_lt x0 x1, Int.emod_eq_of_lt y0 y1] at h

theorem pow_int {a e P : Int} (ha : 0 ≤ a) (he : 0 ≤ e) (hP : 2 ≤ P) : Num.pow a e P = a ^ e.toNat % P := by
  obtain ⟨a, rfl⟩ := Int.eq_ofNat_of_zero_le ha
  obtain ⟨e, rfl⟩ := Int.eq_ofNat_of_zero_le he
  obtain ⟨p, rfl⟩ := Int.eq_ofNat_of_zero_le (show 0 ≤ P by omega)
  rw [Num.pow_eq (by omega)]
  simp
theorem cg_pow {a e P : Int} (ha : 0 ≤ a) (he : 0 ≤ e) (hP : 2 ≤ P) : Cg P (Num.pow a e P) (a ^ e.toNat) := by
  rw [pow_int ha he hP]; exact cg_mod _ _

theorem el_cg {P Q x : Int} (hP : 2 ≤ P) (hQ : 0 ≤ Q) (h : elB P Q x = true) : Cg P (x ^ Q.toNat) 1 := by
  obtain ⟨h1, h2⟩ := elB_true.1 h
  have := (cg_pow (P := P) (by omega) hQ hP : Cg P (Num.pow x Q P) (x ^ Q.toNat)).symm
  rwa [h2] at this

/-- Elements are closed under products and powers. -/
theorem el_of_cg {P Q x : Int} (hP : 2 ≤ P) (hQ : 1 ≤ Q) (h0 : 0 ≤ x) (h1 : x < P) (h : Cg P (x ^ Q.toNat) 1) : elB P Q x = true := by
  refine elB_true.2 ⟨⟨?_, h1⟩, ?_⟩
  · rcases Int.lt_or_le 0 x with h2 | h2
    · omega
    · have : x = 0 := by omega
      subst this
      rw [Int.zero_pow (by omega)] at h
      unfold Cg at h
      rw [Int.emod_eq_of_lt (by omega) (by omega), Int.emod_eq_of_lt (by omega) (by omega)] at h
      omega
  · rw [pow_int h0 (by omega) hP]
    unfold Cg at h
    rw [h]; exact Int.emod_eq_of_lt (by omega) (by omega)
theorem el_mul {P Q G x y : Int} (hg : goodB P Q G = true) (hx : elB P Q x = true) (hy : elB P Q y = true) : elB P Q (x * y % P) = true := by
  have hb := goodB_true.1 hg
  have hP : 2 ≤ P := by omega
  have hQ : 0 ≤ Q := by omega
  refine el_of_cg hP (by omega) (Int.emod_nonneg _ (by omega)) (Int.emod_lt_of_pos _ (by omega)) ?_
  refine ((cg_mod P (x * y)).pow _).trans ?_
  rw [Int.mul_pow]
  exact (el_cg hP hQ hx).mul (el_cg hP hQ hy)
theorem one_pow' (n : Nat) : (1 : Int) ^ n = 1 := by induction n with | zero => rfl | succ n ih => rw [Int.pow_succ, ih]; rfl
theorem el_pow {P Q G x e : Int} (hg : goodB P Q G = true) (hx : elB P Q x = true) (he : 0 ≤ e) : elB P Q (Num.pow x e P) = true := by
  have hb := goodB_true.1 hg
  have hP : 2 ≤ P := by omega
  have hQ : 0 ≤ Q := by omega
  have hr := pow_lt x e P hP
  refine el_of_cg hP (by omega) hr.1 hr.2 ?_
  refine ((cg_pow (el_rng hx).1 he hP).pow _).trans ?_
  rw [← Int.pow_mul, Nat.mul_comm, Int.pow_mul]
  have := (el_cg hP hQ hx).pow e.toNat
  rwa [one_pow'] at this

theorem re_el {P Q G key a b r : Int} (hg : goodB P Q G = true) (hk : elB P Q key = true) (ha : elB P Q a = true) (hb : elB P Q b = true) (hr : 0 ≤ r) : elB P Q (reA P G a r) = true ∧ elB P Q (reM P key b r) = true :=
  ⟨el_mul hg ha (el_pow hg (good_el hg) hr), el_mul hg hb (el_pow hg hk hr)⟩
theorem dec_el {P Q G a b s : Int} (hg : goodB P Q G = true) (ha : elB P Q a = true) (hb : elB P Q b = true) (hs : 0 ≤ s) : elB P Q (decW P Q a b s) = true := by
  have h := goodB_true.1 hg
  exact el_mul hg hb (el_pow hg (el_pow hg ha hs) (by omega))

/-- What a decryption is alike to. -/
theorem dec_cg {P Q a b s : Int} (hP : 2 ≤ P) (hQ : 1 ≤ Q) (ha : 0 ≤ a) (hs : 0 ≤ s) : Cg P (decW P Q a b s) (b * (a ^ s.toNat) ^ (Q - 1).toNat) := by
  unfold decW
  refine (cg_mod _ _).trans ((Cg.refl P b).mul ?_)
  have h1 := pow_lt a s P hP
  exact (cg_pow h1.1 (by omega) hP).trans ((cg_pow ha hs hP).pow _)
theorem dec_rng {P Q a b s : Int} (hP : 2 ≤ P) : 0 ≤ decW P Q a b s ∧ decW P Q a b s < P := by
  unfold decW
  exact ⟨Int.emod_nonneg _ (by omega), Int.emod_lt_of_pos _ (by omega)⟩
theorem last {q x r : Nat} {g : Int} (hq : 1 ≤ q) : (g ^ x) ^ r * ((g ^ r) ^ x) ^ (q - 1) = (g ^ q) ^ (x * r) := by
  rw [← Int.pow_mul, ← Int.pow_mul, ← Int.pow_mul, ← Int.pow_mul, ← Int.pow_add]
  congr 1
  obtain ⟨k, rfl⟩ : ∃ k, q = k + 1 := ⟨q - 1, by omega⟩
  rw [Nat.add_sub_cancel, Nat.add_mul, Nat.one_mul, Nat.mul_comm r (x * k), Nat.mul_comm x k, Nat.mul_assoc, Nat.add_comm]

theorem dec_re {P Q G s r a b : Int} (hg : goodB P Q G = true) (ha : elB P Q a = true) (_hb : elB P Q b = true) (hs : 0 ≤ s) (hr : 0 ≤ r) :
    decW P Q (reA P G a r) (reM P (Num.pow G s P) b r) s = decW P Q a b s := by
  have h := goodB_true.1 hg
  have hP : 2 ≤ P := by omega
  have hQ : 1 ≤ Q := by omega
  have hG := el_cg hP (by omega) (good_el hg)
  have hk := pow_lt G s P hP
  refine Cg.lt ?_ (dec_rng hP).1 (dec_rng hP).2 (dec_rng hP).1 (dec_rng hP).2
  have hA0 : 0 ≤ reA P G a r := Int.emod_nonneg _ (by omega)
  have hA : Cg P (reA P G a r) (a * G ^ r.toNat) := (cg_mod _ _).trans ((Cg.refl P a).mul (cg_pow (by omega) hr hP))
  have hB : Cg P (reM P (Num.pow G s P) b r) (b * (G ^ s.toNat) ^ r.toNat) := (cg_mod _ _).trans ((Cg.refl P b).mul ((cg_pow hk.1 hr hP).trans ((cg_pow (by omega) hs hP).pow _)))
  refine (dec_cg hP hQ hA0 hs).trans (Cg.trans ?_ (dec_cg hP hQ (el_rng ha).1 hs).symm)
  refine (hB.mul ((hA.pow _).pow _)).trans ?_
  rw [Int.mul_pow, Int.mul_pow]
  have e : b * (G ^ s.toNat) ^ r.toNat * ((a ^ s.toNat) ^ (Q - 1).toNat * ((G ^ r.toNat) ^ s.toNat) ^ (Q - 1).toNat) = b * (a ^ s.toNat) ^ (Q - 1).toNat * ((G ^ s.toNat) ^ r.toNat * ((G ^ r.toNat) ^ s.toNat) ^ (Q - 1).toNat) := by
    generalize (G ^ s.toNat) ^ r.toNat = u
    generalize ((G ^ r.toNat) ^ s.toNat) ^ (Q - 1).toNat = v
    generalize (a ^ s.toNat) ^ (Q - 1).toNat = t
    simp only [Int.mul_comm, Int.mul_left_comm]
  rw [e, show (Q - 1).toNat = Q.toNat - 1 by omega, last (by omega)]
  have h1 := (Cg.refl P (b * (a ^ s.toNat) ^ (Q.toNat - 1))).mul (hG.pow (s.toNat * r.toNat))
  rwa [one_pow', Int.mul_one] at h1

theorem dec_enc {P Q G s r m : Int} (hg : goodB P Q G = true) (hm : elB P Q m = true) (hs : 0 ≤ s) (hr : 0 ≤ r) :
    decW P Q (Num.pow G r P) (m * Num.pow (Num.pow G s P) r P % P) s = m := by
  have h := goodB_true.1 hg
  have hP : 2 ≤ P := by omega
  have h1 := dec_re hg (one_el hg) hm hs hr
  have h2 := pow_lt G r P hP
  have e : reA P G 1 r = Num.pow G r P := mul_one_lt h2.1 h2.2
  rw [e] at h1
  unfold reM at h1
  rw [h1]
  refine Cg.lt ?_ (dec_rng hP).1 (dec_rng hP).2 (el_rng hm).1 (el_rng hm).2
  refine (dec_cg hP (by omega) (by omega) hs).trans ?_
  rw [one_pow', one_pow', Int.mul_one]
  exact Cg.refl _ _

/-- Coins add up: the coin's negative undoes a re-encryption. -/
theorem pow_neg {P Q G x r : Int} (hg : goodB P Q G = true) (hx : elB P Q x = true) (hr : 0 ≤ r ∧ r < Q) : Cg P (x ^ r.toNat * x ^ ((Q - r) % Q).toNat) 1 := by
  have h := goodB_true.1 hg
  by_cases h0 : r = 0
  · subst h0
    rw [Int.sub_zero, Int.emod_self]
    show Cg P (x ^ 0 * x ^ 0) 1
    rw [Int.pow_zero, Int.mul_one]
    exact Cg.refl _ _
  · rw [Int.emod_eq_of_lt (by omega) (by omega), ← Int.pow_add, show r.toNat + (Q - r).toNat = Q.toNat by omega]
    exact el_cg (by omega) (by omega) hx
theorem re_back {P Q G a x r : Int} (hg : goodB P Q G = true) (hx : elB P Q x = true) (ha : elB P Q a = true) (hr : 0 ≤ r ∧ r < Q) :
    (a * Num.pow x r P % P) * Num.pow x ((Q - r) % Q) P % P = a := by
  have h := goodB_true.1 hg
  have hP : 2 ≤ P := by omega
  have hn : 0 ≤ (Q - r) % Q := Int.emod_nonneg _ (by omega)
  refine Cg.lt ?_ (Int.emod_nonneg _ (by omega)) (Int.emod_lt_of_pos _ (by omega)) (el_rng ha).1 (el_rng ha).2
  refine (cg_mod _ _).trans ?_
  refine (((cg_mod _ _).trans ((Cg.refl P a).mul (cg_pow (el_rng hx).1 hr.1 hP))).mul (cg_pow (el_rng hx).1 hn hP)).trans ?_
  rw [Int.mul_assoc]
  have := (Cg.refl P a).mul (pow_neg hg hx hr)
  rwa [Int.mul_one] at this

/-! ### Products of powers -/
theorem pows_el {P Q G : Int} (hg : goodB P Q G = true) : ∀ (zs es : List Int) (acc : Int), elB P Q acc = true → allEl P Q zs = true → allIn es 0 (Q - 1) = true → elB P Q (powsFrom P acc zs es) = true
  | [], _, _, h, _, _ => h
  | _ :: _, [], _, h, _, _ => h
  | x :: xs, e :: es, acc, h, h1, h2 => by
    simp only [allEl, allIn, List.all_cons, Bool.and_eq_true] at h1 h2
    have he := inB_true.1 h2.1
    exact pows_el hg xs es _ (el_mul hg h (el_pow hg h1.1 (by omega))) h1.2 h2.2
theorem muls_el {P Q G : Int} (hg : goodB P Q G = true) : ∀ (zs : List Int) (acc : Int), elB P Q acc = true → allEl P Q zs = true → elB P Q (mulFrom P acc zs) = true
  | [], _, h, _ => h
  | x :: xs, acc, h, h1 => by
    simp only [allEl, List.all_cons, Bool.and_eq_true] at h1
    exact muls_el hg xs _ (el_mul hg h h1.1) h1.2

/-- The messages of a flat list of ciphertexts. -/
def decL (P Q s : Int) : List Int → List Int
  | a :: b :: r => decW P Q a b s :: decL P Q s r
  | _ => []
theorem decL_length (P Q s : Int) : ∀ (n : Nat) (zs : List Int), zs.length = n * 2 → (decL P Q s zs).length = n
  | 0, zs, h => by
    have : zs = [] := List.length_eq_zero_iff.1 (by omega)
    subst this; rfl
  | n + 1, [], h => by simp at h
  | n + 1, [x], h => by simp at h; omega
  | n + 1, a :: b :: r, h => by
    simp only [List.length_cons] at h
    simp [decL, decL_length P Q s n r (by omega)]
theorem decL_drop (P Q s : Int) : ∀ (k : Nat) (zs : List Int), decL P Q s (zs.drop (k * 2)) = (decL P Q s zs).drop k
  | 0, zs => by simp
  | k + 1, [] => by simp [decL]
  | k + 1, [x] => by rw [List.drop_of_length_le (by simp; omega)]; simp [decL]
  | k + 1, a :: b :: r => by
    rw [show (k + 1) * 2 = k * 2 + 1 + 1 by omega]
    simp only [List.drop_succ_cons, decL]
    exact decL_drop P Q s k r
theorem decL_step {P Q s : Int} {zs : List Int} {a b : Int} {k : Nat} (h : zs.drop (k * 2) = a :: b :: zs.drop ((k + 1) * 2)) :
    (decL P Q s zs).take (k + 1) = (decL P Q s zs).take k ++ [decW P Q a b s] := by
  have h1 := decL_drop P Q s k zs
  rw [h] at h1
  simp only [decL] at h1
  have hk : k < (decL P Q s zs).length := by
    rcases Nat.lt_or_ge k (decL P Q s zs).length with h2 | h2
    · exact h2
    · rw [List.drop_of_length_le h2] at h1; cases h1
  rw [List.drop_eq_getElem_cons hk] at h1
  rw [List.take_succ_eq_append_getElem hk, ← (List.cons.inj h1).1]
theorem decL_el {P Q G s : Int} (hg : goodB P Q G = true) (hs : 0 ≤ s) : ∀ zs : List Int, allEl P Q zs = true → allEl P Q (decL P Q s zs) = true
  | [], _ => rfl
  | [_], _ => rfl
  | a :: b :: r, h => by
    simp only [allEl, List.all_cons, Bool.and_eq_true] at h
    have ih := decL_el hg hs r h.2.2
    simp only [allEl, decL, List.all_cons, Bool.and_eq_true] at ih ⊢
    exact ⟨dec_el hg h.1 h.2.1 hs, ih⟩
theorem dec_pows {P Q G s : Int} (hg : goodB P Q G = true) (hs : 0 ≤ s) : ∀ (zs es : List Int) (x y z : Int), allEl P Q zs = true → allIn es 0 (Q - 1) = true → elB P Q x = true → elB P Q y = true → 0 ≤ z → z < P →
    Cg P z (y * (x ^ s.toNat) ^ (Q - 1).toNat) → powsFrom P z (decL P Q s zs) es = decW P Q (powsFrom P x (evens zs) es) (powsFrom P y (odds zs) es) s
  | [], es, x, y, z, _, _, hx, hy, z0, z1, hz => by
    have h := goodB_true.1 hg
    have hP : 2 ≤ P := by omega
    have e : powsFrom P z (decL P Q s []) es = z ∧ powsFrom P x (evens []) es = x ∧ powsFrom P y (odds []) es = y := by cases es <;> exact ⟨rfl, rfl, rfl⟩
    rw [e.1, e.2.1, e.2.2]
    exact Cg.lt (hz.trans (dec_cg hP (by omega) (el_rng hx).1 hs).symm) z0 z1 (dec_rng hP).1 (dec_rng hP).2
  | [_], es, x, y, z, _, _, hx, hy, z0, z1, hz => by
    have h := goodB_true.1 hg
    have hP : 2 ≤ P := by omega
    have e : ∀ v, powsFrom P z (decL P Q s [v]) es = z ∧ powsFrom P x (evens [v]) es = x ∧ powsFrom P y (odds [v]) es = y := by intro v; cases es <;> exact ⟨rfl, rfl, rfl⟩
    rw [(e _).1, (e _).2.1, (e _).2.2]
    exact Cg.lt (hz.trans (dec_cg hP (by omega) (el_rng hx).1 hs).symm) z0 z1 (dec_rng hP).1 (dec_rng hP).2
  | a :: b :: r, [], x, y, z, _, _, hx, hy, z0, z1, hz => by
    have h := goodB_true.1 hg
    have hP : 2 ≤ P := by omega
    exact Cg.lt (hz.trans (dec_cg hP (by omega) (el_rng hx).1 hs).symm) z0 z1 (dec_rng hP).1 (dec_rng hP).2
  | a :: b :: r, e :: es, x, y, z, h1, h2, hx, hy, z0, z1, hz => by
    have h := goodB_true.1 hg
    have hP : 2 ≤ P := by omega
    simp only [allEl, allIn, List.all_cons, Bool.and_eq_true] at h1 h2
    have he := inB_true.1 h2.1
    have he0 : 0 ≤ e := by omega
    have hd := dec_rng (Q := Q) (a := a) (b := b) (s := s) hP
    show powsFrom P (z * Num.pow (decW P Q a b s) e P % P) (decL P Q s r) es = decW P Q (powsFrom P (x * Num.pow a e P % P) (evens r) es) (powsFrom P (y * Num.pow b e P % P) (odds r) es) s
    refine dec_pows hg hs r es _ _ _ h1.2.2 h2.2 (el_mul hg hx (el_pow hg h1.1 he0)) (el_mul hg hy (el_pow hg h1.2.1 he0)) (Int.emod_nonneg _ (by omega)) (Int.emod_lt_of_pos _ (by omega)) ?_
    have k1 : Cg P (z * Num.pow (decW P Q a b s) e P % P) ((y * (x ^ s.toNat) ^ (Q - 1).toNat) * (b * (a ^ s.toNat) ^ (Q - 1).toNat) ^ e.toNat) :=
      (cg_mod _ _).trans (hz.mul ((cg_pow hd.1 he0 hP).trans ((dec_cg hP (by omega) (el_rng h1.1).1 hs).pow _)))
    have k2 : Cg P (y * Num.pow b e P % P) (y * b ^ e.toNat) := (cg_mod _ _).trans ((Cg.refl P y).mul (cg_pow (el_rng h1.2.1).1 he0 hP))
    have k3 : Cg P (x * Num.pow a e P % P) (x * a ^ e.toNat) := (cg_mod _ _).trans ((Cg.refl P x).mul (cg_pow (el_rng h1.1).1 he0 hP))
    refine k1.trans (Cg.trans ?_ (k2.mul ((k3.pow s.toNat).pow (Q - 1).toNat)).symm)
    have e1 : ((a ^ s.toNat) ^ (Q - 1).toNat) ^ e.toNat = ((a ^ e.toNat) ^ s.toNat) ^ (Q - 1).toNat := by
      rw [← Int.pow_mul, ← Int.pow_mul, ← Int.pow_mul, ← Int.pow_mul]
      congr 1
      rw [Nat.mul_comm (Q - 1).toNat, Nat.mul_left_comm]
    rw [Int.mul_pow, Int.mul_pow, Int.mul_pow, e1]
    generalize (x ^ s.toNat) ^ (Q - 1).toNat = u
    generalize ((a ^ e.toNat) ^ s.toNat) ^ (Q - 1).toNat = v
    generalize b ^ e.toNat = t
    have e2 : y * u * (t * v) = y * t * (u * v) := by simp only [Int.mul_assoc, Int.mul_left_comm]
    rw [e2]
    exact Cg.refl _ _

end Go.Proofs.Ytdnofcpobpoehaa

