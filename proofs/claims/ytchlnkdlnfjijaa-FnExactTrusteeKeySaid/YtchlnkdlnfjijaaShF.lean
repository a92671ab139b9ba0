/- What chapter 11 says, in plain words: groups, commitments and shares; values in the exponent; consistent shares. No Go in sight. -/
import Derived.Test.YtchlnkdlnfjijaaGrG
import Derived.Test.YtchlnkdlnfjijaaPolR
import Derived.Test.YtchlnkdlnfjijaaRoot
namespace Go.Proofs.Ytchlnkdlnfjijaa
open Go.RowKit

/-- A group that is suitable for sharing. -/
def trB (P Q G : Int) : Bool := decide (7 < Q) && goodB P Q G
theorem trB_true {P Q G : Int} : trB P Q G = true ↔ 7 < Q ∧ goodB P Q G = true := by simp [trB]
def cmsB (P Q : Int) (cs : List Int) : Bool := decide (1 ≤ cs.length) && decide (cs.length ≤ 7) && allEl P Q cs
theorem cmsB_true {P Q : Int} {cs : List Int} : cmsB P Q cs = true ↔ 1 ≤ cs.length ∧ cs.length ≤ 7 ∧ allEl P Q cs = true := by simp [cmsB, and_assoc]
def shsB (Q : Int) (ss : List Int) : Bool := decide (ss.length ≤ 7) && allIn ss 0 (Q - 1)
theorem shsB_true {Q : Int} {ss : List Int} : shsB Q ss = true ↔ ss.length ≤ 7 ∧ allIn ss 0 (Q - 1) = true := by simp [shsB]
def dlB (P Q : Int) (cs ss : List Int) : Bool := cmsB P Q cs && decide (cs.length ≤ ss.length) && shsB Q ss
theorem dlB_true {P Q : Int} {cs ss : List Int} : dlB P Q cs ss = true ↔ cmsB P Q cs = true ∧ cs.length ≤ ss.length ∧ shsB Q ss = true := by simp [dlB, and_assoc]

/-! ### Values in the exponent -/
/-- The powers of the place kept apart. -/
def atF (P Q i : Int) : Int → Int → List Int → Int
  | out, _, [] => out
  | out, pw, c :: cs => atF P Q i (out * Num.pow c pw P % P) (pw * i % Q) cs
/-- From the last commitment down. -/
def hor (P i : Int) : List Int → Int
  | [] => 1
  | c :: cs => Num.pow (hor P i cs) i P * c % P
theorem hor_rng {P i : Int} (hP : 2 ≤ P) : ∀ cs, 0 ≤ hor P i cs ∧ hor P i cs < P
  | [] => by simp only [hor]; omega
  | c :: cs => ⟨Int.emod_nonneg _ (by omega), Int.emod_lt_of_pos _ (by omega)⟩
theorem one_el7 {P Q : Int} (hP : 2 ≤ P) (hQ : 1 ≤ Q) : elB P Q 1 = true :=
  el_of_cg hP hQ (by omega) (by omega) (by rw [one_pow']; exact Cg.refl _ _)
theorem hor_el {P Q G i : Int} (hg : goodB P Q G = true) (hi : 0 ≤ i) : ∀ cs, allEl P Q cs = true → elB P Q (hor P i cs) = true
  | [], _ => by have := goodB_true.1 hg; exact one_el7 (by omega) (by omega)
  | c :: cs, h => by
    simp only [allEl, List.all_cons, Bool.and_eq_true] at h
    exact el_mul hg (el_pow hg (hor_el hg hi cs h.2) hi) h.1
theorem el_modQ {P Q x n : Int} (hP : 2 ≤ P) (hQ : 1 ≤ Q) (hx : elB P Q x = true) (hn : 0 ≤ n) : Cg P (x ^ (n % Q).toNat) (x ^ n.toNat) := by
  obtain ⟨q, rfl⟩ := Int.eq_ofNat_of_zero_le (show 0 ≤ Q by omega)
  obtain ⟨n, rfl⟩ := Int.eq_ofNat_of_zero_le hn
  have h := el_cg hP (by omega) hx
  rw [Int.toNat_natCast] at h
  have e1 : ((n : Int) % (q : Int)).toNat = n % q := by rw [← Int.natCast_emod, Int.toNat_natCast]
  rw [e1, Int.toNat_natCast]
  have e2 : x ^ n = (x ^ q) ^ (n / q) * x ^ (n % q) := by rw [← Int.pow_mul, ← Int.pow_add, Nat.div_add_mod]
  rw [e2]
  have h3 := h.pow (n / q)
  rw [one_pow'] at h3
  have h4 := h3.mul (Cg.refl P (x ^ (n % q)))
  rw [Int.one_mul] at h4
  exact h4.symm
theorem atF_rng {P Q i : Int} (hP : 2 ≤ P) : ∀ cs out pw, 0 ≤ out → out < P → 0 ≤ atF P Q i out pw cs ∧ atF P Q i out pw cs < P
  | [], out, _, h0, h1 => ⟨h0, h1⟩
  | _ :: cs, _, _, _, _ => by rw [atF]; exact atF_rng hP cs _ _ (Int.emod_nonneg _ (by omega)) (Int.emod_lt_of_pos _ (by omega))
theorem atF_cg {P Q G i : Int} (hg : goodB P Q G = true) (hi : 0 ≤ i) : ∀ cs out pw, allEl P Q cs = true → 0 ≤ pw → Cg P (atF P Q i out pw cs) (out * hor P i cs ^ pw.toNat)
  | [], out, pw, _, _ => by rw [atF, hor, one_pow', Int.mul_one]; exact Cg.refl _ _
  | c :: cs, out, pw, h, hp => by
    have hb := goodB_true.1 hg
    have hP : 2 ≤ P := by omega
    simp only [allEl, List.all_cons, Bool.and_eq_true] at h
    have hc := elB_true.1 h.1
    have hh := hor_el hg hi cs h.2
    have hr := hor_rng (i := i) hP cs
    rw [atF]
    refine (atF_cg hg hi cs _ _ h.2 (Int.emod_nonneg _ (by omega))).trans ?_
    refine ((((cg_mod P _).trans ((Cg.refl P out).mul (cg_pow (by omega) hp hP)))).mul (el_modQ hP (by omega) hh (Int.mul_nonneg hp hi))).trans ?_
    have e1 : Cg P (hor P i (c :: cs) ^ pw.toNat) ((hor P i cs ^ i.toNat * c) ^ pw.toNat) :=
      ((cg_mod P _).trans ((cg_pow hr.1 hi hP).mul (Cg.refl P c))).pow _
    refine Cg.trans ?_ ((Cg.refl P out).mul e1).symm
    rw [Int.mul_pow, ← Int.pow_mul]
    obtain ⟨p, rfl⟩ := Int.eq_ofNat_of_zero_le hp
    obtain ⟨j, rfl⟩ := Int.eq_ofNat_of_zero_le hi
    rw [← Int.natCast_mul, Int.toNat_natCast, Int.toNat_natCast, Int.toNat_natCast, Nat.mul_comm p j]
    generalize hor P (j : Int) cs ^ (j * p) = A
    generalize c ^ p = B
    rw [Int.mul_assoc, Int.mul_comm B A]
    exact Cg.refl _ _
def atV (P Q : Int) (cs : List Int) (i : Int) : Int := atF P Q i 1 1 cs
theorem hor_at {P Q G i : Int} (hg : goodB P Q G = true) (hi : 0 ≤ i) {cs : List Int} (h : allEl P Q cs = true) : hor P i cs = atV P Q cs i := by
  have hb := goodB_true.1 hg
  have hr := hor_rng (i := i) (P := P) (by omega) cs
  have ha := atF_rng (P := P) (Q := Q) (i := i) (by omega) cs 1 1 (by omega) (by omega)
  have hc := atF_cg hg hi cs 1 1 h (by omega)
  rw [Int.one_mul, show (1 : Int).toNat = 1 from rfl, Int.pow_one] at hc
  exact (hc.lt ha.1 ha.2 hr.1 hr.2).symm
theorem atV_rng {P Q G i : Int} (hg : goodB P Q G = true) (cs : List Int) : 0 ≤ atV P Q cs i ∧ atV P Q cs i < P := by
  have hb := goodB_true.1 hg
  exact atF_rng (by omega) cs 1 1 (by omega) (by omega)
/-- What the machine makes of what has come. -/
def horM (P i : Int) (pre : List (Nat × Int)) : Int := pre.foldl (fun v p => Num.pow v i P * p.2 % P) 1
theorem horM_snoc (P i : Int) (pre : List (Nat × Int)) (p : Nat × Int) : horM P i (pre ++ [p]) = Num.pow (horM P i pre) i P * p.2 % P := by simp [horM]
theorem horM_rng {P i : Int} (hP : 2 ≤ P) (pre : List (Nat × Int)) : 0 ≤ horM P i pre ∧ horM P i pre < P := by
  rcases List.eq_nil_or_concat pre with rfl | ⟨ini, p, rfl⟩
  · simp [horM]; omega
  · rw [List.concat_eq_append, horM_snoc]; exact ⟨Int.emod_nonneg _ (by omega), Int.emod_lt_of_pos _ (by omega)⟩
theorem horM_bk {P i : Int} (zs : List Int) : ∀ k, k ≤ zs.length → horM P i (bk zs k) = hor P i (zs.drop (zs.length - k))
  | 0, _ => by simp [bk, horM, hor]
  | k + 1, hk => by
    have hm : zs.length - 1 - k < zs.length := by omega
    have hd : zs.drop (zs.length - (k + 1)) = zs[zs.length - 1 - k] :: zs.drop (zs.length - k) := by
      rw [show zs.length - (k + 1) = zs.length - 1 - k by omega, List.drop_eq_getElem_cons hm, show zs.length - 1 - k + 1 = zs.length - k by omega]
    rw [bk_succ, horM_snoc, horM_bk zs k (by omega), hd, hor]
    simp [hm]
theorem horM_all {P i : Int} (zs : List Int) : horM P i (bk zs zs.length) = hor P i zs := by
  rw [horM_bk zs _ (Nat.le_refl _), Nat.sub_self, List.drop_zero]

/-! ### Shares -/
def iota (n : Nat) : List Int := (List.range n).map fun (k : Nat) => (k : Int) + 1
theorem iota_length (n : Nat) : (iota n).length = n := by simp [iota]
theorem iota_get {n k : Nat} (h : k < (iota n).length) : (iota n)[k] = (k : Int) + 1 := by simp [iota]
theorem iota_mem {n : Nat} {z : Int} : z ∈ iota n ↔ 1 ≤ z ∧ z ≤ n := by
  simp only [iota, List.mem_map, List.mem_range]
  constructor
  · rintro ⟨k, hk, rfl⟩; omega
  · rintro ⟨h1, h2⟩; exact ⟨(z - 1).toNat, by omega, by omega⟩
theorem iota_nodup (n : Nat) : (iota n).Nodup := by
  unfold iota
  rw [List.nodup_iff_pairwise_ne, List.pairwise_map]
  exact (List.nodup_range (n := n)).imp (fun h e => h (by omega))
theorem iota_succ (n : Nat) : iota (n + 1) = iota n ++ [(n : Int) + 1] := by simp [iota, List.range_succ]
theorem iota_take {n k : Nat} (h : k ≤ n) : (iota n).take k = iota k := by
  unfold iota
  rw [← List.map_take, List.take_range, Nat.min_eq_left h]
/-- The values at the first trustees. -/
def shV (q : Int) (f : List Int) (n : Nat) : List Int := evAll q f (iota n)
theorem shV_length (q : Int) (f : List Int) (n : Nat) : (shV q f n).length = n := by rw [shV, evAll_length, iota_length]

/-! ### Shares of one polynomial -/
theorem ev_evp (x : Int) : ∀ f : List Int, Num.ev x f = evp x f
  | [] => rfl
  | c :: f => by rw [Num.ev, evp, ev_evp x f, Int.mul_comm]; omega
theorem evp_mul_one (x c : Int) : ∀ f : List Int, evp x (f ++ [c]) = evp x f + x ^ f.length * c
  | [] => by simp [evp]
  | a :: f => by
    rw [List.cons_append, evp, evp, evp_mul_one x c f, List.length_cons, Int.pow_succ]
    grind
theorem zero_of_roots {p : Nat} (hp : Num.Pr p) (rs : List Nat) (hn : rs.Nodup) : ∀ (n : Nat) (l : List Int), l.length = n → (∀ r ∈ rs, r < p ∧ (p : Int) ∣ Num.ev (r : Int) l) → n ≤ rs.length → ∀ c ∈ l, (p : Int) ∣ c
  | 0, l, hl, _, _, c, hc => by
    have : l = [] := List.eq_nil_of_length_eq_zero hl
    subst this; simp at hc
  | n + 1, l, hl, hr, hle, c, hc => by
    rcases List.eq_nil_or_concat l with rfl | ⟨ini, a, rfl⟩
    · simp at hc
    · rw [List.concat_eq_append] at *
      have hin : ini.length = n := by simp at hl; omega
      by_cases ha : (p : Int) ∣ a
      · rcases List.mem_append.1 hc with h | h
        · refine zero_of_roots hp rs hn n ini hin (fun r hm => ⟨(hr r hm).1, ?_⟩) (by omega) c h
          have h2 := (hr r hm).2
          rw [ev_evp, evp_mul_one] at h2
          rw [ev_evp]
          have h3 : (p : Int) ∣ (r : Int) ^ ini.length * a := Int.dvd_trans ha (Int.dvd_mul_left _ _)
          have h4 := Int.dvd_sub h2 h3
          rwa [Int.add_sub_cancel] at h4
        · simp at h; subst h; exact ha
      · exfalso
        have := Num.roots_le hp n (ini ++ [a]) (by simp; omega) (fun c hc => by simp at hc; subst hc; exact ha) rs hn hr
        omega

/-- The difference of two polynomials. -/
def dif : List Int → List Int → List Int
  | [], g => g.map fun z => -z
  | f, [] => f
  | a :: f, b :: g => (a - b) :: dif f g
theorem dif_evp (x : Int) : ∀ f g : List Int, evp x (dif f g) = evp x f - evp x g
  | [], [] => by simp [dif, evp]
  | [], b :: g => by
    have h := dif_evp x [] g
    simp only [dif, evp, List.map_cons] at h ⊢
    rw [h]; grind
  | a :: f, [] => by simp [dif, evp]
  | a :: f, b :: g => by
    simp only [dif, evp, dif_evp x f g]; grind
theorem dif_length : ∀ f g : List Int, (dif f g).length = max f.length g.length
  | [], g => by simp [dif]
  | a :: f, [] => by simp [dif]
  | a :: f, b :: g => by simp only [dif, List.length_cons, dif_length f g]; omega
theorem dif_get : ∀ (f g : List Int) (k : Nat), k < (dif f g).length → (dif f g)[k]? = some (f.getD k 0 - g.getD k 0)
  | [], g, k, h => by
    simp only [dif, List.length_map] at h
    simp [dif, h]
  | a :: f, [], k, h => by
    simp only [dif] at h
    simp only [dif, List.getD_nil, Int.sub_zero]
    rw [List.getElem?_eq_getElem h, List.getD_eq_getElem?_getD, List.getElem?_eq_getElem h]; rfl
  | a :: f, b :: g, 0, _ => by simp [dif]
  | a :: f, b :: g, k + 1, h => by
    simp only [dif, List.length_cons] at h
    simp only [dif, List.getElem?_cons_succ, List.getD_cons_succ]
    exact dif_get f g k (by omega)
theorem getD_in {f : List Int} {k : Nat} (h : k < f.length) : f.getD k 0 = f[k] := by simp [List.getD_eq_getElem?_getD, h]
theorem getD_out {f : List Int} {k : Nat} (h : f.length ≤ k) : f.getD k 0 = 0 := by simp [List.getD_eq_getElem?_getD, h]
theorem getD_res {q : Int} (hq : 0 < q) {f : List Int} (hf : ∀ z ∈ f, 0 ≤ z ∧ z < q) (k : Nat) : 0 ≤ f.getD k 0 ∧ f.getD k 0 < q := by
  rcases Nat.lt_or_ge k f.length with h | h
  · rw [getD_in h]; exact hf _ (List.getElem_mem h)
  · rw [getD_out h]; exact ⟨Int.le_refl _, hq⟩
theorem evp_same {f g : List Int} (h : ∀ k, f.getD k 0 = g.getD k 0) (x : Int) : evp x f = evp x g := by
  have hz : ∀ z ∈ dif f g, z = 0 := by
    intro z hz
    obtain ⟨k, hk, rfl⟩ := List.mem_iff_getElem.1 hz
    have e := dif_get f g k hk
    rw [List.getElem?_eq_getElem hk, Option.some.injEq, h k] at e
    omega
  have e : dif f g = List.replicate (dif f g).length 0 := List.eq_replicate_iff.2 ⟨rfl, hz⟩
  have h1 := dif_evp x f g
  rw [e, evp_zeros] at h1
  omega
/-- Two polynomials with residues as coefficients that have the same values at enough places. -/
theorem same_poly {q : Int} (hq : isPr q = true) {f g : List Int} (hf : ∀ z ∈ f, 0 ≤ z ∧ z < q) (hg : ∀ z ∈ g, 0 ≤ z ∧ z < q) {m : Nat} (hm : (m : Int) < q) (hfm : f.length ≤ m) (hgm : g.length ≤ m)
    (h : ∀ z ∈ iota m, pev q z f = pev q z g) : ∀ k, f.getD k 0 = g.getD k 0 := by
  obtain ⟨h2, h3, hpr⟩ := isPr_num hq
  obtain ⟨p, rfl⟩ := Int.eq_ofNat_of_zero_le (show 0 ≤ q by omega)
  have hp : Num.Pr p := by
    have : Num.tri p 2 = true := by simp [Num.prB] at hpr; exact hpr.2
    exact (Num.tri_prime (by omega)).1 this
  have hz : ∀ c ∈ dif f g, (p : Int) ∣ c := by
    refine zero_of_roots hp ((List.range m).map fun k => k + 1) ?_ _ _ rfl ?_ (by rw [dif_length]; simp; omega)
    · rw [List.nodup_iff_pairwise_ne, List.pairwise_map]
      exact (List.nodup_range (n := m)).imp (fun h e => h (by omega))
    · intro r hr
      rw [List.mem_map] at hr
      obtain ⟨k, hk, rfl⟩ := hr
      rw [List.mem_range] at hk
      refine ⟨by omega, ?_⟩
      have hv := h ((k : Int) + 1) (iota_mem.2 ⟨by omega, by omega⟩)
      rw [pev_ev, pev_ev] at hv
      rw [ev_evp, dif_evp]
      exact Int.dvd_of_emod_eq_zero (Int.emod_eq_emod_iff_emod_sub_eq_zero.1 hv)
  intro k
  rcases Nat.lt_or_ge k (dif f g).length with hk | hk
  · have e := dif_get f g k hk
    have hd := hz _ (List.mem_of_getElem? e)
    have r1 : 0 ≤ f.getD k 0 ∧ f.getD k 0 < p := getD_res (by omega) hf k
    have r2 : 0 ≤ g.getD k 0 ∧ g.getD k 0 < p := getD_res (by omega) hg k
    generalize f.getD k 0 = a at *
    generalize g.getD k 0 = b at *
    obtain ⟨t, ht⟩ := hd
    rcases Int.lt_trichotomy t 0 with h' | h' | h'
    · have : (p : Int) * t ≤ p * (-1) := Int.mul_le_mul_of_nonneg_left (by omega) (by omega)
      omega
    · subst h'; omega
    · have : (p : Int) * 1 ≤ p * t := Int.mul_le_mul_of_nonneg_left (by omega) (by omega)
      omega
  · rw [dif_length] at hk
    rw [getD_out (by omega), getD_out (by omega)]

theorem dg_lt : ∀ (f : List Int) (t : Nat), dg f < t ↔ ∀ k, t ≤ k → f.getD k 0 = 0
  | [], t => by simp [dg]; omega
  | c :: f, 0 => by
    have ih := dg_lt f 0
    have hr := dg_range f
    constructor
    · intro h k _
      rw [dg] at h
      split at h
      · omega
      · rename_i h0
        split at h
        · rename_i hc
          cases k with
          | zero => simpa using hc
          | succ k => rw [List.getD_cons_succ]; exact ih.1 (by omega) k (Nat.zero_le _)
        · omega
    · intro h
      have h1 := ih.2 (fun k _ => by have := h (k + 1) (Nat.zero_le _); rwa [List.getD_cons_succ] at this)
      have h0 : c = 0 := by have := h 0 (Nat.le_refl _); simpa using this
      rw [dg, if_neg (by omega), if_pos h0]; omega
  | c :: f, t + 1 => by
    have ih := dg_lt f t
    have hr := dg_range f
    have e : dg (c :: f) < ((t + 1 : Nat) : Int) ↔ dg f < t := by
      rw [dg]
      split
      · omega
      · split <;> omega
    rw [e, ih]
    constructor
    · intro h k hk
      obtain ⟨j, rfl⟩ : ∃ j, k = j + 1 := ⟨k - 1, by omega⟩
      rw [List.getD_cons_succ]; exact h j (by omega)
    · intro h k hk
      have := h (k + 1) (by omega)
      rwa [List.getD_cons_succ] at this

/-- The shares behind the first t lie on the polynomial through these. -/
def cnsB (q : Int) (t : Nat) (ss : List Int) : Bool := (List.range (ss.length - t)).all fun j => dotFrom q 0 (lagr q (((t + j : Nat) : Int) + 1) (iota t)) (ss.take t) == ss.getD (t + j) 0
theorem cnsB_true {q : Int} {t : Nat} {ss : List Int} : cnsB q t ss = true ↔ ∀ j, j < ss.length - t → dotFrom q 0 (lagr q (((t + j : Nat) : Int) + 1) (iota t)) (ss.take t) = ss.getD (t + j) 0 := by
  simp [cnsB]
theorem cons_iff {q : Int} {t : Nat} {ss : List Int} (hq : isPr q = true) (h7 : 7 < q) (hs : ∀ z ∈ ss, 0 ≤ z ∧ z < q) (hn : ss.length ≤ 7) (ht : t ≤ 7) : decide (dg (itp q (iota ss.length) ss) < (t : Int)) = cnsB q t ss := by
  have hfl : (itp q (iota ss.length) ss).length = ss.length := by rw [itp_length, iota_length]
  have hir : ∀ n : Nat, n ≤ 7 → ∀ z ∈ iota n, 0 ≤ z ∧ z < q := fun n hn z hz => by have := iota_mem.1 hz; omega
  have hfr : ∀ z ∈ itp q (iota ss.length) ss, 0 ≤ z ∧ z < q := itp_res (by omega) _ _
  have hfv : ∀ j (hj : j < ss.length), pev q ((j : Int) + 1) (itp q (iota ss.length) ss) = ss.getD j 0 := by
    intro j hj
    have h := itp_at hq (hir _ hn) hs (iota_nodup ss.length) (iota_length _).symm (j := j) (by rw [iota_length]; exact hj)
    rw [iota_get] at h
    rw [h, getD_in hj]
  generalize itp q (iota ss.length) ss = f at *
  rw [Bool.eq_iff_iff, decide_eq_true_eq, cnsB_true]
  rcases Nat.le_total ss.length t with hc | hc
  · have := dg_range f
    constructor
    · intro _ j hj; omega
    · intro _; omega
  · have htl : (ss.take t).length = t := by rw [List.length_take]; omega
    have hsT : ∀ z ∈ ss.take t, 0 ≤ z ∧ z < q := fun z hz => hs z (List.mem_of_mem_take hz)
    have hgl : (itp q (iota t) (ss.take t)).length = t := by rw [itp_length, iota_length]
    have hgr : ∀ z ∈ itp q (iota t) (ss.take t), 0 ≤ z ∧ z < q := itp_res (by omega) _ _
    have hgd : ∀ x, dotFrom q 0 (lagr q x (iota t)) (ss.take t) = pev q x (itp q (iota t) (ss.take t)) := fun x => (itp_dot (by omega) (by rw [htl, iota_length])).symm
    have hgv : ∀ j (hj : j < t), pev q ((j : Int) + 1) (itp q (iota t) (ss.take t)) = ss.getD j 0 := by
      intro j hj
      have h := itp_at hq (hir _ ht) hsT (iota_nodup t) (by rw [htl, iota_length]) (j := j) (by rw [iota_length]; exact hj)
      rw [iota_get] at h
      rw [h, List.getElem_take, getD_in (by omega)]
    simp only [hgd]
    generalize itp q (iota t) (ss.take t) = g at *
    rw [dg_lt]
    constructor
    · intro h0 j hj
      have hF : ∀ k, f.getD k 0 = (f.take t).getD k 0 := by
        intro k
        rcases Nat.lt_or_ge k t with hk | hk
        · rw [List.getD_eq_getElem?_getD, List.getD_eq_getElem?_getD, List.getElem?_take, if_pos hk]
        · rw [h0 k hk, getD_out (by rw [List.length_take]; omega)]
      have hv : ∀ x, pev q x f = pev q x (f.take t) := fun x => by rw [pev_ev, pev_ev, evp_same hF]
      have hsame := same_poly hq (f := f.take t) (g := g) (fun z hz => hfr z (List.mem_of_mem_take hz)) hgr (m := t) (by omega) (by rw [List.length_take]; omega) (by omega) (by
        intro z hz
        obtain ⟨z1, z2⟩ := iota_mem.1 hz
        obtain ⟨k, rfl⟩ : ∃ k : Nat, z = (k : Int) + 1 := ⟨(z - 1).toNat, by omega⟩
        rw [← hv, hfv k (by omega), hgv k (by omega)])
      have := hfv (t + j) (by omega)
      rw [← this, hv, pev_ev, pev_ev, evp_same hsame]
    · intro h k hk
      have hsame := same_poly hq (f := f) (g := g) hfr hgr (m := ss.length) (by omega) (by omega) (by omega) (by
        intro z hz
        obtain ⟨z1, z2⟩ := iota_mem.1 hz
        obtain ⟨k, rfl⟩ : ∃ k : Nat, z = (k : Int) + 1 := ⟨(z - 1).toNat, by omega⟩
        rw [hfv k (by omega)]
        rcases Nat.lt_or_ge k t with hk | hk
        · rw [hgv k hk]
        · have := h (k - t) (by omega)
          rw [show t + (k - t) = k by omega] at this
          exact this.symm)
      rw [hsame k, getD_out (by omega)]

end Go.Proofs.Ytchlnkdlnfjijaa

