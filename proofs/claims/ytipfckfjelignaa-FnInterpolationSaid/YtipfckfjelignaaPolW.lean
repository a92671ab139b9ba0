/- Why the laws on polynomials and interpolation hold: plain facts. -/
import Derived.Test.YtipfckfjelignaaPolU
import Derived.Test.YtipfckfjelignaaPolQ
namespace Go.Proofs.Ytipfckfjelignaa

theorem pev_cg {q x : Int} (f : List Int) : Cg q (pev q x f) (ev x f) := by rw [pev_ev]; exact Cg.mod q _
theorem cg_range {q a b : Int} (h : Cg q a b) (ha0 : 0 ≤ a) (ha1 : a < q) (hb0 : 0 ≤ b) (hb1 : b < q) : a = b := by
  have := h.eq
  rwa [Int.emod_eq_of_lt ha0 ha1, Int.emod_eq_of_lt hb0 hb1] at this

/-! ### Sums and products -/
theorem field_mk {q : Int} {f : List Int} (hq : isPr q = true) (hs : shortB f q = true) : fieldB q [f] = true := by simp [fieldB, hq, hs]
theorem field_mk2 {q : Int} {f g : List Int} (hq : isPr q = true) (hs : shortB f q = true) (hs' : shortB g q = true) : fieldB q [f, g] = true := by simp [fieldB, hq, hs, hs']
theorem ev_ok {q x : Int} {f : List Int} (hq : isPr q = true) (hs : shortB f q = true) (hx0 : 0 ≤ x) (hx1 : x < q) : evB q x f = true ∧ evRes q x f = pev q x f := by
  obtain ⟨h2, h3, _⟩ := isPr_num hq
  have e : evB q x f = true := by
    unfold evB; rw [field_mk hq hs, resB_true.2 ⟨h2, h3, hx0, hx1⟩]; rfl
  exact ⟨e, by unfold evRes; rw [e]; rfl⟩
theorem add_facts {q : Int} {a b : List Int} (h : fieldB q [a, b] = true) :
    (2 ≤ q ∧ q ≤ 2000000000) ∧ addRes q a b = pAdd q a b ∧ evB q (q - 1) a = true ∧ evB q (q - 1) b = true ∧ evB q (q - 1) (addRes q a b) = true ∧
      (0 ≤ evRes q (q - 1) a ∧ evRes q (q - 1) a < q) ∧ (0 ≤ evRes q (q - 1) b ∧ evRes q (q - 1) b < q) ∧ evRes q (q - 1) (addRes q a b) = (evRes q (q - 1) a + evRes q (q - 1) b) % q := by
  obtain ⟨hq, ha, hb⟩ := field_two h
  obtain ⟨h2, h3, hal, har⟩ := shortB_of ha
  obtain ⟨_, _, hbl, hbr⟩ := shortB_of hb
  have e : addRes q a b = pAdd q a b := by simp [addRes, h]
  have hs : shortB (pAdd q a b) q = true := short_of h2 h3 (by rw [pAdd_length]; omega) (pAdd_res (by omega) har)
  obtain ⟨a1, a2⟩ := ev_ok (x := q - 1) hq ha (by omega) (by omega)
  obtain ⟨b1, b2⟩ := ev_ok (x := q - 1) hq hb (by omega) (by omega)
  obtain ⟨s1, s2⟩ := ev_ok (x := q - 1) hq hs (by omega) (by omega)
  rw [e, a2, b2, s2]
  refine ⟨⟨h2, h3⟩, rfl, a1, b1, s1, pev_range (by omega) _, pev_range (by omega) _, ?_⟩
  refine cg_range ?_ (pev_range (by omega) _).1 (pev_range (by omega) _).2 (Int.emod_nonneg _ (by omega)) (Int.emod_lt_of_pos _ (by omega))
  exact ((pev_cg _).trans (pAdd_ev a b)).trans (((pev_cg a).symm.add (pev_cg b).symm).trans (Cg.mod q _).symm)
theorem mul_facts {q : Int} {f g : List Int} (h : mulB q f g = true) :
    (2 ≤ q ∧ q ≤ 2000000000) ∧ evB q 1 f = true ∧ evB q 1 g = true ∧ evB q 1 (mulRes q f g) = true ∧
      (0 ≤ evRes q 1 f ∧ evRes q 1 f < q) ∧ (0 ≤ evRes q 1 g ∧ evRes q 1 g < q) ∧ evRes q 1 (mulRes q f g) = evRes q 1 f * evRes q 1 g % q := by
  have hm := h
  simp only [mulB, Bool.and_eq_true, decide_eq_true_eq] at h
  obtain ⟨hfd, hl⟩ := h
  obtain ⟨hq, ha, hb⟩ := field_two hfd
  obtain ⟨h2, h3, hal, har⟩ := shortB_of ha
  obtain ⟨_, _, hbl, hbr⟩ := shortB_of hb
  have e : mulRes q f g = mulL q f g := by simp [mulRes, hm]
  have hs : shortB (mulL q f g) q = true := by
    unfold mulL
    split
    · exact short_of h2 h3 (by simp) (by simp)
    · exact short_of h2 h3 (by rw [pMul_length]; omega) (pMul_res (by omega) _ _)
  obtain ⟨a1, a2⟩ := ev_ok (x := 1) hq ha (by omega) (by omega)
  obtain ⟨b1, b2⟩ := ev_ok (x := 1) hq hb (by omega) (by omega)
  obtain ⟨s1, s2⟩ := ev_ok (x := 1) hq hs (by omega) (by omega)
  rw [e, a2, b2, s2]
  refine ⟨⟨h2, h3⟩, a1, b1, s1, pev_range (by omega) _, pev_range (by omega) _, ?_⟩
  unfold mulL
  split
  · rename_i h0
    rcases h0 with h0 | h0
    · rw [List.eq_nil_of_length_eq_zero h0]; simp [pev]
    · rw [List.eq_nil_of_length_eq_zero h0]; simp [pev]
  · rename_i h0
    have hg : g ≠ [] := by rintro rfl; simp at h0
    refine cg_range ?_ (pev_range (by omega) _).1 (pev_range (by omega) _).2 (Int.emod_nonneg _ (by omega)) (Int.emod_lt_of_pos _ (by omega))
    exact ((pev_cg _).trans (pMul_ev f g hg)).trans (((pev_cg f).symm.mul (pev_cg g).symm).trans (Cg.mod q _).symm)

/-! ### Roots -/
theorem roots_facts {q : Int} {rs : List Int} (h : rootsB q rs = true) :
    (2 ≤ q ∧ q ≤ 2000000000) ∧ rs.length ≤ 23 ∧ fieldB q [rootsRes q rs, rs] = true ∧ evAllRes q (rootsRes q rs) rs = List.replicate rs.length 0 ∧ fieldB q [rootsRes q rs] = true ∧ degRes q (rootsRes q rs) = rs.length := by
  have hm := h
  simp only [rootsB, Bool.and_eq_true, decide_eq_true_eq] at h
  obtain ⟨hfd, hl⟩ := h
  obtain ⟨hq, hs⟩ := field_one hfd
  obtain ⟨h2, h3, _, hr⟩ := shortB_of hs
  have e : rootsRes q rs = pRoots q rs := by simp [rootsRes, hm]
  have hp : shortB (pRoots q rs) q = true := short_of h2 h3 (by rw [pRoots_length]; omega) (pRoots_res (by omega) _)
  rw [e]
  refine ⟨⟨h2, h3⟩, hl, field_mk2 hq hp hs, ?_, field_mk hq hp, ?_⟩
  · unfold evAllRes
    rw [field_mk2 hq hp hs, if_pos rfl]
    refine List.eq_replicate_iff.2 ⟨evAll_length _ _ _, fun z hz => ?_⟩
    obtain ⟨x, hx, rfl⟩ := List.mem_map.1 hz
    rw [pRoots_pev (by omega)]
    exact fac_root rs 1 hx
  · unfold degRes
    rw [field_mk hq hp, if_pos rfl]
    exact pRoots_dg (by omega) rs

/-! ### Interpolation -/
/-- The sum of what the values add, at x. -/
def sumAt (q x : Int) (xs : List Int) : Nat → List Int → Int
  | _, [] => 0
  | i, y :: ys => itpC q xs i y * fac q x (wo xs i) + sumAt q x xs (i + 1) ys
theorem itpFrom_ev {q x : Int} {xs : List Int} (hq : 1 < q) : ∀ (ys : List Int) (i : Nat) (P : List Int), P.length = xs.length → i + ys.length = xs.length → Cg q (ev x (itpFrom q xs i ys P)) (ev x P + sumAt q x xs i ys)
  | [], i, P, _, _ => by simp only [itpFrom, sumAt, Int.add_zero]; exact Cg.refl _ _
  | y :: ys, i, P, hP, hi => by
    simp only [List.length_cons] at hi
    rw [itpFrom]
    refine (itpFrom_ev hq ys (i + 1) _ (by rw [axpy_length]; exact hP) (by omega)).trans ?_
    have hw : (wo xs i).length + 1 = xs.length := by rw [wo_length (by omega)]; omega
    have h1 := axpy_ev (q := q) (c := itpC q xs i y) (x := x) P (pRoots q (wo xs i)) (by rw [pRoots_length]; omega)
    have h2 : Cg q (ev x (pRoots q (wo xs i))) (fac q x (wo xs i)) := by
      have h := pev_cg (q := q) (x := x) (pRoots q (wo xs i))
      rw [pRoots_pev hq] at h
      exact h.symm
    refine (((h1.trans ((Cg.refl q _).add ((Cg.refl q (itpC q xs i y)).mul h2))).add (Cg.refl q _))).trans ⟨0, ?_⟩
    simp only [sumAt]
    grind
theorem itp_cg {q x : Int} {xs ys : List Int} (hq : 1 < q) (hl : ys.length = xs.length) : Cg q (pev q x (itp q xs ys)) (sumAt q x xs 0 ys) := by
  have h := itpFrom_ev (q := q) (x := x) (xs := xs) hq ys 0 (List.replicate xs.length 0) (by simp) (by omega)
  rw [ev_zeros] at h
  exact (pev_cg _).trans (h.trans ⟨0, by simp⟩)
theorem dotFrom_cg {q x : Int} {xs : List Int} : ∀ (ys : List Int) (i : Nat) (acc : Int), i + ys.length = xs.length → Cg q (dotFrom q acc ((lagr q x xs).drop i) ys) (acc + sumAt q x xs i ys)
  | [], i, acc, hi => by
    have : (lagr q x xs).drop i = [] := List.drop_of_length_le (by rw [lagr_length]; simp at hi; omega)
    rw [this]; simp only [dotFrom, sumAt, Int.add_zero]; exact Cg.refl _ _
  | y :: ys, i, acc, hi => by
    simp only [List.length_cons] at hi
    have hk : i < (lagr q x xs).length := by rw [lagr_length]; omega
    rw [List.drop_eq_getElem_cons hk, lagr_get]
    simp only [dotFrom]
    refine (dotFrom_cg ys (i + 1) _ (by omega)).trans ?_
    refine (((Cg.mod q _).trans (Cg.refl q _)).add (Cg.refl q _)).trans ?_
    simp only [sumAt]
    have h1 : Cg q (coefAt q x xs i * y) (itpC q xs i y * fac q x (wo xs i)) := by
      unfold coefAt itpC
      generalize fac q x (wo xs i) = A
      generalize Num.inv (fac q (xs[i]?.getD 0) (wo xs i)) q = I
      exact ((Cg.mod q (A * I)).mul (Cg.refl q y)).trans ((show Cg q (A * I * y) (y * I * A) from ⟨0, by grind⟩).trans ((Cg.mod q (y * I)).symm.mul (Cg.refl q A)))
    have h2 := ((Cg.refl q acc).add h1).add (Cg.refl q (sumAt q x xs (i + 1) ys))
    exact h2.trans ⟨0, by grind⟩
theorem dotFrom_range {q : Int} (hq : 0 < q) : ∀ (cs ys : List Int) (acc : Int), 0 ≤ acc → acc < q → 0 ≤ dotFrom q acc cs ys ∧ dotFrom q acc cs ys < q
  | [], _, acc, h0, h1 => by simp only [dotFrom]; exact ⟨h0, h1⟩
  | _ :: _, [], acc, h0, h1 => by simp only [dotFrom]; exact ⟨h0, h1⟩
  | c :: cs, y :: ys, acc, _, _ => by simp only [dotFrom]; exact dotFrom_range hq cs ys _ (Int.emod_nonneg _ (by omega)) (Int.emod_lt_of_pos _ hq)
theorem itp_dot {q x : Int} {xs ys : List Int} (hq : 1 < q) (hl : ys.length = xs.length) : pev q x (itp q xs ys) = dotFrom q 0 (lagr q x xs) ys := by
  have h := dotFrom_cg (q := q) (x := x) (xs := xs) ys 0 0 (by omega)
  rw [List.drop_zero, Int.zero_add] at h
  obtain ⟨a, b⟩ := pev_range (q := q) (x := x) (by omega) (itp q xs ys)
  obtain ⟨c, d⟩ := dotFrom_range (q := q) (by omega) (lagr q x xs) ys 0 (by omega) (by omega)
  exact cg_range ((itp_cg hq hl).trans h.symm) a b c d

theorem sumAt_zero {q x : Int} {xs : List Int} : ∀ (ys : List Int) (i : Nat), (∀ k, i ≤ k → k < i + ys.length → fac q x (wo xs k) = 0) → sumAt q x xs i ys = 0
  | [], _, _ => rfl
  | y :: ys, i, h => by
    rw [sumAt, h i (Nat.le_refl _) (by simp), sumAt_zero ys (i + 1) (fun k h1 h2 => h k (by omega) (by simp only [List.length_cons]; omega))]; simp
theorem sumAt_one {q x : Int} {xs : List Int} : ∀ (ys : List Int) (i j : Nat) (y : Int), i ≤ j → ys[j - i]? = some y → (∀ k, i ≤ k → k < i + ys.length → k ≠ j → fac q x (wo xs k) = 0) → sumAt q x xs i ys = itpC q xs j y * fac q x (wo xs j)
  | [], _, _, _, _, h, _ => by simp at h
  | y' :: ys, i, j, y, hij, hy, h => by
    by_cases he : i = j
    · subst he
      rw [Nat.sub_self, List.getElem?_cons_zero, Option.some.injEq] at hy
      subst hy
      rw [sumAt, sumAt_zero ys (i + 1) (fun k h1 h2 => h k (by omega) (by simp only [List.length_cons]; omega) (by omega))]; simp
    · rw [sumAt, h i (Nat.le_refl _) (by simp) he]
      have e : j - i = (j - (i + 1)) + 1 := by omega
      rw [e, List.getElem?_cons_succ] at hy
      rw [sumAt_one ys (i + 1) j y (by omega) hy (fun k h1 h2 h3 => h k (by omega) (by simp only [List.length_cons]; omega) h3)]; simp
theorem mem_wo {xs : List Int} {j k : Nat} (hj : j < xs.length) (hne : k ≠ j) : xs[j] ∈ wo xs k := by
  unfold wo
  rw [List.mem_append]
  rcases Nat.lt_or_gt_of_ne hne with h | h
  · right
    exact List.mem_of_getElem? (i := j - (k + 1)) (by rw [List.getElem?_drop, show k + 1 + (j - (k + 1)) = j by omega]; simp [hj])
  · left
    exact List.mem_of_getElem? (i := j) (by rw [List.getElem?_take, if_pos h]; simp [hj])
theorem itp_at {q : Int} {xs ys : List Int} (hq : isPr q = true) (hr : ∀ z ∈ xs, 0 ≤ z ∧ z < q) (hry : ∀ z ∈ ys, 0 ≤ z ∧ z < q) (hn : xs.Nodup) (hl : ys.length = xs.length) {j : Nat} (hj : j < xs.length) : pev q xs[j] (itp q xs ys) = ys[j]'(by omega) := by
  obtain ⟨h2, h3, _⟩ := isPr_num hq
  have hjy : j < ys.length := by omega
  have hd := List.drop_eq_getElem_cons hj
  obtain ⟨f0, fok⟩ := fac_inv hq hr hn hd
  have hy := hry _ (List.getElem_mem hjy)
  obtain ⟨a, b⟩ := pev_range (q := q) (x := xs[j]) (by omega) (itp q xs ys)
  refine cg_range ((itp_cg (by omega) hl).trans ?_) a b hy.1 hy.2
  rw [sumAt_one ys 0 j ys[j] (Nat.zero_le _) (by simp [hjy]) (fun k _ h2 h3 => fac_root _ 1 (mem_wo hj h3))]
  have e : xs[j]?.getD 0 = xs[j] := by simp [hj]
  unfold itpC
  rw [e]
  have hf := fac_range (q := q) (x := xs[j]) (by omega) (wo xs j)
  have hone := (inv_res ⟨hf.1, hf.2⟩ h2 fok).1
  generalize fac q xs[j] (wo xs j) = F at *
  generalize Num.inv F q = I at *
  refine ((Cg.mod q (ys[j] * I)).mul (Cg.refl q F)).trans ?_
  have h1 : Cg q (F * I) 1 := Cg.of (by rw [hone]; exact (Int.emod_eq_of_lt (by omega) (by omega)).symm)
  exact (show Cg q (ys[j] * I * F) (ys[j] * (F * I)) from ⟨0, by grind⟩).trans (((Cg.refl q ys[j]).mul h1).trans ⟨0, by simp⟩)

theorem itp_facts {q : Int} {xs ys : List Int} (h : tabB q xs ys = true) :
    (2 ≤ q ∧ q ≤ 2000000000) ∧ xs.length ≤ 24 ∧ ys.length = xs.length ∧ fieldB q [itpRes q xs ys, xs] = true ∧ evAllRes q (itpRes q xs ys) xs = ys ∧ valB q 0 xs ys = true ∧ evB q 0 (itpRes q xs ys) = true ∧ valRes q 0 xs ys = evRes q 0 (itpRes q xs ys) ∧
      lagB q 0 xs = true ∧ dotB (lagRes q 0 xs) ys q = true ∧ dotMod (lagRes q 0 xs) ys q = evRes q 0 (itpRes q xs ys) := by
  have ht := h
  obtain ⟨hnn, hpr, hsx, hnd, h0, hsy⟩ := tab_of h
  obtain ⟨h2, h3, hlx, hrx⟩ := shortB_of hsx
  obtain ⟨_, _, _, hry⟩ := shortB_of hsy
  have e : itpRes q xs ys = itp q xs ys := by simp [itpRes, ht]
  have hs : shortB (itp q xs ys) q = true := short_of h2 h3 (by rw [itp_length]; exact hlx) (itp_res (by omega) _ _)
  have hr0 : resB 0 q = true := resB_true.2 ⟨h2, h3, by omega, by omega⟩
  have hv : valB q 0 xs ys = true := by simp [valB, ht, hr0]
  have hp : ptsB q xs = true := by simp only [tabB, Bool.and_eq_true] at ht; exact ht.1.2
  have hlg : lagB q 0 xs = true := by simp [lagB, hp, hr0]
  have hlr : lagRes q 0 xs = lagr q 0 xs := by simp [lagRes, hlg]
  obtain ⟨e1, e2⟩ := ev_ok (x := 0) hpr hs (by omega) (by omega)
  have hvr : valRes q 0 xs ys = dotFrom q 0 (lagr q 0 xs) ys := by simp [valRes, hv]
  rw [e, e2, hlr, hvr]
  refine ⟨⟨h2, h3⟩, hlx, hnn.symm, field_mk2 hpr hs hsx, ?_, hv, e1, (itp_dot (by omega) hnn.symm).symm, hlg, by rw [val_dot hlg]; exact hv, ?_⟩
  · unfold evAllRes
    rw [field_mk2 hpr hs hsx, if_pos rfl]
    refine List.ext_getElem (by rw [evAll_length]; exact hnn) fun j h1 h2 => ?_
    rw [evAll_length] at h1
    simp only [evAll, List.getElem_map]
    exact itp_at hpr hrx hry hnd hnn.symm h1
  · rw [val_res hlg, hvr, itp_dot (by omega) hnn.symm]

end Go.Proofs.Ytipfckfjelignaa

