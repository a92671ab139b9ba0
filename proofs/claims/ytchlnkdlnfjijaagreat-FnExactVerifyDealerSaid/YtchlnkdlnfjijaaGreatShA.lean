/- A region that draws its order, within a round of a range over a function: by the plain rules. -/
import Derived.Test.YtchlnkdlnfjijaaGreatAny
import Derived.RangeFuncCalls
import Derived.RangeFuncWrites
import Derived.OrdersIn
import Derived.Deep.RegionHeld
import Derived.Test.YtchlnkdlnfjijaaGreatGrG
import Derived.Test.YtchlnkdlnfjijaaGreatPolR
import Derived.Test.YtchlnkdlnfjijaaGreatRoot
import Derived.Deep.RegionHeld3
import Derived.Test.YtchlnkdlnfjijaaGreatElB
import Derived.Test.YtchlnkdlnfjijaaGreatPolN
import Derived.Test.YtchlnkdlnfjijaaGreatShT
import Derived.Test.YtchlnkdlnfjijaaGreatWpK
namespace Go.Proofs.YtchlnkdlnfjijaaGreat
open Go.RowKit

section
variable {P : Program} {ops : Array Oper} {md : Region.Mode} {l n : Nat}
theorem rowsIn_of {row : String} {args : Array Value} {w : World} {R : Value → World → Prop} (h : Rows P row args w R) : RowsIn (Fence.wide.inRound l) n P row args w R :=
  fun c cs _ => let ⟨v, w', r, s⟩ := h c cs; ⟨v, w', r, stepsIn_wide.2 s⟩
def undefer (ops : Array Oper) : Bool := ops.all fun o => match o.op with | .defer _ => false | _ => true
theorem undefer_at (h : undefer ops = true) {i : Nat} {o : Oper} (ho : ops[i]? = some o) : ∀ c, o.op ≠ .defer c := by
  intro c hc
  unfold undefer at h
  rw [Array.all_eq_true] at h
  obtain ⟨hi, he⟩ := Array.getElem?_eq_some_iff.1 ho
  have := h i hi
  rw [he, hc] at this
  cases this
theorem opIn_of {o : Oper} {a : Act} {w : World} {K : Act → World → Prop} {Q : Exit → Act → World → Prop} (hd : ∀ c, o.op ≠ .defer c) (h : o.wp P a w K Q) : o.wpIn (Fence.wide.inRound l) n P a w K Q := by
  refine ⟨fun _ _ => trivial, ?_⟩
  rw [Oper.semAt_eq _ _ _ hd]
  unfold Oper.wp at h
  generalize (execOp a.eval o).run P w = r at *
  have hw : ∀ p : Prop, ((Fence.wide.inRound l).depth.isSome = true → p) := fun p h => by simp [Fence.wide] at h
  cases r with
  | ok x w' =>
    cases x <;> simp only [Oper.upon, Oper.uponIn] at h ⊢ <;>
      first
        | exact h
        | exact ⟨hw _, CallsIn.inRound l (callsIn_wide.2 h)⟩
        | exact ⟨hw _, rowsIn_of h⟩
  | halt x w' => cases x <;> simp only [Oper.upon, Oper.uponIn] at h ⊢ <;> exact h
theorem wpOpIn_of {Q : Exit → Act → World → Prop} {K K' : Act → World → Prop} (hu : undefer ops = true) (hQ : ¬ LetsOut Q) (hK : ∀ a w, K a w → K' a w) {i : Nat} {a : Act} {w : World} (h : wpOp P ops Q i K a w) : wpOpIn (Fence.wide.inRound l) n P ops Q i K' a w := by
  unfold wpOp at h
  unfold wpOpIn
  cases ho : ops[i]? with
  | none => simp only [ho] at h ⊢; exact hK _ _ h
  | some o =>
    simp only [ho] at h ⊢
    split
    · rename_i hw
      simp only [hw, if_true] at h
      rcases h with h | h
      · exact Oper.wpIn_mono hK (opIn_of (undefer_at hu ho) h)
      · exact absurd h.2 hQ
    · rename_i hw
      simp only [hw] at h
      exact ⟨fun _ _ => trivial, hK _ _ h⟩
theorem wpAnyIn_of {Q : Exit → Act → World → Prop} (hu : undefer ops = true) (hQ : ¬ LetsOut Q) : ∀ (fuel : Nat) (listed : Array Bool) (a : Act) (w : World), wpAny P md ops Q fuel listed a w → wpAnyIn (Fence.wide.inRound l) n P md ops Q fuel listed a w
  | 0, _, _, _, h => h
  | fuel + 1, _, _, _, h => ⟨h.1, fun i hi => wpOpIn_of hu hQ (fun a w h' => wpAnyIn_of hu hQ fuel _ a w h') (h.2 i hi)⟩
theorem wpIn_region_held {id : Nat} {a : Act} {w : World} {Q : Exit → Act → World → Prop} {S : World → Prop} (hm : P.follows .mixedOrders = true) (hu : undefer ops = true) (hQ : ¬ LetsOut Q) (hS : S w.drew)
    (h : S w.drew → wpAnyH P .any ops Q S ops.size (Array.replicate ops.size false) a w.drew) : (Code.region id ops true).wpIn (Fence.wide.inRound l) n P Q a w :=
  wpIn_region_any hm (wpAnyIn_of hu hQ _ _ _ _ (wpAny_of_held _ _ _ _ (h hS)))
end

end Go.Proofs.YtchlnkdlnfjijaaGreat

/- What chapter 11 says, in plain words: groups, commitments and shares; values in the exponent; consistent shares. No Go in sight. -/
namespace Go.Proofs.YtchlnkdlnfjijaaGreat
open Go.RowKit

/-- A group that is suitable for sharing. -/
def trB (P Q G : Int) : Bool := decide (7 < Q) && goodB P Q G
theorem trB_true {P Q G : Int} : trB P Q G = true ↔ 7 < Q ∧ goodB P Q G = true := by simp [trB]
def cmsB (P Q : Int) (cs : List Int) : Bool := decide (1 ≤ cs.length) && decide (cs.length ≤ 7) && allEl P Q cs
theorem cmsB_true {P Q : Int} {cs : List Int} : cmsB P Q cs = true ↔ 1 ≤ cs.length ∧ cs.length ≤ 7 ∧ allEl P Q cs = true := by simp [cmsB, and_assoc]
def shsB (Q : Int) (ss : List Int) : Bool := decide (ss.length ≤ 7) && allIn ss 0 (Q - 1)
theorem shsB_true {Q : Int} {ss : List Int} : shsB Q ss = true ↔ ss.length ≤ 7 ∧ allIn ss 0 (Q - 1) = true := by simp [shsB]
def dlB (P Q : Int) (cs ss : List Int) : Bool := cmsB P Q cs && decide (cs.length ≤ ss.length) && shsB Q ss
theorem dlB_true {P Q : Int} {cs ss : List Int} : dlB P Q cs ss = true ↔ cmsB P Q cs = true ∧ cs.length ≤ ss.length ∧ shsB Q ss = true := by simp [dlB, and_assoc]

/-! ### Values in the exponent -/
/-- The powers of the place kept apart. -/
def atF (P Q i : Int) : Int → Int → List Int → Int
  | out, _, [] => out
  | out, pw, c :: cs => atF P Q i (out * Num.pow c pw P % P) (pw * i % Q) cs
/-- From the last commitment down. -/
def hor (P i : Int) : List Int → Int
  | [] => 1
  | c :: cs => Num.pow (hor P i cs) i P * c % P
theorem hor_rng {P i : Int} (hP : 2 ≤ P) : ∀ cs, 0 ≤ hor P i cs ∧ hor P i cs < P
  | [] => by simp only [hor]; omega
  | c :: cs => ⟨Int.emod_nonneg _ (by omega), Int.emod_lt_of_pos _ (by omega)⟩
theorem one_el7 {P Q : Int} (hP : 2 ≤ P) (hQ : 1 ≤ Q) : elB P Q 1 = true :=
  el_of_cg hP hQ (by omega) (by omega) (by rw [one_pow']; exact Cg.refl _ _)
theorem hor_el {P Q G i : Int} (hg : goodB P Q G = true) (hi : 0 ≤ i) : ∀ cs, allEl P Q cs = true → elB P Q (hor P i cs) = true
  | [], _ => by have := goodB_true.1 hg; exact one_el7 (by omega) (by omega)
  | c :: cs, h => by
    simp only [allEl, List.all_cons, Bool.and_eq_true] at h
    exact el_mul hg (el_pow hg (hor_el hg hi cs h.2) hi) h.1
theorem el_modQ {P Q x n : Int} (hP : 2 ≤ P) (hQ : 1 ≤ Q) (hx : elB P Q x = true) (hn : 0 ≤ n) : Cg P (x ^ (n % Q).toNat) (x ^ n.toNat) := by
  obtain ⟨q, rfl⟩ := Int.eq_ofNat_of_zero_le (show 0 ≤ Q by omega)
  obtain ⟨n, rfl⟩ := Int.eq_ofNat_of_zero_le hn
  have h := el_cg hP (by omega) hx
  rw [Int.toNat_natCast] at h
  have e1 : ((n : Int) % (q : Int)).toNat = n % q := by rw [← Int.natCast_emod, Int.toNat_natCast]
  rw [e1, Int.toNat_natCast]
  have e2 : x ^ n = (x ^ q) ^ (n / q) * x ^ (n % q) := by rw [← Int.pow_mul, ← Int.pow_add, Nat.div_add_mod]
  rw [e2]
  have h3 := h.pow (n / q)
  rw [one_pow'] at h3
  have h4 := h3.mul (Cg.refl P (x ^ (n % q)))
  rw [Int.one_mul] at h4
  exact h4.symm
theorem atF_rng {P Q i : Int} (hP : 2 ≤ P) : ∀ cs out pw, 0 ≤ out → out < P → 0 ≤ atF P Q i out pw cs ∧ atF P Q i out pw cs < P
  | [], out, _, h0, h1 => ⟨h0, h1⟩
  | _ :: cs, _, _, _, _ => by rw [atF]; exact atF_rng hP cs _ _ (Int.emod_nonneg _ (by omega)) (Int.emod_lt_of_pos _ (by omega))
theorem atF_cg {P Q G i : Int} (hg : goodB P Q G = true) (hi : 0 ≤ i) : ∀ cs out pw, allEl P Q cs = true → 0 ≤ pw → Cg P (atF P Q i out pw cs) (out * hor P i cs ^ pw.toNat)
  | [], out, pw, _, _ => by rw [atF, hor, one_pow', Int.mul_one]; exact Cg.refl _ _
  | c :: cs, out, pw, h, hp => by
    have hb := goodB_true.1 hg
    have hP : 2 ≤ P := by omega
    simp only [allEl, List.all_cons, Bool.and_eq_true] at h
    have hc := elB_true.1 h.1
    have hh := hor_el hg hi cs h.2
    have hr := hor_rng (i := i) hP cs
    rw [atF]
    refine (atF_cg hg hi cs _ _ h.2 (Int.emod_nonneg _ (by omega))).trans ?_
    refine ((((cg_mod P _).trans ((Cg.refl P out).mul (cg_pow (by omega) hp hP)))).mul (el_modQ hP (by omega) hh (Int.mul_nonneg hp hi))).trans ?_
    have e1 : Cg P (hor P i (c :: cs) ^ pw.toNat) ((hor P i cs ^ i.toNat * c) ^ pw.toNat) :=
      ((cg_mod P _).trans ((cg_pow hr.1 hi hP).mul (Cg.refl P c))).pow _
    refine Cg.trans ?_ ((Cg.refl P out).mul e1).symm
    rw [Int.mul_pow, ← Int.pow_mul]
    obtain ⟨p, rfl⟩ := Int.eq_ofNat_of_zero_le hp
    obtain ⟨j, rfl⟩ := Int.eq_ofNat_of_zero_le hi
    rw [← Int.natCast_mul, Int.toNat_natCast, Int.toNat_natCast, Int.toNat_natCast, Nat.mul_comm p j]
    generalize hor P (j : Int) cs ^ (j * p) = A
    generalize c ^ p = B
    rw [Int.mul_assoc, Int.mul_comm B A]
    exact Cg.refl _ _
def atV (P Q : Int) (cs : List Int) (i : Int) : Int := atF P Q i 1 1 cs
theorem hor_at {P Q G i : Int} (hg : goodB P Q G = true) (hi : 0 ≤ i) {cs : List Int} (h : allEl P Q cs = true) : hor P i cs = atV P Q cs i := by
  have hb := goodB_true.1 hg
  have hr := hor_rng (i := i) (P := P) (by omega) cs
  have ha := atF_rng (P := P) (Q := Q) (i := i) (by omega) cs 1 1 (by omega) (by omega)
  have hc := atF_cg hg hi cs 1 1 h (by omega)
  rw [Int.one_mul, show (1 : Int).toNat = 1 from rfl, Int.pow_one] at hc
  exact (hc.lt ha.1 ha.2 hr.1 hr.2).symm
theorem atV_rng {P Q G i : Int} (hg : goodB P Q G = true) (cs : List Int) : 0 ≤ atV P Q cs i ∧ atV P Q cs i < P := by
  have hb := goodB_true.1 hg
  exact atF_rng (by omega) cs 1 1 (by omega) (by omega)
/-- What the machine makes of what has come. -/
def horM (P i : Int) (pre : List (Nat × Int)) : Int := pre.foldl (fun v p => Num.pow v i P * p.2 % P) 1
theorem horM_snoc (P i : Int) (pre : List (Nat × Int)) (p : Nat × Int) : horM P i (pre ++ [p]) = Num.pow (horM P i pre) i P * p.2 % P := by simp [horM]
theorem horM_rng {P i : Int} (hP : 2 ≤ P) (pre : List (Nat × Int)) : 0 ≤ horM P i pre ∧ horM P i pre < P := by
  rcases List.eq_nil_or_concat pre with rfl | ⟨ini, p, rfl⟩
  · simp [horM]; omega
  · rw [List.concat_eq_append, horM_snoc]; exact ⟨Int.emod_nonneg _ (by omega), Int.emod_lt_of_pos _ (by omega)⟩
theorem horM_bk {P i : Int} (zs : List Int) : ∀ k, k ≤ zs.length → horM P i (bk zs k) = hor P i (zs.drop (zs.length - k))
  | 0, _ => by simp [bk, horM, hor]
  | k + 1, hk => by
    have hm : zs.length - 1 - k < zs.length := by omega
    have hd : zs.drop (zs.length - (k + 1)) = zs[zs.length - 1 - k] :: zs.drop (zs.length - k) := by
      rw [show zs.length - (k + 1) = zs.length - 1 - k by omega, List.drop_eq_getElem_cons hm, show zs.length - 1 - k + 1 = zs.length - k by omega]
    rw [bk_succ, horM_snoc, horM_bk zs k (by omega), hd, hor]
    simp [hm]
theorem horM_all {P i : Int} (zs : List Int) : horM P i (bk zs zs.length) = hor P i zs := by
  rw [horM_bk zs _ (Nat.le_refl _), Nat.sub_self, List.drop_zero]

/-! ### Shares -/
def iota (n : Nat) : List Int := (List.range n).map fun (k : Nat) => (k : Int) + 1
theorem iota_length (n : Nat) : (iota n).length = n := by simp [iota]
theorem iota_get {n k : Nat} (h : k < (iota n).length) : (iota n)[k] = (k : Int) + 1 := by simp [iota]
theorem iota_mem {n : Nat} {z : Int} : z ∈ iota n ↔ 1 ≤ z ∧ z ≤ n := by
  simp only [iota, List.mem_map, List.mem_range]
  constructor
  · rintro ⟨k, hk, rfl⟩; omega
  · rintro ⟨h1, h2⟩; exact ⟨(z - 1).toNat, by omega, by omega⟩
theorem iota_nodup (n : Nat) : (iota n).Nodup := by
  unfold iota
  rw [List.nodup_iff_pairwise_ne, List.pairwise_map]
  exact (List.nodup_range (n := n)).imp (fun h e => h (by omega))
theorem iota_succ (n : Nat) : iota (n + 1) = iota n ++ [(n : Int) + 1] := by simp [iota, List.range_succ]
theorem iota_take {n k : Nat} (h : k ≤ n) : (iota n).take k = iota k := by
  unfold iota
  rw [← List.map_take, List.take_range, Nat.min_eq_left h]
/-- The values at the first trustees. -/
def shV (q : Int) (f : List Int) (n : Nat) : List Int := evAll q f (iota n)
theorem shV_length (q : Int) (f : List Int) (n : Nat) : (shV q f n).length = n := by rw [shV, evAll_length, iota_length]

/-! ### Shares of one polynomial -/
theorem ev_evp (x : Int) : ∀ f : List Int, Num.ev x f = evp x f
  | [] => rfl
  | c :: f => by rw [Num.ev, evp, ev_evp x f, Int.mul_comm]; omega
theorem evp_mul_one (x c : Int) : ∀ f : List Int, evp x (f ++ [c]) = evp x f + x ^ f.length * c
  | [] => by simp [evp]
  | a :: f => by
    rw [List.cons_append, evp, evp, evp_mul_one x c f, List.length_cons, Int.pow_succ]
    grind
theorem zero_of_roots {p : Nat} (hp : Num.Pr p) (rs : List Nat) (hn : rs.Nodup) : ∀ (n : Nat) (l : List Int), l.length = n → (∀ r ∈ rs, r < p ∧ (p : Int) ∣ Num.ev (r : Int) l) → n ≤ rs.length → ∀ c ∈ l, (p : Int) ∣ c
  | 0, l, hl, _, _, c, hc => by
    have : l = [] := List.eq_nil_of_length_eq_zero hl
    subst this; simp at hc
  | n + 1, l, hl, hr, hle, c, hc => by
    rcases List.eq_nil_or_concat l with rfl | ⟨ini, a, rfl⟩
    · simp at hc
    · rw [List.concat_eq_append] at *
      have hin : ini.length = n := by simp at hl; omega
      by_cases ha : (p : Int) ∣ a
      · rcases List.mem_append.1 hc with h | h
        · refine zero_of_roots hp rs hn n ini hin (fun r hm => ⟨(hr r hm).1, ?_⟩) (by omega) c h
          have h2 := (hr r hm).2
          rw [ev_evp, evp_mul_one] at h2
          rw [ev_evp]
          have h3 : (p : Int) ∣ (r : Int) ^ ini.length * a := Int.dvd_trans ha (Int.dvd_mul_left _ _)
          have h4 := Int.dvd_sub h2 h3
          rwa [Int.add_sub_cancel] at h4
        · simp at h; subst h; exact ha
      · exfalso
        have := Num.roots_le hp n (ini ++ [a]) (by simp; omega) (fun c hc => by simp at hc; subst hc; exact ha) rs hn hr
        omega

/-- The difference of two polynomials. -/
def dif : List Int → List Int → List Int
  | [], g => g.map fun z => -z
  | f, [] => f
  | a :: f, b :: g => (a - b) :: dif f g
theorem dif_evp (x : Int) : ∀ f g : List Int, evp x (dif f g) = evp x f - evp x g
  | [], [] => by simp [dif, evp]
  | [], b :: g => by
    have h := dif_evp x [] g
    simp only [dif, evp, List.map_cons] at h ⊢
    rw [h]; grind
  | a :: f, [] => by simp [dif, evp]
  | a :: f, b :: g => by
    simp only [dif, evp, dif_evp x f g]; grind
theorem dif_length : ∀ f g : List Int, (dif f g).length = max f.length g.length
  | [], g => by simp [dif]
  | a :: f, [] => by simp [dif]
  | a :: f, b :: g => by simp only [dif, List.length_cons, dif_length f g]; omega
theorem dif_get : ∀ (f g : List Int) (k : Nat), k < (dif f g).length → (dif f g)[k]? = some (f.getD k 0 - g.getD k 0)
  | [], g, k, h => by
    simp only [dif, List.length_map] at h
    simp [dif, h]
  | a :: f, [], k, h => by
    simp only [dif] at h
    simp only [dif, List.getD_nil, Int.sub_zero]
    rw [List.getElem?_eq_getElem h, List.getD_eq_getElem?_getD, List.getElem?_eq_getElem h]; rfl
  | a :: f, b :: g, 0, _ => by simp [dif]
  | a :: f, b :: g, k + 1, h => by
    simp only [dif, List.length_cons] at h
    simp only [dif, List.getElem?_cons_succ, List.getD_cons_succ]
    exact dif_get f g k (by omega)
theorem getD_in {f : List Int} {k : Nat} (h : k < f.length) : f.getD k 0 = f[k] := by simp [List.getD_eq_getElem?_getD, h]
theorem getD_out {f : List Int} {k : Nat} (h : f.length ≤ k) : f.getD k 0 = 0 := by simp [List.getD_eq_getElem?_getD, h]
theorem getD_res {q : Int} (hq : 0 < q) {f : List Int} (hf : ∀ z ∈ f, 0 ≤ z ∧ z < q) (k : Nat) : 0 ≤ f.getD k 0 ∧ f.getD k 0 < q := by
  rcases Nat.lt_or_ge k f.length with h | h
  · rw [getD_in h]; exact hf _ (List.getElem_mem h)
  · rw [getD_out h]; exact ⟨Int.le_refl _, hq⟩
theorem evp_same {f g : List Int} (h : ∀ k, f.getD k 0 = g.getD k 0) (x : Int) : evp x f = evp x g := by
  have hz : ∀ z ∈ dif f g, z = 0 := by
    intro z hz
    obtain ⟨k, hk, rfl⟩ := List.mem_iff_getElem.1 hz
    have e := dif_get f g k hk
    rw [List.getElem?_eq_getElem hk, Option.some.injEq, h k] at e
    omega
  have e : dif f g = List.replicate (dif f g).length 0 := List.eq_replicate_iff.2 ⟨rfl, hz⟩
  have h1 := dif_evp x f g
  rw [e, evp_zeros] at h1
  omega
/-- Two polynomials with residues as coefficients that have the same values at enough places. -/
theorem same_poly {q : Int} (hq : isPr q = true) {f g : List Int} (hf : ∀ z ∈ f, 0 ≤ z ∧ z < q) (hg : ∀ z ∈ g, 0 ≤ z ∧ z < q) {m : Nat} (hm : (m : Int) < q) (hfm : f.length ≤ m) (hgm : g.length ≤ m)
    (h : ∀ z ∈ iota m, pev q z f = pev q z g) : ∀ k, f.getD k 0 = g.getD k 0 := by
  obtain ⟨h2, h3, hpr⟩ := isPr_num hq
  obtain ⟨p, rfl⟩ := Int.eq_ofNat_of_zero_le (show 0 ≤ q by omega)
  have hp : Num.Pr p := by
    have : Num.tri p 2 = true := by simp [Num.prB] at hpr; exact hpr.2
    exact (Num.tri_prime (by omega)).1 this
  have hz : ∀ c ∈ dif f g, (p : Int) ∣ c := by
    refine zero_of_roots hp ((List.range m).map fun k => k + 1) ?_ _ _ rfl ?_ (by rw [dif_length]; simp; omega)
    · rw [List.nodup_iff_pairwise_ne, List.pairwise_map]
      exact (List.nodup_range (n := m)).imp (fun h e => h (by omega))
    · intro r hr
      rw [List.mem_map] at hr
      obtain ⟨k, hk, rfl⟩ := hr
      rw [List.mem_range] at hk
      refine ⟨by omega, ?_⟩
      have hv := h ((k : Int) + 1) (iota_mem.2 ⟨by omega, by omega⟩)
      rw [pev_ev, pev_ev] at hv
      rw [ev_evp, dif_evp]
      exact Int.dvd_of_emod_eq_zero (Int.emod_eq_emod_iff_emod_sub_eq_zero.1 hv)
  intro k
  rcases Nat.lt_or_ge k (dif f g).length with hk | hk
  · have e := dif_get f g k hk
    have hd := hz _ (List.mem_of_getElem? e)
    have r1 : 0 ≤ f.getD k 0 ∧ f.getD k 0 < p := getD_res (by omega) hf k
    have r2 : 0 ≤ g.getD k 0 ∧ g.getD k 0 < p := getD_res (by omega) hg k
    generalize f.getD k 0 = a at *
    generalize g.getD k 0 = b at *
    obtain ⟨t, ht⟩ := hd
    rcases Int.lt_trichotomy t 0 with h' | h' | h'
    · have : (p : Int) * t ≤ p * (-1) := Int.mul_le_mul_of_nonneg_left (by omega) (by omega)
      omega
    · subst h'; omega
    · have : (p : Int) * 1 ≤ p * t := Int.mul_le_mul_of_nonneg_left (by omega) (by omega)
      omega
  · rw [dif_length] at hk
    rw [getD_out (by omega), getD_out (by omega)]

theorem dg_lt : ∀ (f : List Int) (t : Nat), dg f < t ↔ ∀ k, t ≤ k → f.getD k 0 = 0
  | [], t => by simp [dg]; omega
  | c :: f, 0 => by
    have ih := dg_lt f 0
    have hr := dg_range f
    constructor
    · intro h k _
      rw [dg] at h
      split at h
      · omega
      · rename_i h0
        split at h
        · rename_i hc
          cases k with
          | zero => simpa using hc
          | succ k => rw [List.getD_cons_succ]; exact ih.1 (by omega) k (Nat.zero_le _)
        · omega
    · intro h
      have h1 := ih.2 (fun k _ => by have := h (k + 1) (Nat.zero_le _); rwa [List.getD_cons_succ] at this)
      have h0 : c = 0 := by have := h 0 (Nat.le_refl _); simpa using this
      rw [dg, if_neg (by omega), if_pos h0]; omega
  | c :: f, t + 1 => by
    have ih := dg_lt f t
    have hr := dg_range f
    have e : dg (c :: f) < ((t + 1 : Nat) : Int) ↔ dg f < t := by
      rw [dg]
      split
      · omega
      · split <;> omega
    rw [e, ih]
    constructor
    · intro h k hk
      obtain ⟨j, rfl⟩ : ∃ j, k = j + 1 := ⟨k - 1, by omega⟩
      rw [List.getD_cons_succ]; exact h j (by omega)
    · intro h k hk
      have := h (k + 1) (by omega)
      rwa [List.getD_cons_succ] at this

/-- The shares behind the first t lie on the polynomial through these. -/
def cnsB (q : Int) (t : Nat) (ss : List Int) : Bool := (List.range (ss.length - t)).all fun j => dotFrom q 0 (lagr q (((t + j : Nat) : Int) + 1) (iota t)) (ss.take t) == ss.getD (t + j) 0
theorem cnsB_true {q : Int} {t : Nat} {ss : List Int} : cnsB q t ss = true ↔ ∀ j, j < ss.length - t → dotFrom q 0 (lagr q (((t + j : Nat) : Int) + 1) (iota t)) (ss.take t) = ss.getD (t + j) 0 := by
  simp [cnsB]
theorem cons_iff {q : Int} {t : Nat} {ss : List Int} (hq : isPr q = true) (h7 : 7 < q) (hs : ∀ z ∈ ss, 0 ≤ z ∧ z < q) (hn : ss.length ≤ 7) (ht : t ≤ 7) : decide (dg (itp q (iota ss.length) ss) < (t : Int)) = cnsB q t ss := by
  have hfl : (itp q (iota ss.length) ss).length = ss.length := by rw [itp_length, iota_length]
  have hir : ∀ n : Nat, n ≤ 7 → ∀ z ∈ iota n, 0 ≤ z ∧ z < q := fun n hn z hz => by have := iota_mem.1 hz; omega
  have hfr : ∀ z ∈ itp q (iota ss.length) ss, 0 ≤ z ∧ z < q := itp_res (by omega) _ _
  have hfv : ∀ j (hj : j < ss.length), pev q ((j : Int) + 1) (itp q (iota ss.length) ss) = ss.getD j 0 := by
    intro j hj
    have h := itp_at hq (hir _ hn) hs (iota_nodup ss.length) (iota_length _).symm (j := j) (by rw [iota_length]; exact hj)
    rw [iota_get] at h
    rw [h, getD_in hj]
  generalize itp q (iota ss.length) ss = f at *
  rw [Bool.eq_iff_iff, decide_eq_true_eq, cnsB_true]
  rcases Nat.le_total ss.length t with hc | hc
  · have := dg_range f
    constructor
    · intro _ j hj; omega
    · intro _; omega
  · have htl : (ss.take t).length = t := by rw [List.length_take]; omega
    have hsT : ∀ z ∈ ss.take t, 0 ≤ z ∧ z < q := fun z hz => hs z (List.mem_of_mem_take hz)
    have hgl : (itp q (iota t) (ss.take t)).length = t := by rw [itp_length, iota_length]
    have hgr : ∀ z ∈ itp q (iota t) (ss.take t), 0 ≤ z ∧ z < q := itp_res (by omega) _ _
    have hgd : ∀ x, dotFrom q 0 (lagr q x (iota t)) (ss.take t) = pev q x (itp q (iota t) (ss.take t)) := fun x => (itp_dot (by omega) (by rw [htl, iota_length])).symm
    have hgv : ∀ j (hj : j < t), pev q ((j : Int) + 1) (itp q (iota t) (ss.take t)) = ss.getD j 0 := by
      intro j hj
      have h := itp_at hq (hir _ ht) hsT (iota_nodup t) (by rw [htl, iota_length]) (j := j) (by rw [iota_length]; exact hj)
      rw [iota_get] at h
      rw [h, List.getElem_take, getD_in (by omega)]
    simp only [hgd]
    generalize itp q (iota t) (ss.take t) = g at *
    rw [dg_lt]
    constructor
    · intro h0 j hj
      have hF : ∀ k, f.getD k 0 = (f.take t).getD k 0 := by
        intro k
        rcases Nat.lt_or_ge k t with hk | hk
        · rw [List.getD_eq_getElem?_getD, List.getD_eq_getElem?_getD, List.getElem?_take, if_pos hk]
        · rw [h0 k hk, getD_out (by rw [List.length_take]; omega)]
      have hv : ∀ x, pev q x f = pev q x (f.take t) := fun x => by rw [pev_ev, pev_ev, evp_same hF]
      have hsame := same_poly hq (f := f.take t) (g := g) (fun z hz => hfr z (List.mem_of_mem_take hz)) hgr (m := t) (by omega) (by rw [List.length_take]; omega) (by omega) (by
        intro z hz
        obtain ⟨z1, z2⟩ := iota_mem.1 hz
        obtain ⟨k, rfl⟩ : ∃ k : Nat, z = (k : Int) + 1 := ⟨(z - 1).toNat, by omega⟩
        rw [← hv, hfv k (by omega), hgv k (by omega)])
      have := hfv (t + j) (by omega)
      rw [← this, hv, pev_ev, pev_ev, evp_same hsame]
    · intro h k hk
      have hsame := same_poly hq (f := f) (g := g) hfr hgr (m := ss.length) (by omega) (by omega) (by omega) (by
        intro z hz
        obtain ⟨z1, z2⟩ := iota_mem.1 hz
        obtain ⟨k, rfl⟩ : ∃ k : Nat, z = (k : Int) + 1 := ⟨(z - 1).toNat, by omega⟩
        rw [hfv k (by omega)]
        rcases Nat.lt_or_ge k t with hk | hk
        · rw [hgv k hk]
        · have := h (k - t) (by omega)
          rw [show t + (k - t) = k by omega] at this
          exact this.symm)
      rw [hsame k, getD_out (by omega)]

end Go.Proofs.YtchlnkdlnfjijaaGreat

/- Chapter 11: groups, trustees, commitments, shares of both; values in the exponent of both. -/
namespace Go.Proofs.YtchlnkdlnfjijaaGreat
open Go.RowKit Go.Shelf
set_option linter.unusedVariables false
set_option linter.unusedSimpArgs false

def LZ (w : World) (ad : Option Addr) (zs : List Int) : Prop := IsInts w ad zs
theorem LZ.below {w w' : World} {ad : Option Addr} {zs : List Int} (h : LZ w ad zs) (hb : Below w.heap.size w w') : LZ w' ad zs := IsInts.below h hb (Nat.le_refl _)
theorem gr_atS (w : World) (b : Nat) (hb : w.heap.size = b) (P Q G : Int) (t : TypeId) : GR (w.alloc (.cells #[.int .i64 P, .int .i64 Q, .int .i64 G] t)) b P Q G := by
  subst hb; exact gr_new _ _ _ _ _

theorem hasTrustees_any (P Q G : Int) (w : World) :
    Calls Tryz.prog 51 #[gv P Q G] w fun e w' => e = .returned (.bool (trB P Q G)) ∧ Below w.heap.size w w' := by
  by_cases h : 7 < Q
  · have hr : trB P Q G = goodB P Q G := by simp [trB, h]
    rw [hr]
    go_enter Tryz.func51, Tryz.ntmps51
    go_wp2_with fail
    refine (isValidGroup_any P Q G _).mono ?_
    rintro e w1 ⟨rfl, hb⟩
    have HB := Lib.hid (bt (ba _ _) hb)
    clear hb
    go_wp2
    go_ret
    exact ⟨rfl, HB.out⟩
  · have hr : trB P Q G = false := by simp [trB, h]
    rw [hr]
    go_enter Tryz.func51, Tryz.ntmps51
    go_wp2
    go_ret
    exact ⟨rfl, ba _ _⟩

theorem sGroup_any (P Q G : Int) (w : World) :
    Calls Tryz.prog 32 #[gv P Q G] w fun e w' => e = .returned (.bool (trB P Q G)) ∧ Below w.heap.size w w' := by
  have hgr := Lib.hid (gr_new w P Q G 24)
  cases hg : goodB P Q G
  · have hr : trB P Q G = false := by simp [trB, hg]
    rw [hr]
    have HG := Lib.hid hg
    clear hg
    obtain ⟨g0, g1, g2⟩ := hgr.out
    go_enter Tryz.func32, Tryz.ntmps32
    go_wp2_with fail
    refine (l2Good_any P Q G _).mono ?_
    rintro e w1 ⟨rfl, hb⟩
    rw [HG.out]
    have HB := Lib.hid (bt (ba _ _) hb)
    clear hb g0 g1 g2
    go_wp2
    go_ret
    exact ⟨rfl, HB.out⟩
  · have hr : trB P Q G = decide (7 < Q) := by simp [trB, hg]
    rw [hr]
    have HG := Lib.hid hg
    clear hg
    obtain ⟨g0, g1, g2⟩ := hgr.out
    go_enter Tryz.func32, Tryz.ntmps32
    go_wp2_with fail
    refine (l2Good_any P Q G _).mono ?_
    rintro e w1 ⟨rfl, hb⟩
    rw [HG.out]
    have HB := Lib.hid (bt (ba _ _) hb)
    have HR := Lib.hid (hgr.out.below hb)
    clear hb g0 g1 g2
    obtain ⟨g0, g1, g2⟩ := HR.out
    go_wp2
    go_ret
    exact ⟨rfl, HB.out⟩

/-! ### Trustees -/
def isTr (i : Int) : Bool := decide (1 ≤ i) && decide (i ≤ 7)
theorem isTr_true {i : Int} : isTr i = true ↔ 1 ≤ i ∧ i ≤ 7 := by simp [isTr]
/-! ### Commitments -/
theorem elsB_short {P Q : Int} {zs : List Int} (h : zs.length ≤ 24) : elsB P Q zs = allEl P Q zs := by simp [elsB, h]
theorem areCommits_any (P Q G : Int) (hm : Mo P Q) (ad : Option Addr) (n cap : Nat) (cs : List Int) (hn : cs.length = n) (hl : n ≤ 1152921504606846976) (w : World) (hz : IsInts w ad cs) :
    Calls Tryz.prog 101 #[gv P Q G, .slice ad n cap] w fun e w' => e = .returned (.bool (cmsB P Q cs)) ∧ Below w.heap.size w w' := by
  by_cases h1 : 1 ≤ n
  · have h1i : (1 : Int) ≤ (n : Int) := by omega
    by_cases h2 : n ≤ 7
    · have h2i : (n : Int) ≤ 7 := by omega
      have hr : cmsB P Q cs = elsB P Q cs := by rw [elsB_short (by omega)]; simp [cmsB, hn, h1, h2]
      rw [hr]
      have HN := Lib.hid hn
      clear hr hn
      go_enter Tryz.func101, Tryz.ntmps101
      go_wp2_with fail
      refine (areElements_any P Q G hm ad n cap cs HN.out hl _ (hz.below (ba _ _) (Nat.le_refl _))).mono ?_
      rintro e w1 ⟨rfl, hb⟩
      have HB := Lib.hid (bt (ba _ _) hb)
      clear hb
      go_wp2
      go_ret
      exact ⟨rfl, HB.out⟩
    · have h2i : (7 : Int) < (n : Int) := by omega
      have hr : cmsB P Q cs = false := by simp [cmsB, hn, h2]
      rw [hr]
      clear hr
      go_enter Tryz.func101, Tryz.ntmps101
      go_wp2
      go_ret
      exact ⟨rfl, ba _ _⟩
  · have h1i : (n : Int) < 1 := by omega
    have hr : cmsB P Q cs = false := by simp [cmsB, hn, h1]
    rw [hr]
    clear hr
    go_enter Tryz.func101, Tryz.ntmps101
    go_wp2
    go_ret
    exact ⟨rfl, ba _ _⟩

theorem sCommits_any (P Q G : Int) (hm : Mo P Q) (ad : Option Addr) (n cap : Nat) (cs : List Int) (hn : cs.length = n) (hl : n ≤ 1152921504606846976) (w : World) (hz : IsInts w ad cs) :
    Calls Tryz.prog 82 #[gv P Q G, .slice ad n cap] w fun e w' => e = .returned (.bool (cmsB P Q cs)) ∧ Below w.heap.size w w' := by
  cases h1 : inB (n : Int) 1 7
  · have hr : cmsB P Q cs = false := by
      have := inB_false.1 h1
      simp only [cmsB, hn, Bool.and_eq_false_iff, decide_eq_false_iff_not]; omega
    rw [hr]
    have H1 := Lib.hid h1
    clear hr h1
    go_enter Tryz.func82, Tryz.ntmps82
    go_wp2_with fail
    refine (l1In_any _ _ _ _).mono ?_
    rw [H1.out]
    rintro e w1 ⟨rfl, rfl⟩
    go_wp2
    go_ret
    exact ⟨rfl, ba _ _⟩
  · have hr : cmsB P Q cs = allEl P Q cs := by
      have := inB_true.1 h1
      simp only [cmsB, hn]; rw [decide_eq_true (by omega), decide_eq_true (by omega)]; rfl
    rw [hr]
    have H1 := Lib.hid h1
    have HN := Lib.hid hn
    clear hr h1 hn
    go_enter Tryz.func82, Tryz.ntmps82
    go_wp2_with fail
    refine (l1In_any _ _ _ _).mono ?_
    rw [H1.out]
    rintro e w1 ⟨rfl, rfl⟩
    go_wp2_with fail
    refine (gIs_any P Q G hm ad n cap cs HN.out hl _ (hz.below (ba _ _) (Nat.le_refl _))).mono ?_
    rintro e w1 ⟨rfl, hb⟩
    have HB := Lib.hid (bt (ba _ _) hb)
    clear hb
    go_wp2
    go_ret
    exact ⟨rfl, HB.out⟩

/-! ### Values in the exponent: the program -/
theorem keepsOthers_below {W W' : World} (h : Below W.heap.size W W') : KeepsOthers W W' :=
  ⟨h.size, fun b o hb _ => by rw [h.block b (Array.getElem?_eq_some_iff.1 hb).1]; exact hb⟩
theorem letsOut_not {Q : Exit → Act → World → Prop} (h : ∀ a w, ¬ Q .outgrown a w) : ¬ LetsOut Q := fun ⟨a, w, h'⟩ => h a w h'

attribute [local go_sem] Oper.semAt_some
set_option maxRecDepth 100000 in
set_option maxHeartbeats 4000000 in
theorem commitAt_any (P Q G i : Int) (hg : goodB P Q G = true) (hi : 0 ≤ i) (hi' : i ≤ 7) (ad : Option Addr) (len cap : Nat) (cs : List Int) (hn : cs.length = len) (hl : len ≤ 1000000) (he : allEl P Q cs = true) (w : World) (hz : IsInts w ad cs) :
    Calls Tryz.prog 107 #[gv P Q G, .slice ad len cap, .int .i64 i] w fun e W' => e = .returned (.int .i64 (atV P Q cs i)) ∧ Below w.heap.size w W' := by
  subst hn
  have hbg := goodB_true.1 hg
  have hP2 : 2 ≤ P := by omega
  have hP3 : P ≤ 2000000000 := by omega
  have hP0 : P ≠ 0 := by omega
  have HE := Lib.hid (els_range he)
  have HAT := Lib.hid (hor_at hg hi he)
  clear hbg hg he
  refine (callsIn_wide (n := 3)).1 ?_
  refine callsIn_of_wp_marks Tryz.func107 rfl trivial ?_ rfl
  simp only [Tryz.ntmps107, List.size_toArray, List.length_cons, List.length_nil, Nat.reduceAdd, Nat.reduceSub, Array.replicate_succ, Array.replicate_zero, List.push_toArray, List.append_toArray, List.nil_append, List.cons_append]
  gi_wp2_with (first
    | (refine ⟨trivial, ?_⟩; gi_at_call 124; refine (backward_in Fence.wide (3 - 1) trivial rfl _ _ _ _).mono ?_; rintro e w' ⟨rfl, rfl⟩)
    | fail)
  obtain ⟨B, hB⟩ : ∃ B, w.heap.size = B := ⟨_, rfl⟩
  rw [hB]
  obtain ⟨W0, hW0⟩ : ∃ W0, ((((w.alloc (.cells #[.int .i64 P, .int .i64 Q, .int .i64 G] 24)).alloc (.cells #[.int .i64 i] 3)).alloc (.cells #[.int .i64 1] 3)).alloc (.cells #[.slice ad cs.length cap] 32)) = W0 := ⟨_, rfl⟩
  rw [hW0]
  have hsz : W0.heap.size = B + 1 + 1 + 1 + 1 := by rw [← hW0]; simp [hB]
  have bg : GR W0 B P Q G := by rw [← hW0, ← hB]; exact (((gr_new w P Q G _).below (ba _ _)).below (ba _ _)).below (ba _ _)
  have bi : Go.Boxed W0 (B + 1) 3 (.int .i64 i) := by
    have h := Go.Boxed.new (w.alloc (.cells #[.int .i64 P, .int .i64 Q, .int .i64 G] 24)) 3 (.int .i64 i)
    rw [World.size_alloc, hB] at h
    rw [← hW0]; exact (h.alloc _).alloc _
  have bv : Go.Boxed W0 (B + 1 + 1) 3 (.int .i64 1) := by
    have h := Go.Boxed.new ((w.alloc (.cells #[.int .i64 P, .int .i64 Q, .int .i64 G] 24)).alloc (.cells #[.int .i64 i] 3)) 3 (.int .i64 1)
    rw [World.size_alloc, World.size_alloc, hB] at h
    rw [← hW0]; exact h.alloc _
  have bs : Go.Boxed W0 (B + 1 + 1 + 1) 32 (.slice ad cs.length cap) := by
    have h := Go.Boxed.new (((w.alloc (.cells #[.int .i64 P, .int .i64 Q, .int .i64 G] 24)).alloc (.cells #[.int .i64 i] 3)).alloc (.cells #[.int .i64 1] 3)) 32 (.slice ad cs.length cap)
    rw [World.size_alloc, World.size_alloc, World.size_alloc, hB] at h
    rw [← hW0]; exact h
  have hB0 : Below B w W0 := by
    rw [← hW0, ← hB]
    exact ((((Below.refl _ w).alloc (Nat.le_refl _) _).alloc (by simp) _).alloc (by simp; omega) _).alloc (by simp; omega) _
  refine wpIn_rangeFunc_ownG rfl (by omega) (gf := 140) (lb := #[.pointer (some ⟨B + 1 + 1 + 1, 0, none⟩)]) rfl trivial (enters_of Tryz.func140 (by kernel_rfl) rfl)
    (backwardE_stops Fence.wide (3 - 1) trivial rfl (by omega) (B + 1 + 1 + 1) B ad cap cs (by omega) _ (by omega) bs.cell (hz.below hB0 (by omega)) (fun a ha h0 => by rw [← hB]; exact ints_lt hz h0 a ha)) KpB.trans (kpB_b (by omega) (by omega)) (Below.refl _ _) (fun _ => rfl)
    (fun pre W => (W.cell? ⟨B + 1 + 1, 0, none⟩ = some (.int .i64 (horM P i (pre.map (·.1)))) ∧ W.frozen? ⟨B + 1 + 1, 0, none⟩ = false ∧ W.cell? ⟨B, 0, none⟩ = some (.int .i64 P) ∧ W.cell? ⟨B, 1, none⟩ = some (.int .i64 Q) ∧ W.cell? ⟨B, 2, none⟩ = some (.int .i64 G) ∧ W.cell? ⟨B + 1, 0, none⟩ = some (.int .i64 i) ∧ W.cell? ⟨B + 1 + 1 + 1, 0, none⟩ = some (.slice ad cs.length cap)) ∧ Below B w W)
    (fun _ _ _ => False)
    (OwnFrom.and (Own.from (fun s A B row hs hg hr => ⟨cell_kept hs.1 hg hr, (frozen_kept hs.1 hg hr).trans hs.2.1, cell_kept hs.2.2.1 hg hr, cell_kept hs.2.2.2.1 hg hr, cell_kept hs.2.2.2.2.1 hg hr, cell_kept hs.2.2.2.2.2.1 hg hr, cell_kept hs.2.2.2.2.2.2 hg hr⟩) _) (ownFrom_below (by omega) (by omega)))
    (fun _ _ _ _ _ hs _ _ => hs)
    ⟨⟨bv.cell, bv.frozen, bg.1, bg.2.1, bg.2.2, bi.cell, bs.cell⟩, hB0⟩
    (fun p => { tmps := #[gv P Q G, .slice ad cs.length cap, .int .i64 i, .pointer (some ⟨B, 0, none⟩), undef, .pointer (some ⟨B + 1, 0, none⟩), .int .i64 0, .pointer (some ⟨B + 1 + 1, 0, none⟩), undef, .int .i64 p.1.2, .slice ad cs.length cap,
      .func (.func 140) #[] #[.pointer (some ⟨B + 1 + 1 + 1, 0, none⟩)], .int .i64 (p.1.1 : Int), .int .i64 p.1.2, undef, undef, undef, undef, undef, undef, undef, undef, undef, undef], defers := [] }) ?assign ?body ?done ?stop
  case assign =>
    intro l p W K hK
    gi_wp2
    exact hK
  case body =>
    rintro l pre p W ⟨⟨hc, hf, hg0, hg1, hg2, hcx, hcs⟩, hBW⟩ _
    obtain ⟨⟨hc1, hc2⟩, _⟩ := HE.out p.1.2 p.2
    obtain ⟨hv0, hv1⟩ := horM_rng (i := i) hP2 (pre.map (·.1))
    have HS := Lib.hid (show horM P i ((pre ++ [p]).map (·.1)) = Num.pow (horM P i (pre.map (·.1))) i P * p.1.2 % P by rw [List.map_append]; exact horM_snoc P i _ p.1)
    generalize horM P i (pre.map (·.1)) = v at *
    obtain ⟨hq0, hq1⟩ := pow_lt v i P hP2
    obtain ⟨m0, m1⟩ := prod_bd (a := Num.pow v i P) (z := p.1.2) hq0 (by omega) (by omega) (by omega)
    have hmr0 : 0 ≤ Num.pow v i P * p.1.2 % P := Int.emod_nonneg _ hP0
    have hmr1 : Num.pow v i P * p.1.2 % P < P := Int.emod_lt_of_pos _ (by omega)
    have hvx : IntKind.i64.wrap (Num.pow v i P * p.1.2) = Num.pow v i P * p.1.2 := by rw [IntKind.wrap_i64]; omega
    have hvm : (Num.pow v i P * p.1.2).tmod P = Num.pow v i P * p.1.2 % P := Int.tmod_eq_emod_of_nonneg m0
    have hvr : IntKind.i64.wrap (Num.pow v i P * p.1.2 % P) = Num.pow v i P * p.1.2 % P := by rw [IntKind.wrap_i64]; omega
    have HC := Lib.hid (And.intro hc hf)
    have HG := Lib.hid (show GR W B P Q G from ⟨hg0, hg1, hg2⟩)
    have HI := Lib.hid hcx
    have HBW := Lib.hid hBW
    have HZ := Lib.hid hcs
    clear hc hf hg0 hg1 hg2 hcx hcs hBW
    gi_wp2
    refine wpIn_region_held (S := fun w' => (w'.cell? ⟨B, 0, none⟩ = some (.int .i64 P) ∧ w'.cell? ⟨B, 1, none⟩ = some (.int .i64 Q) ∧ w'.cell? ⟨B, 2, none⟩ = some (.int .i64 G)) ∧ w'.cell? ⟨B + 1, 0, none⟩ = some (.int .i64 i)) (by kernel_rfl) (by kernel_rfl) (letsOut_not (fun a w h => h)) (show _ from ⟨HG.out, HI.out⟩) (fun hHeld => ?_)
    refine wpAnyH_take (i := 0) (v := ?_) rfl (by kernel_rfl) (by kernel_rfl) (by kernel_rfl) (fun _ _ _ h => h) (Or.inl ⟨by kernel_rfl, ?_⟩) (by assumption) ?_
    rotate_left 1
    · intro w9 hSw
      try dsimp only at hSw
      go_simp
      try with_reducible rfl
    try simp only [Act.put, List.getElem_toArray, List.getElem_cons_succ, List.getElem_cons_zero, List.setIfInBounds_toArray, List.set_cons_zero, List.set_cons_succ]
    refine wpAnyH_take (i := 2) (v := ?_) rfl (by kernel_rfl) (by kernel_rfl) (by kernel_rfl) (fun _ _ _ h => h) (Or.inl ⟨by kernel_rfl, ?_⟩) (by assumption) ?_
    rotate_left 1
    · intro w9 hSw
      try dsimp only at hSw
      go_simp
      try with_reducible rfl
    try simp only [Act.put, List.getElem_toArray, List.getElem_cons_succ, List.getElem_cons_zero, List.setIfInBounds_toArray, List.set_cons_zero, List.set_cons_succ]
    refine wpAnyH_take (i := 4) (v := ?_) rfl (by kernel_rfl) (by kernel_rfl) (by kernel_rfl) (fun _ _ _ h => h) (Or.inl ⟨by kernel_rfl, ?_⟩) (by assumption) ?_
    rotate_left 1
    · intro w9 hSw
      try dsimp only at hSw
      go_simp
      try with_reducible rfl
    try simp only [Act.put, List.getElem_toArray, List.getElem_cons_succ, List.getElem_cons_zero, List.setIfInBounds_toArray, List.set_cons_zero, List.set_cons_succ]
    refine wpAnyH_take (i := 6) (v := ?_) rfl (by kernel_rfl) (by kernel_rfl) (by kernel_rfl) (fun _ _ _ h => h) (Or.inl ⟨by kernel_rfl, ?_⟩) (by assumption) ?_
    rotate_left 1
    · intro w9 hSw
      try dsimp only at hSw
      go_simp
      try with_reducible rfl
    try simp only [Act.put, List.getElem_toArray, List.getElem_cons_succ, List.getElem_cons_zero, List.setIfInBounds_toArray, List.set_cons_zero, List.set_cons_succ]
    refine wpAnyH_take (i := 7) (v := ?_) rfl (by kernel_rfl) (by kernel_rfl) (by kernel_rfl) (fun _ _ _ h => h) (Or.inl ⟨by kernel_rfl, ?_⟩) (by assumption) ?_
    rotate_left 1
    · intro w9 hSw
      try dsimp only at hSw
      go_simp
      try with_reducible rfl
    try simp only [Act.put, List.getElem_toArray, List.getElem_cons_succ, List.getElem_cons_zero, List.setIfInBounds_toArray, List.set_cons_zero, List.set_cons_succ]
    refine wpAnyH_ready (rs := [1]) (by kernel_rfl) (by simp) ?_
    refine AllReadyH.cons rfl (fun K hK => ?_) (AllReadyH.nil)
    have hc1 : W.drew.cell? ⟨B + 1 + 1, 0, none⟩ = some (.int .i64 v) := HC.out.1
    go_simp
    refine hK.out _ _ (show _ from ⟨HG.out, HI.out⟩) (fun hHeld => ?_)
    clear hK K hc1
    try simp only [Act.put, List.getElem_toArray, List.getElem_cons_succ, List.getElem_cons_zero, List.setIfInBounds_toArray, List.set_cons_zero, List.set_cons_succ]
    refine wpAnyH_ready (rs := [3]) (by kernel_rfl) (by simp) ?_
    refine AllReadyH.cons rfl (fun K hK => ?_) (AllReadyH.nil)
    go_simp
    go_at_call 96
    refine (power_any P Q G v i hv0 (by omega) hi (by omega) hP2 hP3 _).mono ?_
    rintro e' W1 ⟨rfl, hb⟩
    have hl0 : B < W.heap.size := HG.out.lt
    have hl1 : B + 1 < W.heap.size := World.block_lt_of_cell? W _ HI.out
    have hl2 : B + 1 + 1 < W.heap.size := World.block_lt_of_cell? W _ HC.out.1
    have hbd : Below W.heap.size W W.drew := (Below.refl _ W).drew
    have hb1 : Below W.heap.size W W1 := bt hbd hb
    have HG1 := Lib.hid (HG.out.below hb1)
    have HI1 := Lib.hid ((hb1.cell (p := ⟨B + 1, 0, none⟩) hl1).trans HI.out)
    have HC1 := Lib.hid (And.intro ((hb1.cell (p := ⟨B + 1 + 1, 0, none⟩) hl2).trans HC.out.1) ((hb1.frozen (p := ⟨B + 1 + 1, 0, none⟩) hl2).trans HC.out.2))
    have HB1 := Lib.hid hb1
    have hl3 : B + 1 + 1 + 1 < W.heap.size := World.block_lt_of_cell? W _ HZ.out
    have HZ1 := Lib.hid ((hb1.cell (p := ⟨B + 1 + 1 + 1, 0, none⟩) hl3).trans HZ.out)
    clear hb hbd hb1
    go_wp2_with fail
    refine hK.out _ _ (show _ from ⟨HG1.out, HI1.out⟩) (fun hHeld => ?_)
    clear hK K
    try simp only [Act.put, List.getElem_toArray, List.getElem_cons_succ, List.getElem_cons_zero, List.setIfInBounds_toArray, List.set_cons_zero, List.set_cons_succ]
    refine wpAnyH_take (i := 5) (v := ?_) rfl (by kernel_rfl) (by kernel_rfl) (by kernel_rfl) (fun _ _ _ h => h) (Or.inl ⟨by kernel_rfl, ?_⟩) (by assumption) ?_
    rotate_left 1
    · intro w9 hSw
      try dsimp only at hSw
      go_simp
      try with_reducible rfl
    try simp only [Act.put, List.getElem_toArray, List.getElem_cons_succ, List.getElem_cons_zero, List.setIfInBounds_toArray, List.set_cons_zero, List.set_cons_succ]
    refine wpAnyH_take (i := 8) (v := ?_) rfl (by kernel_rfl) (by kernel_rfl) (by kernel_rfl) (fun _ _ _ h => h) (Or.inl ⟨by kernel_rfl, ?_⟩) (by assumption) ?_
    rotate_left 1
    · intro w9 hSw
      try dsimp only at hSw
      go_simp
      try with_reducible rfl
    try simp only [Act.put, List.getElem_toArray, List.getElem_cons_succ, List.getElem_cons_zero, List.setIfInBounds_toArray, List.set_cons_zero, List.set_cons_succ]
    refine wpAnyH_ready (rs := [9]) (by kernel_rfl) (by simp) ?_
    refine AllReadyH.cons rfl (fun K hK => ?_) (AllReadyH.nil)
    obtain ⟨hc1, hf1⟩ := HC1.out
    go_simp
    have HN1 := Lib.hid (World.cell?_setCell_same' W1 ⟨B + 1 + 1, 0, none⟩ (.int .i64 (Num.pow v i P * p.1.2 % P)) (by rw [hc1]; rfl))
    have HG2 := Lib.hid (show GR (W1.setCell ⟨B + 1 + 1, 0, none⟩ (.int .i64 (Num.pow v i P * p.1.2 % P))) B P Q G from by
      have hh := Below.heap_setCell W1 ⟨B + 1 + 1, 0, none⟩ (.int .i64 (Num.pow v i P * p.1.2 % P)) B (by show B ≠ B + 1 + 1; omega)
      exact ⟨(cell_heap (w := W1) (a := ⟨B, 0, none⟩) hh).trans HG1.out.1, (cell_heap (w := W1) (a := ⟨B, 1, none⟩) hh).trans HG1.out.2.1, (cell_heap (w := W1) (a := ⟨B, 2, none⟩) hh).trans HG1.out.2.2⟩)
    have HI2 := Lib.hid ((cell_heap (w := W1) (a := ⟨B + 1, 0, none⟩) (Below.heap_setCell W1 ⟨B + 1 + 1, 0, none⟩ (.int .i64 (Num.pow v i P * p.1.2 % P)) (B + 1) (by show B + 1 ≠ B + 1 + 1; omega))).trans HI1.out)
    have hh3 := Below.heap_setCell W1 ⟨B + 1 + 1, 0, none⟩ (.int .i64 (Num.pow v i P * p.1.2 % P)) (B + 1 + 1 + 1) (by show B + 1 + 1 + 1 ≠ B + 1 + 1; omega)
    refine hK.out _ _ (show _ from ⟨HG2.out, HI2.out⟩) (fun hHeld => ?_)
    clear hK K
    refine wpAnyH_done (by kernel_rfl) ?_ _
    refine ⟨((keepsOthers_below HB1.out).trans (KeepsOthers.setCell _ _ _)).from _, ⟨(HB1.out.mono (by omega)).setCell (p := ⟨B + 1 + 1, 0, none⟩) (by show B ≤ B + 1 + 1; omega) _, hh3.trans (HB1.out.block _ hl3)⟩,
      ⟨by rw [HS.out]; exact HN1.out, by rw [World.frozen?_setCell]; exact hf1, HG2.out.1, HG2.out.2.1, HG2.out.2.2, HI2.out, (cell_heap (w := W1) (a := ⟨B + 1 + 1 + 1, 0, none⟩) hh3).trans HZ1.out⟩, (HBW.out.trans (HB1.out.mono (by omega))).setCell (p := ⟨B + 1 + 1, 0, none⟩) (by show B ≤ B + 1 + 1; omega) _⟩
  case done =>
    rintro D ys W hD hys ⟨⟨hc, _⟩, hBW⟩ hK
    rw [hys, horM_all, HAT.out] at hc
    gi_wp2
    refine ⟨by simp, .inl ⟨_, _, rfl, run_takeDeferred hK, ?_⟩⟩
    exact ⟨_, results_tmp rfl _ _ _, rfl, by rw [hB]; exact hBW.trans (belowK_b (w := w) (by omega) W D _ _ (by omega) hK rfl rfl)⟩
  case stop =>
    rintro D c pre W _ _ h _
    exact h.elim

end Go.Proofs.YtchlnkdlnfjijaaGreat

/- Chapter 11: values in the exponent of the reference; whether a share is right; CommitAt and CheckShare of both. -/
namespace Go.Proofs.YtchlnkdlnfjijaaGreat
open Go.RowKit
set_option linter.unusedVariables false
set_option linter.unusedSimpArgs false

theorem mul_two {P x y : Int} (h0 : 0 ≤ x) (h1 : x < P) : mulFrom P 1 [x, y] = x * y % P := by
  show 1 * x % P * y % P = _
  rw [Int.one_mul, Int.emod_eq_of_lt h0 h1]
theorem atF_step {P Q i out pw c t : Int} {cs rest : List Int} {k : Nat} (h : cs.drop k = c :: rest) (hb : t = atF P Q i out pw (cs.drop k)) : t = atF P Q i (out * Num.pow c pw P % P) (pw * i % Q) rest := by
  rw [hb, h]; rfl

set_option maxRecDepth 100000 in
set_option maxHeartbeats 1600000 in
theorem sAt_any (P Q G i : Int) (hg : goodB P Q G = true) (hi : 0 ≤ i) (hi' : i ≤ 7) (ad : Option Addr) (n cap : Nat) (cs : List Int) (hn : cs.length = n) (hl : n ≤ 1000000) (he : allEl P Q cs = true) (w : World) (hz : IsInts w ad cs) :
    Calls Tryz.prog 99 #[gv P Q G, .slice ad n cap, .int .i64 i] w fun e w' => e = .returned (.int .i64 (atV P Q cs i)) ∧ Below w.heap.size w w' := by
  have hbg := goodB_true.1 hg
  have hP2 : 2 ≤ P := by omega
  have hP3 : P ≤ 2000000000 := by omega
  have hQ2 : 2 ≤ Q := by omega
  have hQ3 : Q ≤ 2000000000 := by omega
  have hQ0 : Q ≠ 0 := by omega
  have HE := Lib.hid (els_range he)
  have HN := Lib.hid hn
  have HZ := Lib.hid hz
  clear hbg hg he hn hz
  unfold atV
  go_enter Tryz.func99, Tryz.ntmps99
  go_wp2
  go_loopw [7, 8, 10, 13] (fun O W _ K wr => ∃ (k : Nat) (o pw : Int), k ≤ n ∧ (0 ≤ o ∧ o < P) ∧ (0 ≤ pw ∧ pw < Q) ∧ O = .int .i64 o ∧ W = .int .i64 pw ∧ K = .int .i64 k ∧ atF P Q i 1 1 cs = atF P Q i o pw (cs.drop k) ∧ Below w.heap.size w wr ∧ GR wr w.heap.size P Q G) (fun _ _ _ K _ => n - (intOf K).toNat)
  case atStart => exact ⟨0, 1, 1, Nat.zero_le _, ⟨by omega, by omega⟩, ⟨by omega, by omega⟩, rfl, rfl, rfl, rfl, ba _ _, gr_new _ _ _ _ _⟩
  case round =>
    obtain ⟨k, o, pw, hk, ⟨ho0, ho1⟩, ⟨hw0, hw1⟩, rfl, rfl, rfl, hrl, hbel, hgr⟩ := hrel
    by_cases hkn : k < n
    · obtain ⟨b, off, c, rfl, hb, hc, hd⟩ := (HZ.out.below hbel (Nat.le_refl _)).at (k := k) (by have := HN.out; omega)
      obtain ⟨⟨hc1, hc2⟩, _⟩ := HE.out c (mem_drop hd)
      have HS := Lib.hid (atF_step hd hrl)
      obtain ⟨hv0, hv1⟩ := pow_lt c pw P hP2
      obtain ⟨pv, hpv⟩ : ∃ pv, Num.pow c pw P = pv := ⟨_, rfl⟩
      rw [hpv] at hv0 hv1
      have HPV := Lib.hid hpv
      have HM := Lib.hid (mul_two (y := pv) ho0 ho1)
      have HMP := Lib.hid (show ∀ z ∈ [o, pv], 0 ≤ z ∧ z < P by intro z hz; simp at hz; rcases hz with rfl | rfl <;> omega)
      have hm0 : 0 ≤ o * pv % P := Int.emod_nonneg _ (by omega)
      have hm1 : o * pv % P < P := Int.emod_lt_of_pos _ (by omega)
      obtain ⟨q0, q1⟩ := prod_bd (a := pw) (z := i) hw0 (by omega) hi (by omega)
      have hx1 : IntKind.i64.wrap (pw * i) = pw * i := by rw [IntKind.wrap_i64]; omega
      have hx2 : (pw * i).tmod Q = pw * i % Q := Int.tmod_eq_emod_of_nonneg q0
      have hq0 : 0 ≤ pw * i % Q := Int.emod_nonneg _ hQ0
      have hq1 : pw * i % Q < Q := Int.emod_lt_of_pos _ (by omega)
      have hx3 : IntKind.i64.wrap (pw * i % Q) = pw * i % Q := by rw [IntKind.wrap_i64]; omega
      have HB_0 := Lib.hid hbel
      have G_0 := Lib.hid hgr
      clear hpv hd hrl hbel hgr
      go_wp2_with fail
      have hbd : Below wr.heap.size wr wr.drew := (Below.refl _ wr).drew
      have HB_s := Lib.hid (bt HB_0.out hbd)
      have G_s := Lib.hid (G_0.out.below hbd)
      clear hbd
      refine wp_region_held_drew (S := (fun w' => w'.cell? ⟨w.heap.size, 0, none⟩ = some (.int .i64 P) ∧ w'.cell? ⟨w.heap.size, 1, none⟩ = some (.int .i64 Q) ∧ w'.cell? ⟨w.heap.size, 2, none⟩ = some (.int .i64 G))) (by kernel_rfl) (show _ from G_0.out) (fun hHeld => ?_)
      generalize hW0 : wr.drew = Ws at *
      clear hW0
      refine wpAnyH_take (i := 0) (v := ?_) rfl (by kernel_rfl) (by kernel_rfl) (by kernel_rfl) (fun _ _ _ h => h) (Or.inl ⟨by kernel_rfl, ?_⟩) (by assumption) ?_
      rotate_left 1
      · intro w9 hSw
        try dsimp only at hSw
        go_simp
        try with_reducible rfl
      try simp only [Act.put, List.getElem_toArray, List.getElem_cons_succ, List.getElem_cons_zero, List.setIfInBounds_toArray, List.set_cons_zero, List.set_cons_succ]
      refine wpAnyH_take (i := 1) (v := ?_) rfl (by kernel_rfl) (by kernel_rfl) (by kernel_rfl) (fun _ _ _ h => h) (Or.inl ⟨by kernel_rfl, ?_⟩) (by assumption) ?_
      rotate_left 1
      · intro w9 hSw
        try dsimp only at hSw
        go_simp
        try with_reducible rfl
      try simp only [Act.put, List.getElem_toArray, List.getElem_cons_succ, List.getElem_cons_zero, List.setIfInBounds_toArray, List.set_cons_zero, List.set_cons_succ]
      refine wpAnyH_take (i := 2) (v := ?_) rfl (by kernel_rfl) (by kernel_rfl) (by kernel_rfl) (fun _ _ _ h => h) (Or.inl ⟨by kernel_rfl, ?_⟩) (by assumption) ?_
      rotate_left 1
      · intro w9 hSw
        try dsimp only at hSw
        go_simp
        try with_reducible rfl
      try simp only [Act.put, List.getElem_toArray, List.getElem_cons_succ, List.getElem_cons_zero, List.setIfInBounds_toArray, List.set_cons_zero, List.set_cons_succ]
      refine wpAnyH_take (i := 3) (v := ?_) rfl (by kernel_rfl) (by kernel_rfl) (by kernel_rfl) (fun _ _ _ h => h) (Or.inl ⟨by kernel_rfl, ?_⟩) (by assumption) ?_
      rotate_left 1
      · intro w9 hSw
        try dsimp only at hSw
        go_simp
        try with_reducible rfl
      try simp only [Act.put, List.getElem_toArray, List.getElem_cons_succ, List.getElem_cons_zero, List.setIfInBounds_toArray, List.set_cons_zero, List.set_cons_succ]
      refine wpAnyH_take (i := 4) (v := ?_) rfl (by kernel_rfl) (by kernel_rfl) (by kernel_rfl) (fun _ _ _ h => h) (Or.inl ⟨by kernel_rfl, ?_⟩) (by assumption) ?_
      rotate_left 1
      · intro w9 hSw
        try dsimp only at hSw
        go_simp
        try with_reducible rfl
      try simp only [Act.put, List.getElem_toArray, List.getElem_cons_succ, List.getElem_cons_zero, List.setIfInBounds_toArray, List.set_cons_zero, List.set_cons_succ]
      refine wpAnyH_ready (rs := [5]) (by kernel_rfl) (by simp) ?_
      refine AllReadyH.cons rfl (fun K hK => ?_) (AllReadyH.nil)
      go_simp
      go_at_call 73
      refine (gExp_any P Q G c pw (by omega) (by omega) (by omega) (by omega) hP2 hP3 hQ2 hQ3 _).mono ?_
      rw [HPV.out]
      rintro e' Wsf ⟨rfl, hb⟩
      have HB_sf := Lib.hid (bt HB_s.out hb)
      have G_sf := Lib.hid (G_s.out.below hb)
      clear hb
      go_wp2_with fail
      refine hK.out _ _ (show _ from G_sf.out) (fun hHeld => ?_)
      clear hK K
      try simp only [Act.put, List.getElem_toArray, List.getElem_cons_succ, List.getElem_cons_zero, List.setIfInBounds_toArray, List.set_cons_zero, List.set_cons_succ]
      refine wpAnyH_ready (rs := [6]) (by kernel_rfl) (by simp) ?_
      refine AllReadyH.cons rfl (fun K hK => ?_) (AllReadyH.nil)
      go_simp
      have hb := ba Wsf (.cells #[.int .i64 o, .int .i64 pv] 3)
      have HB_sfg := Lib.hid (bt HB_sf.out hb)
      have G_sfg := Lib.hid (G_sf.out.below hb)
      have L_sfg := Lib.hid (show IsInts (Wsf.alloc (.cells #[.int .i64 o, .int .i64 pv] 3)) (some ⟨Wsf.heap.size, 0, none⟩) [o, pv] from ints_lit Wsf [o, pv] 3)
      clear hb
      refine hK.out _ _ (show _ from G_sfg.out) (fun hHeld => ?_)
      clear hK K
      try simp only [Act.put, List.getElem_toArray, List.getElem_cons_succ, List.getElem_cons_zero, List.setIfInBounds_toArray, List.set_cons_zero, List.set_cons_succ]
      generalize hW9 : Wsf.alloc (.cells #[.int .i64 o, .int .i64 pv] 3) = Wsfg at *
      clear hW9
      refine wpAnyH_ready (rs := [7]) (by kernel_rfl) (by simp) ?_
      refine AllReadyH.cons rfl (fun K hK => ?_) (AllReadyH.nil)
      go_simp
      go_at_call 116
      refine (gMul_any P Q G _ 2 2 [o, pv] rfl (by decide) hP2 hP3 HMP.out _ L_sfg.out).mono ?_
      rw [HM.out]
      rintro e' Wsfgh ⟨rfl, hb⟩
      have HB_sfgh := Lib.hid (bt HB_sfg.out hb)
      have G_sfgh := Lib.hid (G_sfg.out.below hb)
      have L_sfgh := Lib.hid (L_sfg.out.below hb)
      clear hb
      go_wp2_with fail
      refine hK.out _ _ (show _ from G_sfgh.out) (fun hHeld => ?_)
      clear hK K
      try simp only [Act.put, List.getElem_toArray, List.getElem_cons_succ, List.getElem_cons_zero, List.setIfInBounds_toArray, List.set_cons_zero, List.set_cons_succ]
      refine wpAnyH_take (i := 8) (v := ?_) rfl (by kernel_rfl) (by kernel_rfl) (by kernel_rfl) (fun _ _ _ h => h) (Or.inl ⟨by kernel_rfl, ?_⟩) (by assumption) ?_
      rotate_left 1
      · intro w9 hSw
        try dsimp only at hSw
        go_simp
        try with_reducible rfl
      try simp only [Act.put, List.getElem_toArray, List.getElem_cons_succ, List.getElem_cons_zero, List.setIfInBounds_toArray, List.set_cons_zero, List.set_cons_succ]
      refine wpAnyH_done (by kernel_rfl) ?_ _
      clear hHeld
      obtain ⟨g0, g1, g2⟩ := G_sfgh.out
      go_wp2
      go_roundw
      case rel => exact ⟨k + 1, _, _, by omega, ⟨hm0, hm1⟩, ⟨hq0, hq1⟩, rfl, rfl, by go_num, by have h := HS.out; rw [HPV.out] at h; exact h, HB_sfgh.out, G_sfgh.out⟩
      case measure => simp only [intOf]; omega
    · have HR := Lib.hid hrl
      have HB := Lib.hid hbel
      clear hrl hbel hgr
      go_wp2
      go_ret
      refine ⟨?_, HB.out⟩
      rw [HR.out, List.drop_of_length_le (by have := HN.out; omega)]; rfl

/-! ### Right shares -/
def fitB (P Q G : Int) (cs : List Int) (i s : Int) : Bool := Num.pow G s P == atV P Q cs i

set_option maxRecDepth 100000 in
set_option maxHeartbeats 3200000 in
theorem isShare_any (P Q G i s : Int) (hg : goodB P Q G = true) (hi : 0 ≤ i) (hi' : i ≤ 7) (hs : 0 ≤ s ∧ s < Q) (ad : Option Addr) (n cap : Nat) (cs : List Int) (hn : cs.length = n) (hl : n ≤ 1000000) (he : allEl P Q cs = true) (w : World) (hz : IsInts w ad cs) :
    Calls Tryz.prog 87 #[gv P Q G, .slice ad n cap, .int .i64 i, .int .i64 s] w fun e w' => e = .returned (.bool (fitB P Q G cs i s)) ∧ Below w.heap.size w w' := by
  obtain ⟨hs0, hs1⟩ := hs
  have hbg := goodB_true.1 hg
  have hP2 : 2 ≤ P := by omega
  have hP3 : P ≤ 2000000000 := by omega
  have hQ2 : 2 ≤ Q := by omega
  have hQ3 : Q ≤ 2000000000 := by omega
  have hG0 : 0 ≤ G := by omega
  have hG1 : G ≤ 2000000000 := by omega
  have HGD := Lib.hid hg
  have HE := Lib.hid he
  have HN := Lib.hid hn
  obtain ⟨x, hx⟩ : ∃ x, Num.pow G s P = x := ⟨_, rfl⟩
  obtain ⟨y, hy⟩ : ∃ y, atV P Q cs i = y := ⟨_, rfl⟩
  have e1 : fitB P Q G cs i s = (x == y) := by unfold fitB; rw [hx, hy]
  rw [e1]
  have HL := Lib.hid hx
  have HR := Lib.hid hy
  have G_0 := Lib.hid (gr_atS w (w.heap.size) (by simp) P Q G 24)
  have HB_0 := Lib.hid (show Below w.heap.size w (w.alloc (.cells #[.int .i64 P, .int .i64 Q, .int .i64 G] 24)) from ba _ _)
  have Z_0 := Lib.hid (LZ.below hz HB_0.out)
  clear hbg hg he hn hz e1 hx hy
  obtain ⟨g0, g1, g2⟩ := G_0.out
  go_enter Tryz.func87, Tryz.ntmps87
  go_wp2_with fail
  clear g0 g1 g2
  generalize hW9 : w.alloc (.cells #[.int .i64 P, .int .i64 Q, .int .i64 G] 24) = v0 at *
  clear hW9
  have hbd : Below v0.heap.size v0 v0.drew := (Below.refl _ v0).drew
  have HB_s := Lib.hid (bt HB_0.out hbd)
  have G_s := Lib.hid (G_0.out.below hbd)
  have Z_s := Lib.hid (Z_0.out.below hbd)
  clear hbd
  refine wp_region_held_drew (S := (fun w' => w'.cell? ⟨w.heap.size, 0, none⟩ = some (.int .i64 P) ∧ w'.cell? ⟨w.heap.size, 1, none⟩ = some (.int .i64 Q) ∧ w'.cell? ⟨w.heap.size, 2, none⟩ = some (.int .i64 G))) (by kernel_rfl) (show _ from G_0.out) (fun hHeld => ?_)
  generalize hW0 : v0.drew = Ws at *
  clear hW0
  refine wpAnyH_take (i := 0) (v := ?_) rfl (by kernel_rfl) (by kernel_rfl) (by kernel_rfl) (fun _ _ _ h => h) (Or.inl ⟨by kernel_rfl, ?_⟩) (by assumption) ?_
  rotate_left 1
  · intro w9 hSw
    try dsimp only at hSw
    go_simp
    try with_reducible rfl
  try simp only [Act.put, List.getElem_toArray, List.getElem_cons_succ, List.getElem_cons_zero, List.setIfInBounds_toArray, List.set_cons_zero, List.set_cons_succ]
  refine wpAnyH_take (i := 1) (v := ?_) rfl (by kernel_rfl) (by kernel_rfl) (by kernel_rfl) (fun _ _ _ h => h) (Or.inl ⟨by kernel_rfl, ?_⟩) (by assumption) ?_
  rotate_left 1
  · intro w9 hSw
    try dsimp only at hSw
    go_simp
    try with_reducible rfl
  try simp only [Act.put, List.getElem_toArray, List.getElem_cons_succ, List.getElem_cons_zero, List.setIfInBounds_toArray, List.set_cons_zero, List.set_cons_succ]
  refine wpAnyH_take (i := 2) (v := ?_) rfl (by kernel_rfl) (by kernel_rfl) (by kernel_rfl) (fun _ _ _ h => h) (Or.inl ⟨by kernel_rfl, ?_⟩) (by assumption) ?_
  rotate_left 1
  · intro w9 hSw
    try dsimp only at hSw
    go_simp
    try with_reducible rfl
  try simp only [Act.put, List.getElem_toArray, List.getElem_cons_succ, List.getElem_cons_zero, List.setIfInBounds_toArray, List.set_cons_zero, List.set_cons_succ]
  refine wpAnyH_take (i := 3) (v := ?_) rfl (by kernel_rfl) (by kernel_rfl) (by kernel_rfl) (fun _ _ _ h => h) (Or.inl ⟨by kernel_rfl, ?_⟩) (by assumption) ?_
  rotate_left 1
  · intro w9 hSw
    try dsimp only at hSw
    go_simp
    try with_reducible rfl
  try simp only [Act.put, List.getElem_toArray, List.getElem_cons_succ, List.getElem_cons_zero, List.setIfInBounds_toArray, List.set_cons_zero, List.set_cons_succ]
  refine wpAnyH_take (i := 5) (v := ?_) rfl (by kernel_rfl) (by kernel_rfl) (by kernel_rfl) (fun _ _ _ h => h) (Or.inl ⟨by kernel_rfl, ?_⟩) (by assumption) ?_
  rotate_left 1
  · intro w9 hSw
    try dsimp only at hSw
    go_simp
    try with_reducible rfl
  try simp only [Act.put, List.getElem_toArray, List.getElem_cons_succ, List.getElem_cons_zero, List.setIfInBounds_toArray, List.set_cons_zero, List.set_cons_succ]
  refine wpAnyH_take (i := 6) (v := ?_) rfl (by kernel_rfl) (by kernel_rfl) (by kernel_rfl) (fun _ _ _ h => h) (Or.inl ⟨by kernel_rfl, ?_⟩) (by assumption) ?_
  rotate_left 1
  · intro w9 hSw
    try dsimp only at hSw
    go_simp
    try with_reducible rfl
  try simp only [Act.put, List.getElem_toArray, List.getElem_cons_succ, List.getElem_cons_zero, List.setIfInBounds_toArray, List.set_cons_zero, List.set_cons_succ]
  refine wpAnyH_take (i := 7) (v := ?_) rfl (by kernel_rfl) (by kernel_rfl) (by kernel_rfl) (fun _ _ _ h => h) (Or.inl ⟨by kernel_rfl, ?_⟩) (by assumption) ?_
  rotate_left 1
  · intro w9 hSw
    try dsimp only at hSw
    go_simp
    try with_reducible rfl
  try simp only [Act.put, List.getElem_toArray, List.getElem_cons_succ, List.getElem_cons_zero, List.setIfInBounds_toArray, List.set_cons_zero, List.set_cons_succ]
  refine wpAnyH_ready (rs := [4]) (by kernel_rfl) (by simp) ?_
  refine AllReadyH.cons rfl (fun K hK => ?_) (AllReadyH.nil)
  go_simp
  go_at_call 96
  refine (power_any P Q G G s hG0 hG1 hs0 (by omega) hP2 hP3 _).mono ?_
  rw [HL.out]
  rintro e' Wse ⟨rfl, hb⟩
  have HB_se := Lib.hid (bt HB_s.out hb)
  have G_se := Lib.hid (G_s.out.below hb)
  have Z_se := Lib.hid (Z_s.out.below hb)
  clear hb
  go_wp2_with fail
  refine hK.out _ _ (show _ from G_se.out) (fun hHeld => ?_)
  clear hK K
  try simp only [Act.put, List.getElem_toArray, List.getElem_cons_succ, List.getElem_cons_zero, List.setIfInBounds_toArray, List.set_cons_zero, List.set_cons_succ]
  refine wpAnyH_ready (rs := [8]) (by kernel_rfl) (by simp) ?_
  refine AllReadyH.cons rfl (fun K hK => ?_) (AllReadyH.nil)
  go_simp
  go_at_call 107
  refine (commitAt_any P Q G i HGD.out hi hi' ad n cap cs HN.out hl HE.out _ Z_se.out).mono ?_
  rw [HR.out]
  rintro e' Wsei ⟨rfl, hb⟩
  have HB_sei := Lib.hid (bt HB_se.out hb)
  have G_sei := Lib.hid (G_se.out.below hb)
  have Z_sei := Lib.hid (Z_se.out.below hb)
  clear hb
  go_wp2_with fail
  refine hK.out _ _ (show _ from G_sei.out) (fun hHeld => ?_)
  clear hK K
  try simp only [Act.put, List.getElem_toArray, List.getElem_cons_succ, List.getElem_cons_zero, List.setIfInBounds_toArray, List.set_cons_zero, List.set_cons_succ]
  refine wpAnyH_take (i := 9) (v := ?_) rfl (by kernel_rfl) (by kernel_rfl) (by kernel_rfl) (fun _ _ _ h => h) (Or.inl ⟨by kernel_rfl, ?_⟩) (by assumption) ?_
  rotate_left 1
  · intro w9 hSw
    try dsimp only at hSw
    go_simp
    try with_reducible rfl
  try simp only [Act.put, List.getElem_toArray, List.getElem_cons_succ, List.getElem_cons_zero, List.setIfInBounds_toArray, List.set_cons_zero, List.set_cons_succ]
  refine wpAnyH_take (i := 10) (v := ?_) rfl (by kernel_rfl) (by kernel_rfl) (by kernel_rfl) (fun _ _ _ h => h) (Or.inl ⟨by kernel_rfl, ?_⟩) (by assumption) ?_
  rotate_left 1
  · intro w9 hSw
    try dsimp only at hSw
    go_simp
    try with_reducible rfl
  try simp only [Act.put, List.getElem_toArray, List.getElem_cons_succ, List.getElem_cons_zero, List.setIfInBounds_toArray, List.set_cons_zero, List.set_cons_succ]
  refine wpAnyH_done (by kernel_rfl) ?_ _
  go_wp2
  go_ret
  exact ⟨rfl, HB_sei.out⟩

set_option maxRecDepth 100000 in
set_option maxHeartbeats 3200000 in
theorem sFits_any (P Q G i s : Int) (hg : goodB P Q G = true) (hi : 0 ≤ i) (hi' : i ≤ 7) (hs : 0 ≤ s ∧ s < Q) (ad : Option Addr) (n cap : Nat) (cs : List Int) (hn : cs.length = n) (hl : n ≤ 1000000) (he : allEl P Q cs = true) (w : World) (hz : IsInts w ad cs) :
    Calls Tryz.prog 74 #[gv P Q G, .slice ad n cap, .int .i64 i, .int .i64 s] w fun e w' => e = .returned (.bool (fitB P Q G cs i s)) ∧ Below w.heap.size w w' := by
  obtain ⟨hs0, hs1⟩ := hs
  have hbg := goodB_true.1 hg
  have hP2 : 2 ≤ P := by omega
  have hP3 : P ≤ 2000000000 := by omega
  have hQ2 : 2 ≤ Q := by omega
  have hQ3 : Q ≤ 2000000000 := by omega
  have hG0 : 0 ≤ G := by omega
  have hG1 : G ≤ 2000000000 := by omega
  have HGD := Lib.hid hg
  have HE := Lib.hid he
  have HN := Lib.hid hn
  obtain ⟨x, hx⟩ : ∃ x, Num.pow G s P = x := ⟨_, rfl⟩
  obtain ⟨y, hy⟩ : ∃ y, atV P Q cs i = y := ⟨_, rfl⟩
  have e1 : fitB P Q G cs i s = (x == y) := by unfold fitB; rw [hx, hy]
  rw [e1]
  have HL := Lib.hid hx
  have HR := Lib.hid hy
  have G_0 := Lib.hid (gr_atS w (w.heap.size) (by simp) P Q G 24)
  have HB_0 := Lib.hid (show Below w.heap.size w (w.alloc (.cells #[.int .i64 P, .int .i64 Q, .int .i64 G] 24)) from ba _ _)
  have Z_0 := Lib.hid (LZ.below hz HB_0.out)
  clear hbg hg he hn hz e1 hx hy
  obtain ⟨g0, g1, g2⟩ := G_0.out
  go_enter Tryz.func74, Tryz.ntmps74
  go_wp2_with fail
  clear g0 g1 g2
  generalize hW9 : w.alloc (.cells #[.int .i64 P, .int .i64 Q, .int .i64 G] 24) = v0 at *
  clear hW9
  have hbd : Below v0.heap.size v0 v0.drew := (Below.refl _ v0).drew
  have HB_s := Lib.hid (bt HB_0.out hbd)
  have G_s := Lib.hid (G_0.out.below hbd)
  have Z_s := Lib.hid (Z_0.out.below hbd)
  clear hbd
  refine wp_region_held_drew (S := (fun w' => w'.cell? ⟨w.heap.size, 0, none⟩ = some (.int .i64 P) ∧ w'.cell? ⟨w.heap.size, 1, none⟩ = some (.int .i64 Q) ∧ w'.cell? ⟨w.heap.size, 2, none⟩ = some (.int .i64 G))) (by kernel_rfl) (show _ from G_0.out) (fun hHeld => ?_)
  generalize hW0 : v0.drew = Ws at *
  clear hW0
  refine wpAnyH_take (i := 0) (v := ?_) rfl (by kernel_rfl) (by kernel_rfl) (by kernel_rfl) (fun _ _ _ h => h) (Or.inl ⟨by kernel_rfl, ?_⟩) (by assumption) ?_
  rotate_left 1
  · intro w9 hSw
    try dsimp only at hSw
    go_simp
    try with_reducible rfl
  try simp only [Act.put, List.getElem_toArray, List.getElem_cons_succ, List.getElem_cons_zero, List.setIfInBounds_toArray, List.set_cons_zero, List.set_cons_succ]
  refine wpAnyH_take (i := 1) (v := ?_) rfl (by kernel_rfl) (by kernel_rfl) (by kernel_rfl) (fun _ _ _ h => h) (Or.inl ⟨by kernel_rfl, ?_⟩) (by assumption) ?_
  rotate_left 1
  · intro w9 hSw
    try dsimp only at hSw
    go_simp
    try with_reducible rfl
  try simp only [Act.put, List.getElem_toArray, List.getElem_cons_succ, List.getElem_cons_zero, List.setIfInBounds_toArray, List.set_cons_zero, List.set_cons_succ]
  refine wpAnyH_take (i := 2) (v := ?_) rfl (by kernel_rfl) (by kernel_rfl) (by kernel_rfl) (fun _ _ _ h => h) (Or.inl ⟨by kernel_rfl, ?_⟩) (by assumption) ?_
  rotate_left 1
  · intro w9 hSw
    try dsimp only at hSw
    go_simp
    try with_reducible rfl
  try simp only [Act.put, List.getElem_toArray, List.getElem_cons_succ, List.getElem_cons_zero, List.setIfInBounds_toArray, List.set_cons_zero, List.set_cons_succ]
  refine wpAnyH_take (i := 3) (v := ?_) rfl (by kernel_rfl) (by kernel_rfl) (by kernel_rfl) (fun _ _ _ h => h) (Or.inl ⟨by kernel_rfl, ?_⟩) (by assumption) ?_
  rotate_left 1
  · intro w9 hSw
    try dsimp only at hSw
    go_simp
    try with_reducible rfl
  try simp only [Act.put, List.getElem_toArray, List.getElem_cons_succ, List.getElem_cons_zero, List.setIfInBounds_toArray, List.set_cons_zero, List.set_cons_succ]
  refine wpAnyH_take (i := 5) (v := ?_) rfl (by kernel_rfl) (by kernel_rfl) (by kernel_rfl) (fun _ _ _ h => h) (Or.inl ⟨by kernel_rfl, ?_⟩) (by assumption) ?_
  rotate_left 1
  · intro w9 hSw
    try dsimp only at hSw
    go_simp
    try with_reducible rfl
  try simp only [Act.put, List.getElem_toArray, List.getElem_cons_succ, List.getElem_cons_zero, List.setIfInBounds_toArray, List.set_cons_zero, List.set_cons_succ]
  refine wpAnyH_take (i := 6) (v := ?_) rfl (by kernel_rfl) (by kernel_rfl) (by kernel_rfl) (fun _ _ _ h => h) (Or.inl ⟨by kernel_rfl, ?_⟩) (by assumption) ?_
  rotate_left 1
  · intro w9 hSw
    try dsimp only at hSw
    go_simp
    try with_reducible rfl
  try simp only [Act.put, List.getElem_toArray, List.getElem_cons_succ, List.getElem_cons_zero, List.setIfInBounds_toArray, List.set_cons_zero, List.set_cons_succ]
  refine wpAnyH_take (i := 7) (v := ?_) rfl (by kernel_rfl) (by kernel_rfl) (by kernel_rfl) (fun _ _ _ h => h) (Or.inl ⟨by kernel_rfl, ?_⟩) (by assumption) ?_
  rotate_left 1
  · intro w9 hSw
    try dsimp only at hSw
    go_simp
    try with_reducible rfl
  try simp only [Act.put, List.getElem_toArray, List.getElem_cons_succ, List.getElem_cons_zero, List.setIfInBounds_toArray, List.set_cons_zero, List.set_cons_succ]
  refine wpAnyH_ready (rs := [4]) (by kernel_rfl) (by simp) ?_
  refine AllReadyH.cons rfl (fun K hK => ?_) (AllReadyH.nil)
  go_simp
  go_at_call 73
  refine (gExp_any P Q G G s hG0 hG1 hs0 hs1 hP2 hP3 hQ2 hQ3 _).mono ?_
  rw [HL.out]
  rintro e' Wse ⟨rfl, hb⟩
  have HB_se := Lib.hid (bt HB_s.out hb)
  have G_se := Lib.hid (G_s.out.below hb)
  have Z_se := Lib.hid (Z_s.out.below hb)
  clear hb
  go_wp2_with fail
  refine hK.out _ _ (show _ from G_se.out) (fun hHeld => ?_)
  clear hK K
  try simp only [Act.put, List.getElem_toArray, List.getElem_cons_succ, List.getElem_cons_zero, List.setIfInBounds_toArray, List.set_cons_zero, List.set_cons_succ]
  refine wpAnyH_ready (rs := [8]) (by kernel_rfl) (by simp) ?_
  refine AllReadyH.cons rfl (fun K hK => ?_) (AllReadyH.nil)
  go_simp
  go_at_call 99
  refine (sAt_any P Q G i HGD.out hi hi' ad n cap cs HN.out hl HE.out _ Z_se.out).mono ?_
  rw [HR.out]
  rintro e' Wsei ⟨rfl, hb⟩
  have HB_sei := Lib.hid (bt HB_se.out hb)
  have G_sei := Lib.hid (G_se.out.below hb)
  have Z_sei := Lib.hid (Z_se.out.below hb)
  clear hb
  go_wp2_with fail
  refine hK.out _ _ (show _ from G_sei.out) (fun hHeld => ?_)
  clear hK K
  try simp only [Act.put, List.getElem_toArray, List.getElem_cons_succ, List.getElem_cons_zero, List.setIfInBounds_toArray, List.set_cons_zero, List.set_cons_succ]
  refine wpAnyH_take (i := 9) (v := ?_) rfl (by kernel_rfl) (by kernel_rfl) (by kernel_rfl) (fun _ _ _ h => h) (Or.inl ⟨by kernel_rfl, ?_⟩) (by assumption) ?_
  rotate_left 1
  · intro w9 hSw
    try dsimp only at hSw
    go_simp
    try with_reducible rfl
  try simp only [Act.put, List.getElem_toArray, List.getElem_cons_succ, List.getElem_cons_zero, List.setIfInBounds_toArray, List.set_cons_zero, List.set_cons_succ]
  refine wpAnyH_take (i := 10) (v := ?_) rfl (by kernel_rfl) (by kernel_rfl) (by kernel_rfl) (fun _ _ _ h => h) (Or.inl ⟨by kernel_rfl, ?_⟩) (by assumption) ?_
  rotate_left 1
  · intro w9 hSw
    try dsimp only at hSw
    go_simp
    try with_reducible rfl
  try simp only [Act.put, List.getElem_toArray, List.getElem_cons_succ, List.getElem_cons_zero, List.setIfInBounds_toArray, List.set_cons_zero, List.set_cons_succ]
  refine wpAnyH_done (by kernel_rfl) ?_ _
  go_wp2
  go_ret
  exact ⟨rfl, HB_sei.out⟩

/-! ### CommitAt -/
def caB (P Q G : Int) (cs : List Int) (i : Int) : Bool := trB P Q G && (cmsB P Q cs && inB i 0 7)
def caV (P Q G : Int) (cs : List Int) (i : Int) : Int := if caB P Q G cs i then atV P Q cs i else 0
def ckB (P Q G : Int) (cs : List Int) (i s : Int) : Bool := trB P Q G && (cmsB P Q cs && (inB i 1 7 && exB Q s))
def ckV (P Q G : Int) (cs : List Int) (i s : Int) : Bool := ckB P Q G cs i s && fitB P Q G cs i s
theorem isTr_in (i : Int) : isTr i = inB i 1 7 := rfl
theorem trB_of {P Q G : Int} (h : trB P Q G = true) : goodB P Q G = true ∧ Mo P Q ∧ 7 < Q := ⟨(trB_true.1 h).2, good_mo (trB_true.1 h).2, (trB_true.1 h).1⟩
theorem allIn_one (Q s : Int) : allIn [s] 0 (Q - 1) = exB Q s := by simp [allIn, exB]
theorem in_off {i : Int} (h0 : ¬ i = 0) (h : inB i 1 7 = false) : inB i 0 7 = false := inB_false.2 (by have := inB_false.1 h; omega)
theorem in_on {i : Int} (h : inB i 1 7 = true) : inB i 0 7 = true := inB_true.2 (by have := inB_true.1 h; omega)

/-! ### As the laws call them -/
end Go.Proofs.YtchlnkdlnfjijaaGreat

/- Chapter 11: lists of shares, the numbers of the first trustees, shares of a polynomial; AreConsistent of both. -/
namespace Go.Proofs.YtchlnkdlnfjijaaGreat
open Go.RowKit
set_option linter.unusedVariables false
set_option linter.unusedSimpArgs false

theorem exsB_short {Q : Int} {zs : List Int} (h : zs.length ≤ 24) : exsB Q zs = allIn zs 0 (Q - 1) := by
  unfold exsB; rw [decide_eq_true h]; simp [allIn, exB]
theorem allIn_res7 {Q : Int} {zs : List Int} (h : allIn zs 0 (Q - 1) = true) : ∀ z ∈ zs, 0 ≤ z ∧ z < Q := by
  intro z hz
  unfold allIn at h
  rw [List.all_eq_true] at h
  exact exB_true.1 (h z hz)
set_option maxHeartbeats 1600000 in
theorem areShares_any (P Q G : Int) (ad : Option Addr) (n cap : Nat) (ss : List Int) (hn : ss.length = n) (hl : n ≤ 1152921504606846976) (w : World) (hz : IsInts w ad ss) :
    Calls Tryz.prog 53 #[gv P Q G, .slice ad n cap] w fun e w' => e = .returned (.bool (shsB Q ss)) ∧ Below w.heap.size w w' := by
  by_cases h2 : n ≤ 7
  · have h2i : (n : Int) ≤ 7 := by omega
    have hr : shsB Q ss = exsB Q ss := by rw [exsB_short (by omega)]; simp [shsB, hn, h2]
    rw [hr]
    have HN := Lib.hid hn
    clear hr hn
    go_enter Tryz.func53, Tryz.ntmps53
    go_wp2_with fail
    refine (areExponents_any P Q G ad n cap ss HN.out hl _ (hz.below (ba _ _) (Nat.le_refl _))).mono ?_
    rintro e w1 ⟨rfl, hb⟩
    have HB := Lib.hid (bt (ba _ _) hb)
    clear hb
    go_wp2
    go_ret
    exact ⟨rfl, HB.out⟩
  · have h2i : (7 : Int) < (n : Int) := by omega
    have hr : shsB Q ss = false := by simp [shsB, hn, h2]
    rw [hr]
    clear hr
    go_enter Tryz.func53, Tryz.ntmps53
    go_wp2
    go_ret
    exact ⟨rfl, ba _ _⟩

/-! ### The numbers of the first trustees -/
set_option maxHeartbeats 1600000 in
theorem firstTrustees_any (n : Nat) (hn : n ≤ 1000) (w : World) :
    Calls Tryz.prog 84 #[.int .i64 n] w fun e w' => ∃ g, e = .returned (.slice (some ⟨g, 0, none⟩) n n) ∧ w'.ownsRow w.heap.size 3 1 (.slice (some ⟨g, 0, none⟩) n n) n ((iota n).map (Value.int .i64)) ∧ Below w.heap.size w w' := by
  obtain ⟨i0, hi0, hz0, hz1, hz2⟩ := info_parts Tryz.info3
  have HZ2 := Lib.hid hz2
  clear hz2
  go_enter Tryz.func84, Tryz.ntmps84
  go_wp2_with (at_make
               refine wpList_make_full _ rfl _ _ 32 rfl w.heap.size 3 i0 (.int .i64 0) 1 Tryz.underlying32 hi0 hz0 hz1 .i64 .i64 _ _ n rfl rfl rfl rfl (by rw [HZ2.out]; omega) (by unfold maxLen; omega) (Nat.le_refl _) ?_
               intro w2 hown hgrow
               have HOW := Lib.hid (made_zeros hown)
               have HB2 := Lib.hid ((Below.refl w.heap.size w).grown hgrow (Nat.le_refl _) (by simp))
               clear hown hgrow)
  go_loopw [4, 9] (fun _ K wr => ∃ k : Nat, k ≤ n ∧ K = .int .i64 k ∧ wr.ownsRow w.heap.size 3 1 (.slice (some ⟨w.heap.size, 0, none⟩) n n) n ((over (iota n) (List.replicate n 0) k).map (Value.int .i64)) ∧ Below w.heap.size w wr) (fun _ K _ => n - (intOf K).toNat)
  case atStart => exact ⟨0, Nat.zero_le _, rfl, by rw [over_zero]; exact HOW.out, HB2.out⟩
  case round =>
    obtain ⟨k, hk, rfl, hownr, hbel⟩ := hrel
    by_cases hkn : k < n
    · obtain ⟨⟨u, hcu⟩, hfu⟩ := own_cell hownr hkn
      have hx1 : IntKind.i64.wrap ((k : Int) + 1) = (k : Int) + 1 := by rw [IntKind.wrap_i64]; omega
      have HO := Lib.hid (inv_store hownr (fun h => iota_get h) (by rw [iota_length]; exact hkn) (by simpa using hkn))
      have HB := Lib.hid hbel
      clear hownr hbel HOW HB2
      go_wp2
      go_roundw
      case rel => exact ⟨k + 1, by omega, by go_num, HO.out, HB.out.setCell (Nat.le_refl _) _⟩
      case measure => simp only [intOf]; omega
    · have HO := Lib.hid hownr
      have HB := Lib.hid hbel
      clear hownr hbel HOW HB2
      go_wp2
      go_ret
      refine ⟨_, rfl, ?_, HB.out⟩
      have h := HO.out
      rwa [over_all _ _ (by rw [iota_length]; omega) (by simp; omega)] at h

/-! ### AreConsistent -/
def acB (P Q G t : Int) (ss : List Int) : Bool := trB P Q G && (inB t 1 7 && (inB (ss.length : Int) 1 7 && allIn ss 0 (Q - 1)))
def acV (P Q G t : Int) (ss : List Int) : Bool := acB P Q G t ss && cnsB Q t.toNat ss
theorem isPr_Q {P Q G : Int} (h : goodB P Q G = true) : isPr Q = true := isPr_mk (by have := goodB_true.1 h; omega) (goodB_true.1 h).2.2.2.2.2.1
theorem ac_facts {P Q G t : Int} {ss : List Int} (h : acB P Q G t ss = true) : goodB P Q G = true ∧ 7 < Q ∧ (1 ≤ t ∧ t ≤ 7) ∧ (1 ≤ ss.length ∧ ss.length ≤ 7) ∧ (∀ z ∈ ss, 0 ≤ z ∧ z < Q) ∧ isPr Q = true ∧
    tabB Q (iota ss.length) ss = true ∧ itpRes Q (iota ss.length) ss = itp Q (iota ss.length) ss ∧ fieldB Q [itp Q (iota ss.length) ss] = true ∧ degRes Q (itp Q (iota ss.length) ss) = dg (itp Q (iota ss.length) ss) := by
  simp only [acB, Bool.and_eq_true] at h
  obtain ⟨h1, h2, h3, h4⟩ := h
  obtain ⟨h7, hg⟩ := trB_true.1 h1
  have ht := inB_true.1 h2
  have hn := inB_true.1 h3
  have hr := allIn_res7 h4
  have hq := isPr_Q hg
  obtain ⟨q2, q3, _⟩ := isPr_num hq
  have hxs : shortB (iota ss.length) Q = true := short_of q2 q3 (by rw [iota_length]; omega) (fun z hz => by have := iota_mem.1 hz; omega)
  have hys : shortB ss Q = true := short_of q2 q3 (by omega) hr
  have htab : tabB Q (iota ss.length) ss = true := by
    rw [tabB_eq, field_mk2 hq hxs hys, decide_eq_true (iota_nodup _), decide_eq_true (by rw [iota_length]; omega), decide_eq_true (iota_length _)]; rfl
  have hf : fieldB Q [itp Q (iota ss.length) ss] = true := field_mk hq (short_of q2 q3 (by rw [itp_length, iota_length]; omega) (itp_res (by omega) _ _))
  exact ⟨hg, h7, ht, by omega, hr, hq, htab, by simp [itpRes, htab], hf, by simp [degRes, hf]⟩

theorem ac_sh {P Q G t : Int} {ss : List Int} (h : shsB Q ss = false) : acB P Q G t ss = false := by
  unfold acB
  cases h1 : inB (ss.length : Int) 1 7
  · simp
  · have := inB_true.1 h1
    have h2 : allIn ss 0 (Q - 1) = false := by unfold shsB at h; rwa [decide_eq_true (by omega), Bool.true_and] at h
    simp [h2]
theorem ac_on {P Q G t : Int} {ss : List Int} (h0 : trB P Q G = true) (h1 : 1 ≤ t) (h2 : t ≤ 7) (h3 : ss.length ≠ 0) (h4 : shsB Q ss = true) : acB P Q G t ss = true := by
  obtain ⟨h5, h6⟩ := shsB_true.1 h4
  simp [acB, h0, h6, inB_true.2 ⟨h1, h2⟩, inB_true.2 (show 1 ≤ (ss.length : Int) ∧ (ss.length : Int) ≤ 7 by omega)]
theorem inI_ints {P : Nat} {w : World} {a : Option Addr} {n c : Nat} {z : List Int} (h : InI P w (.slice a n c) z) : IsInts w a z := by
  obtain ⟨_, a', c', he, h1, _⟩ := h
  simp only [Value.slice.injEq] at he
  obtain ⟨rfl, _, _⟩ := he
  exact h1.ints
theorem LZ_own {w : World} {B n vc : Nat} {va : Option Addr} {zs : List Int} (h : w.ownsRow B 3 1 (.slice va n vc) n (zs.map (Value.int .i64))) : LZ w va zs := (own_ints h).1
theorem owI_in {w w0 : World} {g n : Nat} {zs : List Int} (h : w.ownsRow w0.heap.size 3 1 (.slice (some ⟨g, 0, none⟩) n n) n (zs.map (Value.int .i64))) (hb : w0.heap.size ≤ w.heap.size) : InI w.heap.size w (.slice (some ⟨g, 0, none⟩) n n) zs := (owI_mk h hb).toIn

def CZ (w : World) (a : Addr) (v : Value) : Prop := w.cell? a = some v
theorem CZ.below {w w' : World} {a : Addr} {v : Value} (h : CZ w a v) (hb : Below w.heap.size w w') : CZ w' a v := by
  unfold CZ at *
  rw [hb.cell (World.block_lt_of_cell? w a h)]; exact h
def BZ (u w : World) : Prop := Below u.heap.size u w
theorem BZ.below {u w w' : World} (h : BZ u w) (hb : Below w.heap.size w w') : BZ u w' := bt h hb
theorem cnsB_off {q : Int} {t : Nat} {ss : List Int} {j : Nat} (hj : j < ss.length - t) (h : dotFrom q 0 (lagr q (((t + j : Nat) : Int) + 1) (iota t)) (ss.take t) ≠ ss.getD (t + j) 0) : cnsB q t ss = false := by
  rw [← Bool.not_eq_true, cnsB_true]
  exact fun hh => h (hh j hj)
theorem cnsB_short {q : Int} {t : Nat} {ss : List Int} (h : ss.length ≤ t) : cnsB q t ss = true := cnsB_true.2 (fun j hj => by omega)

end Go.Proofs.YtchlnkdlnfjijaaGreat

/- Chapter 11: valid dealings of both; the shares of a polynomial; DealShares of both. -/
namespace Go.Proofs.YtchlnkdlnfjijaaGreat
open Go.RowKit
set_option linter.unusedVariables false
set_option linter.unusedSimpArgs false

/-! ### Valid dealings -/
theorem dl_ref {P Q : Int} {cs ss : List Int} : dlB P Q cs ss = (cmsB P Q cs && (inB (ss.length : Int) cs.length 7 && allIn ss 0 (Q - 1))) := by
  unfold dlB shsB inB
  have e1 : decide (((cs.length : Nat) : Int) ≤ (ss.length : Int)) = decide (cs.length ≤ ss.length) := by rw [decide_eq_decide]; omega
  have e2 : decide (((ss.length : Nat) : Int) ≤ 7) = decide (ss.length ≤ 7) := by rw [decide_eq_decide]; omega
  rw [e1, e2, Bool.and_assoc, Bool.and_assoc]

set_option maxRecDepth 100000 in
set_option maxHeartbeats 3200000 in
theorem hasDealing_any (P Q G : Int) (hm : Mo P Q) (ca sa : Option Addr) (cc sc : Nat) (cs ss : List Int) (hl : cs.length ≤ 1000000000000) (hl' : ss.length ≤ 1000000000000) {w : World} (hc : IsInts w ca cs) (hs : IsInts w sa ss) :
    Calls Tryz.prog 80 #[gv P Q G, .agg #[.slice ca cs.length cc, .slice sa ss.length sc]] w fun e w' => e = .returned (.bool (dlB P Q cs ss)) ∧ Below w.heap.size w w' := by
  have G_0 := Lib.hid ((gr_atS w w.heap.size rfl P Q G 24).below (ba (w.alloc (.cells #[.int .i64 P, .int .i64 Q, .int .i64 G] 24)) (.cells #[.slice ca cs.length cc, .slice sa ss.length sc] 34)))
  have D_0 := Lib.hid (v2_at (w.alloc (.cells #[.int .i64 P, .int .i64 Q, .int .i64 G] 24)) (w.heap.size + 1) (by simp) (.slice ca cs.length cc) (.slice sa ss.length sc) 34)
  have HB_0 := Lib.hid (show Below w.heap.size w ((w.alloc (.cells #[.int .i64 P, .int .i64 Q, .int .i64 G] 24)).alloc (.cells #[.slice ca cs.length cc, .slice sa ss.length sc] 34)) from bt (ba _ _) (ba _ _))
  have C_0 := Lib.hid (LZ.below hc HB_0.out)
  have T_0 := Lib.hid (LZ.below hs HB_0.out)
  clear hc hs
  cases h0 : cmsB P Q cs
  · have K0 := Lib.hid (show cmsB P Q cs = false from h0)
    have E1 := Lib.hid (show dlB P Q cs ss = false by simp [dlB, h0])
    rw [E1.out]
    clear h0
    obtain ⟨gG0, gG1, gG2⟩ := G_0.out
    obtain ⟨dD0, dD1, _⟩ := D_0.out
    go_enter Tryz.func80, Tryz.ntmps80
    go_wp2_with fail
    refine (areCommits_any P Q G hm ca cs.length cc cs rfl (by omega) _ C_0.out).mono ?_
    rw [K0.out]
    rintro e v1 ⟨rfl, hb⟩
    have HB_1 := Lib.hid (bt HB_0.out hb)
    have G_1 := Lib.hid (G_0.out.below hb)
    have D_1 := Lib.hid (D_0.out.below hb)
    have C_1 := Lib.hid (C_0.out.below hb)
    have T_1 := Lib.hid (T_0.out.below hb)
    clear hb gG0 gG1 gG2 dD0 dD1
    obtain ⟨gG0, gG1, gG2⟩ := G_1.out
    obtain ⟨dD0, dD1, _⟩ := D_1.out
    go_wp2
    go_ret
    exact ⟨rfl, HB_1.out⟩
  have K0 := Lib.hid (show cmsB P Q cs = true from h0)
  by_cases h1 : ¬ (cs.length ≤ ss.length)
  · have B1 : ¬ ((cs.length : Int) ≤ (ss.length : Int)) := by omega
    have E1 := Lib.hid (show dlB P Q cs ss = false by simp [dlB, h0, h1])
    rw [E1.out]
    clear h0 h1
    obtain ⟨gG0, gG1, gG2⟩ := G_0.out
    obtain ⟨dD0, dD1, _⟩ := D_0.out
    go_enter Tryz.func80, Tryz.ntmps80
    go_wp2_with fail
    refine (areCommits_any P Q G hm ca cs.length cc cs rfl (by omega) _ C_0.out).mono ?_
    rw [K0.out]
    rintro e v1 ⟨rfl, hb⟩
    have HB_1 := Lib.hid (bt HB_0.out hb)
    have G_1 := Lib.hid (G_0.out.below hb)
    have D_1 := Lib.hid (D_0.out.below hb)
    have C_1 := Lib.hid (C_0.out.below hb)
    have T_1 := Lib.hid (T_0.out.below hb)
    clear hb gG0 gG1 gG2 dD0 dD1
    obtain ⟨gG0, gG1, gG2⟩ := G_1.out
    obtain ⟨dD0, dD1, _⟩ := D_1.out
    go_wp2
    go_ret
    exact ⟨rfl, HB_1.out⟩
  replace h1 := Decidable.not_not.1 h1
  have B1 : (cs.length : Int) ≤ (ss.length : Int) := by omega
  cases h2 : shsB Q ss
  · have K2 := Lib.hid (show shsB Q ss = false from h2)
    have E1 := Lib.hid (show dlB P Q cs ss = false by simp [dlB, h0, h1, h2])
    rw [E1.out]
    clear h0 h1 h2
    obtain ⟨gG0, gG1, gG2⟩ := G_0.out
    obtain ⟨dD0, dD1, _⟩ := D_0.out
    go_enter Tryz.func80, Tryz.ntmps80
    go_wp2_with fail
    refine (areCommits_any P Q G hm ca cs.length cc cs rfl (by omega) _ C_0.out).mono ?_
    rw [K0.out]
    rintro e v1 ⟨rfl, hb⟩
    have HB_1 := Lib.hid (bt HB_0.out hb)
    have G_1 := Lib.hid (G_0.out.below hb)
    have D_1 := Lib.hid (D_0.out.below hb)
    have C_1 := Lib.hid (C_0.out.below hb)
    have T_1 := Lib.hid (T_0.out.below hb)
    clear hb gG0 gG1 gG2 dD0 dD1
    obtain ⟨gG0, gG1, gG2⟩ := G_1.out
    obtain ⟨dD0, dD1, _⟩ := D_1.out
    go_wp2_with fail
    refine (areShares_any P Q G sa ss.length sc ss rfl (by omega) _ T_1.out).mono ?_
    rw [K2.out]
    rintro e v2 ⟨rfl, hb⟩
    have HB_2 := Lib.hid (bt HB_1.out hb)
    have G_2 := Lib.hid (G_1.out.below hb)
    have D_2 := Lib.hid (D_1.out.below hb)
    have C_2 := Lib.hid (C_1.out.below hb)
    have T_2 := Lib.hid (T_1.out.below hb)
    clear hb gG0 gG1 gG2 dD0 dD1
    obtain ⟨gG0, gG1, gG2⟩ := G_2.out
    obtain ⟨dD0, dD1, _⟩ := D_2.out
    go_wp2
    go_ret
    exact ⟨rfl, HB_2.out⟩
  have K2 := Lib.hid (show shsB Q ss = true from h2)
  have E1 := Lib.hid (show dlB P Q cs ss = true by simp [dlB, h0, h1, h2])
  rw [E1.out]
  clear h0 h1 h2
  obtain ⟨gG0, gG1, gG2⟩ := G_0.out
  obtain ⟨dD0, dD1, _⟩ := D_0.out
  go_enter Tryz.func80, Tryz.ntmps80
  go_wp2_with fail
  refine (areCommits_any P Q G hm ca cs.length cc cs rfl (by omega) _ C_0.out).mono ?_
  rw [K0.out]
  rintro e v1 ⟨rfl, hb⟩
  have HB_1 := Lib.hid (bt HB_0.out hb)
  have G_1 := Lib.hid (G_0.out.below hb)
  have D_1 := Lib.hid (D_0.out.below hb)
  have C_1 := Lib.hid (C_0.out.below hb)
  have T_1 := Lib.hid (T_0.out.below hb)
  clear hb gG0 gG1 gG2 dD0 dD1
  obtain ⟨gG0, gG1, gG2⟩ := G_1.out
  obtain ⟨dD0, dD1, _⟩ := D_1.out
  go_wp2_with fail
  refine (areShares_any P Q G sa ss.length sc ss rfl (by omega) _ T_1.out).mono ?_
  rw [K2.out]
  rintro e v2 ⟨rfl, hb⟩
  have HB_2 := Lib.hid (bt HB_1.out hb)
  have G_2 := Lib.hid (G_1.out.below hb)
  have D_2 := Lib.hid (D_1.out.below hb)
  have C_2 := Lib.hid (C_1.out.below hb)
  have T_2 := Lib.hid (T_1.out.below hb)
  clear hb gG0 gG1 gG2 dD0 dD1
  obtain ⟨gG0, gG1, gG2⟩ := G_2.out
  obtain ⟨dD0, dD1, _⟩ := D_2.out
  go_wp2
  go_ret
  exact ⟨rfl, HB_2.out⟩

set_option maxRecDepth 100000 in
set_option maxHeartbeats 3200000 in
theorem sDealing_any (P Q G : Int) (hm : Mo P Q) (ca sa : Option Addr) (cc sc : Nat) (cs ss : List Int) (hl : cs.length ≤ 1000000000000) (hl' : ss.length ≤ 1000000000000) {w : World} (hc : IsInts w ca cs) (hs : IsInts w sa ss) :
    Calls Tryz.prog 46 #[gv P Q G, .agg #[.slice ca cs.length cc, .slice sa ss.length sc]] w fun e w' => e = .returned (.bool (dlB P Q cs ss)) ∧ Below w.heap.size w w' := by
  have G_0 := Lib.hid ((gr_atS w w.heap.size rfl P Q G 24).below (ba (w.alloc (.cells #[.int .i64 P, .int .i64 Q, .int .i64 G] 24)) (.cells #[.slice ca cs.length cc, .slice sa ss.length sc] 34)))
  have D_0 := Lib.hid (v2_at (w.alloc (.cells #[.int .i64 P, .int .i64 Q, .int .i64 G] 24)) (w.heap.size + 1) (by simp) (.slice ca cs.length cc) (.slice sa ss.length sc) 34)
  have HB_0 := Lib.hid (show Below w.heap.size w ((w.alloc (.cells #[.int .i64 P, .int .i64 Q, .int .i64 G] 24)).alloc (.cells #[.slice ca cs.length cc, .slice sa ss.length sc] 34)) from bt (ba _ _) (ba _ _))
  have C_0 := Lib.hid (LZ.below hc HB_0.out)
  have T_0 := Lib.hid (LZ.below hs HB_0.out)
  clear hc hs
  cases h0 : cmsB P Q cs
  · have K0 := Lib.hid (show cmsB P Q cs = false from h0)
    have E1 := Lib.hid (show dlB P Q cs ss = false by simp [dl_ref, h0])
    rw [E1.out]
    clear h0
    obtain ⟨gG0, gG1, gG2⟩ := G_0.out
    obtain ⟨dD0, dD1, _⟩ := D_0.out
    go_enter Tryz.func46, Tryz.ntmps46
    go_wp2_with fail
    refine (sCommits_any P Q G hm ca cs.length cc cs rfl (by omega) _ C_0.out).mono ?_
    rw [K0.out]
    rintro e v1 ⟨rfl, hb⟩
    have HB_1 := Lib.hid (bt HB_0.out hb)
    have G_1 := Lib.hid (G_0.out.below hb)
    have D_1 := Lib.hid (D_0.out.below hb)
    have C_1 := Lib.hid (C_0.out.below hb)
    have T_1 := Lib.hid (T_0.out.below hb)
    clear hb gG0 gG1 gG2 dD0 dD1
    obtain ⟨gG0, gG1, gG2⟩ := G_1.out
    obtain ⟨dD0, dD1, _⟩ := D_1.out
    go_wp2
    go_ret
    exact ⟨rfl, HB_1.out⟩
  have K0 := Lib.hid (show cmsB P Q cs = true from h0)
  cases h1 : inB (ss.length : Int) cs.length 7
  · have K1 := Lib.hid (show inB (ss.length : Int) cs.length 7 = false from h1)
    have E1 := Lib.hid (show dlB P Q cs ss = false by simp [dl_ref, h0, h1])
    rw [E1.out]
    clear h0 h1
    obtain ⟨gG0, gG1, gG2⟩ := G_0.out
    obtain ⟨dD0, dD1, _⟩ := D_0.out
    go_enter Tryz.func46, Tryz.ntmps46
    go_wp2_with fail
    refine (sCommits_any P Q G hm ca cs.length cc cs rfl (by omega) _ C_0.out).mono ?_
    rw [K0.out]
    rintro e v1 ⟨rfl, hb⟩
    have HB_1 := Lib.hid (bt HB_0.out hb)
    have G_1 := Lib.hid (G_0.out.below hb)
    have D_1 := Lib.hid (D_0.out.below hb)
    have C_1 := Lib.hid (C_0.out.below hb)
    have T_1 := Lib.hid (T_0.out.below hb)
    clear hb gG0 gG1 gG2 dD0 dD1
    obtain ⟨gG0, gG1, gG2⟩ := G_1.out
    obtain ⟨dD0, dD1, _⟩ := D_1.out
    go_wp2_with fail
    refine (l1In_any _ _ _ _).mono ?_
    rw [K1.out]
    rintro e w' ⟨rfl, rfl⟩
    go_wp2
    go_ret
    exact ⟨rfl, HB_1.out⟩
  have K1 := Lib.hid (show inB (ss.length : Int) cs.length 7 = true from h1)
  cases h2 : allIn ss 0 (Q - 1)
  · have K2 := Lib.hid (show allIn ss 0 (Q - 1) = false from h2)
    have E1 := Lib.hid (show dlB P Q cs ss = false by simp [dl_ref, h0, h1, h2])
    rw [E1.out]
    clear h0 h1 h2
    obtain ⟨gG0, gG1, gG2⟩ := G_0.out
    obtain ⟨dD0, dD1, _⟩ := D_0.out
    go_enter Tryz.func46, Tryz.ntmps46
    go_wp2_with fail
    refine (sCommits_any P Q G hm ca cs.length cc cs rfl (by omega) _ C_0.out).mono ?_
    rw [K0.out]
    rintro e v1 ⟨rfl, hb⟩
    have HB_1 := Lib.hid (bt HB_0.out hb)
    have G_1 := Lib.hid (G_0.out.below hb)
    have D_1 := Lib.hid (D_0.out.below hb)
    have C_1 := Lib.hid (C_0.out.below hb)
    have T_1 := Lib.hid (T_0.out.below hb)
    clear hb gG0 gG1 gG2 dD0 dD1
    obtain ⟨gG0, gG1, gG2⟩ := G_1.out
    obtain ⟨dD0, dD1, _⟩ := D_1.out
    go_wp2_with fail
    refine (l1In_any _ _ _ _).mono ?_
    rw [K1.out]
    rintro e w' ⟨rfl, rfl⟩
    go_wp2_with fail
    refine (gExps_any P Q G hm.2 sa ss.length sc ss rfl (by omega) _ T_1.out).mono ?_
    rw [K2.out]
    rintro e v2 ⟨rfl, hb⟩
    have HB_2 := Lib.hid (bt HB_1.out hb)
    have G_2 := Lib.hid (G_1.out.below hb)
    have D_2 := Lib.hid (D_1.out.below hb)
    have C_2 := Lib.hid (C_1.out.below hb)
    have T_2 := Lib.hid (T_1.out.below hb)
    clear hb gG0 gG1 gG2 dD0 dD1
    obtain ⟨gG0, gG1, gG2⟩ := G_2.out
    obtain ⟨dD0, dD1, _⟩ := D_2.out
    go_wp2
    go_ret
    exact ⟨rfl, HB_2.out⟩
  have K2 := Lib.hid (show allIn ss 0 (Q - 1) = true from h2)
  have E1 := Lib.hid (show dlB P Q cs ss = true by simp [dl_ref, h0, h1, h2])
  rw [E1.out]
  clear h0 h1 h2
  obtain ⟨gG0, gG1, gG2⟩ := G_0.out
  obtain ⟨dD0, dD1, _⟩ := D_0.out
  go_enter Tryz.func46, Tryz.ntmps46
  go_wp2_with fail
  refine (sCommits_any P Q G hm ca cs.length cc cs rfl (by omega) _ C_0.out).mono ?_
  rw [K0.out]
  rintro e v1 ⟨rfl, hb⟩
  have HB_1 := Lib.hid (bt HB_0.out hb)
  have G_1 := Lib.hid (G_0.out.below hb)
  have D_1 := Lib.hid (D_0.out.below hb)
  have C_1 := Lib.hid (C_0.out.below hb)
  have T_1 := Lib.hid (T_0.out.below hb)
  clear hb gG0 gG1 gG2 dD0 dD1
  obtain ⟨gG0, gG1, gG2⟩ := G_1.out
  obtain ⟨dD0, dD1, _⟩ := D_1.out
  go_wp2_with fail
  refine (l1In_any _ _ _ _).mono ?_
  rw [K1.out]
  rintro e w' ⟨rfl, rfl⟩
  go_wp2_with fail
  refine (gExps_any P Q G hm.2 sa ss.length sc ss rfl (by omega) _ T_1.out).mono ?_
  rw [K2.out]
  rintro e v2 ⟨rfl, hb⟩
  have HB_2 := Lib.hid (bt HB_1.out hb)
  have G_2 := Lib.hid (G_1.out.below hb)
  have D_2 := Lib.hid (D_1.out.below hb)
  have C_2 := Lib.hid (C_1.out.below hb)
  have T_2 := Lib.hid (T_1.out.below hb)
  clear hb gG0 gG1 gG2 dD0 dD1
  obtain ⟨gG0, gG1, gG2⟩ := G_2.out
  obtain ⟨dD0, dD1, _⟩ := D_2.out
  go_wp2
  go_ret
  exact ⟨rfl, HB_2.out⟩

def ivB (P Q G : Int) (cs ss : List Int) : Bool := trB P Q G && dlB P Q cs ss

set_option maxRecDepth 100000 in
set_option maxHeartbeats 3200000 in
theorem isValidDealing_any (P Q G : Int) (ca sa : Option Addr) (cc sc : Nat) (cs ss : List Int) (hl : cs.length ≤ 1000000000000) (hl' : ss.length ≤ 1000000000000) {w : World} (hc : IsInts w ca cs) (hs : IsInts w sa ss) :
    Calls Tryz.prog 44 #[gv P Q G, .agg #[.slice ca cs.length cc, .slice sa ss.length sc]] w fun e w' => e = .returned (.bool (ivB P Q G cs ss)) ∧ Below w.heap.size w w' := by
  have G_0 := Lib.hid ((gr_atS w w.heap.size rfl P Q G 24).below (ba (w.alloc (.cells #[.int .i64 P, .int .i64 Q, .int .i64 G] 24)) (.cells #[.slice ca cs.length cc, .slice sa ss.length sc] 34)))
  have D_0 := Lib.hid (v2_at (w.alloc (.cells #[.int .i64 P, .int .i64 Q, .int .i64 G] 24)) (w.heap.size + 1) (by simp) (.slice ca cs.length cc) (.slice sa ss.length sc) 34)
  have HB_0 := Lib.hid (show Below w.heap.size w ((w.alloc (.cells #[.int .i64 P, .int .i64 Q, .int .i64 G] 24)).alloc (.cells #[.slice ca cs.length cc, .slice sa ss.length sc] 34)) from bt (ba _ _) (ba _ _))
  have C_0 := Lib.hid (LZ.below hc HB_0.out)
  have T_0 := Lib.hid (LZ.below hs HB_0.out)
  clear hc hs
  cases h0 : trB P Q G
  · have K0 := Lib.hid (show trB P Q G = false from h0)
    have E1 := Lib.hid (show ivB P Q G cs ss = false by simp [ivB, h0])
    rw [E1.out]
    clear h0
    obtain ⟨gG0, gG1, gG2⟩ := G_0.out
    obtain ⟨dD0, dD1, _⟩ := D_0.out
    go_enter Tryz.func44, Tryz.ntmps44
    go_wp2_with fail
    refine (hasTrustees_any P Q G _).mono ?_
    rw [K0.out]
    rintro e v1 ⟨rfl, hb⟩
    have HB_1 := Lib.hid (bt HB_0.out hb)
    have G_1 := Lib.hid (G_0.out.below hb)
    have D_1 := Lib.hid (D_0.out.below hb)
    have C_1 := Lib.hid (C_0.out.below hb)
    have T_1 := Lib.hid (T_0.out.below hb)
    clear hb gG0 gG1 gG2 dD0 dD1
    obtain ⟨gG0, gG1, gG2⟩ := G_1.out
    obtain ⟨dD0, dD1, _⟩ := D_1.out
    go_wp2
    go_ret
    exact ⟨rfl, HB_1.out⟩
  have K0 := Lib.hid (show trB P Q G = true from h0)
  have hmo := (trB_of h0).2.1
  cases h1 : dlB P Q cs ss
  · have K1 := Lib.hid (show dlB P Q cs ss = false from h1)
    have E1 := Lib.hid (show ivB P Q G cs ss = false by simp [ivB, h0, h1])
    rw [E1.out]
    clear h0 h1
    obtain ⟨gG0, gG1, gG2⟩ := G_0.out
    obtain ⟨dD0, dD1, _⟩ := D_0.out
    go_enter Tryz.func44, Tryz.ntmps44
    go_wp2_with fail
    refine (hasTrustees_any P Q G _).mono ?_
    rw [K0.out]
    rintro e v1 ⟨rfl, hb⟩
    have HB_1 := Lib.hid (bt HB_0.out hb)
    have G_1 := Lib.hid (G_0.out.below hb)
    have D_1 := Lib.hid (D_0.out.below hb)
    have C_1 := Lib.hid (C_0.out.below hb)
    have T_1 := Lib.hid (T_0.out.below hb)
    clear hb gG0 gG1 gG2 dD0 dD1
    obtain ⟨gG0, gG1, gG2⟩ := G_1.out
    obtain ⟨dD0, dD1, _⟩ := D_1.out
    go_wp2_with fail
    refine (hasDealing_any P Q G hmo ca sa cc sc cs ss hl hl' C_1.out T_1.out).mono ?_
    rw [K1.out]
    rintro e v2 ⟨rfl, hb⟩
    have HB_2 := Lib.hid (bt HB_1.out hb)
    have G_2 := Lib.hid (G_1.out.below hb)
    have D_2 := Lib.hid (D_1.out.below hb)
    have C_2 := Lib.hid (C_1.out.below hb)
    have T_2 := Lib.hid (T_1.out.below hb)
    clear hb gG0 gG1 gG2 dD0 dD1
    obtain ⟨gG0, gG1, gG2⟩ := G_2.out
    obtain ⟨dD0, dD1, _⟩ := D_2.out
    go_wp2
    go_ret
    exact ⟨rfl, HB_2.out⟩
  have K1 := Lib.hid (show dlB P Q cs ss = true from h1)
  have E1 := Lib.hid (show ivB P Q G cs ss = true by simp [ivB, h0, h1])
  rw [E1.out]
  clear h0 h1
  obtain ⟨gG0, gG1, gG2⟩ := G_0.out
  obtain ⟨dD0, dD1, _⟩ := D_0.out
  go_enter Tryz.func44, Tryz.ntmps44
  go_wp2_with fail
  refine (hasTrustees_any P Q G _).mono ?_
  rw [K0.out]
  rintro e v1 ⟨rfl, hb⟩
  have HB_1 := Lib.hid (bt HB_0.out hb)
  have G_1 := Lib.hid (G_0.out.below hb)
  have D_1 := Lib.hid (D_0.out.below hb)
  have C_1 := Lib.hid (C_0.out.below hb)
  have T_1 := Lib.hid (T_0.out.below hb)
  clear hb gG0 gG1 gG2 dD0 dD1
  obtain ⟨gG0, gG1, gG2⟩ := G_1.out
  obtain ⟨dD0, dD1, _⟩ := D_1.out
  go_wp2_with fail
  refine (hasDealing_any P Q G hmo ca sa cc sc cs ss hl hl' C_1.out T_1.out).mono ?_
  rw [K1.out]
  rintro e v2 ⟨rfl, hb⟩
  have HB_2 := Lib.hid (bt HB_1.out hb)
  have G_2 := Lib.hid (G_1.out.below hb)
  have D_2 := Lib.hid (D_1.out.below hb)
  have C_2 := Lib.hid (C_1.out.below hb)
  have T_2 := Lib.hid (T_1.out.below hb)
  clear hb gG0 gG1 gG2 dD0 dD1
  obtain ⟨gG0, gG1, gG2⟩ := G_2.out
  obtain ⟨dD0, dD1, _⟩ := D_2.out
  go_wp2
  go_ret
  exact ⟨rfl, HB_2.out⟩

theorem isValidDealing_ans (P Q G : Int) {B : Nat} {v : Value} {d : DlD} (hl : d.n ≤ 1048576) {w : World} (h : InD B w v d) :
    Calls Tryz.prog 44 #[gv P Q G, v] w fun e w' => e = .returned (.bool (ivB P Q G d.c d.s)) ∧ Below w.heap.size w w' := by
  obtain ⟨a, a', b, b', rfl, h1, h2⟩ := h.shape
  unfold DlD.n at hl
  exact isValidDealing_any P Q G a b a' b' d.c d.s (by omega) (by omega) (inI_ints h1) (inI_ints h2)

end Go.Proofs.YtchlnkdlnfjijaaGreat

/- Chapter 11: the shares of a polynomial; DealShares of both. -/
namespace Go.Proofs.YtchlnkdlnfjijaaGreat
open Go.RowKit
set_option linter.unusedVariables false
set_option linter.unusedSimpArgs false

/-! ### The shares of a polynomial -/
theorem gr_belowB {w w' : World} {b B : Nat} {P Q G : Int} (h : GR w b P Q G) (hb : Below B w w') (hl : b < B) : GR w' b P Q G :=
  ⟨(hb.cell (p := ⟨b, 0, none⟩) hl).trans h.1, (hb.cell (p := ⟨b, 1, none⟩) hl).trans h.2.1, (hb.cell (p := ⟨b, 2, none⟩) hl).trans h.2.2⟩
theorem over_at {xs ys : List Int} {k : Nat} (hx : k ≤ xs.length) : (over xs ys k)[k]? = ys[k]? := by
  unfold over
  rw [List.getElem?_append_right (by simp; omega), List.length_take, Nat.min_eq_left hx, Nat.sub_self, List.getElem?_drop, Nat.add_zero]
set_option maxRecDepth 100000 in
set_option maxHeartbeats 1600000 in
theorem sharesOf_any (P Q G : Int) (h7 : 7 < Q) (hQ : Q ≤ 2000000000) (ad : Option Addr) (m cap : Nat) (f : List Int) (hm : f.length = m) (hl : m ≤ 1000000) (hf : ∀ z ∈ f, 0 ≤ z ∧ z < Q) (n : Nat) (hn : n ≤ 7) (w : World) (hz : IsInts w ad f) :
    Calls Tryz.prog 97 #[gv P Q G, .slice ad m cap, .int .i64 n] w fun e w' => ∃ g, e = .returned (.slice (some ⟨g, 0, none⟩) n n) ∧ w'.ownsRow w.heap.size 3 1 (.slice (some ⟨g, 0, none⟩) n n) n ((shV Q f n).map (Value.int .i64)) ∧ Below w.heap.size w w' := by
  have HF := Lib.hid hf
  have HM := Lib.hid hm
  have HZ := Lib.hid hz
  have HG0 := Lib.hid (gr_atS w w.heap.size rfl P Q G 24)
  clear hf hm hz
  go_enter Tryz.func97, Tryz.ntmps97
  go_wp2_with fail
  refine (firstTrustees_any n (by omega) _).mono ?_
  rintro e W1 ⟨g, rfl, hown, hb⟩
  have hs1 : (w.alloc (.cells #[.int .i64 P, .int .i64 Q, .int .i64 G] 24)).heap.size = w.heap.size + 1 := by simp
  rw [hs1] at hown hb
  have HO := Lib.hid hown
  have HB1 := Lib.hid hb
  have HG1 := Lib.hid (gr_belowB HG0.out hb (by omega))
  have HL1 := Lib.hid (show w.heap.size + 1 ≤ W1.heap.size by have := hb.size; simpa using this)
  have HW1 := Lib.hid (show Below w.heap.size w W1 from (ba w _).trans (hb.mono (by omega)))
  clear hown hb HG0 hs1
  go_wp2_with fail
  go_loopw [8, 9, 14] (fun _ _ K wr => ∃ k : Nat, k ≤ n ∧ K = .int .i64 k ∧ wr.ownsRow (w.heap.size + 1) 3 1 (.slice (some ⟨g, 0, none⟩) n n) n ((over (shV Q f n) (iota n) k).map (Value.int .i64)) ∧ Below (w.heap.size + 1) W1 wr) (fun _ _ K _ => n - (intOf K).toNat)
  case atStart => exact ⟨0, Nat.zero_le _, rfl, by rw [over_zero]; exact HO.out, Below.refl _ _⟩
  case round =>
    obtain ⟨k, hk, rfl, hownr, hbel⟩ := hrel
    have HB := Lib.hid hbel
    clear hbel
    by_cases hkn : k < n
    · have hit : (iota n)[k]? = some ((k : Int) + 1) := by
        rw [List.getElem?_eq_getElem (by rw [iota_length]; exact hkn), iota_get]
      obtain ⟨hcu, hfu⟩ := own_at hownr (j := k) hkn ((over_at (by rw [shV_length]; omega)).trans hit)
      have HR := Lib.hid hownr
      have HGr := Lib.hid (gr_belowB HG1.out HB.out (Nat.lt_succ_self _))
      obtain ⟨q0, q1, q2⟩ := HGr.out
      have HV := Lib.hid (show ∀ h : k < (shV Q f n).length, (shV Q f n)[k] = pev Q ((k : Int) + 1) f from fun h => evAll_get (rest := (iota n).drop (k + 1)) (by rw [← iota_get (n := n) (k := k) (by rw [iota_length]; exact hkn)]; exact List.drop_eq_getElem_cons _) h)
      clear hownr hit
      go_wp2_with fail
      refine (valueAt_any Q ad m cap f ((k : Int) + 1) HM.out (by omega) (by omega) hQ (by omega) (by omega) HF.out _ (HZ.out.below (HW1.out.trans (HB.out.mono (Nat.le_succ _))) (Nat.le_refl _))).mono ?_
      rintro e w3 ⟨rfl, hb3⟩
      have ho3 := own_below HR.out hb3
      obtain ⟨⟨u, hcu3⟩, hfu3⟩ := own_cell ho3 hkn
      have HO3 := Lib.hid (inv_store ho3 HV.out (by rw [shV_length]; exact hkn) (by rw [iota_length]; exact hkn))
      have HB3 := Lib.hid (HB.out.trans (hb3.mono (Nat.le_trans HL1.out HB.out.size)))
      clear hb3 ho3 q0 q1 q2 hcu hfu
      go_wp2
      go_roundw
      case rel => exact ⟨k + 1, by omega, by go_num, HO3.out, HB3.out.setCell (by have := (HO3.out.lt g rfl).1; exact this) _⟩
      case measure => simp only [intOf]; omega
    · have HR := Lib.hid hownr
      clear hownr
      go_wp2
      go_ret
      refine ⟨g, rfl, ?_, HW1.out.trans (HB.out.mono (by omega))⟩
      have h := HR.out
      rw [over_all _ _ (by rw [shV_length]; omega) (by rw [iota_length]; omega)] at h
      exact own_rebase h (fun q hq => by have := (h.lt q hq).1; omega)

/-! ### DealShares -/
def dsB (P Q G : Int) (cs : List Int) (n : Int) : Bool := trB P Q G && (inB n 1 7 && (inB (cs.length : Int) 1 n && allIn cs 0 (Q - 1)))
def pwL (P G : Int) (cs : List Int) : List Int := cs.map fun a => Num.pow G a P
theorem pwL_length (P G : Int) (cs : List Int) : (pwL P G cs).length = cs.length := by simp [pwL]
theorem pwL_get {P G : Int} {cs rest : List Int} {a : Int} {k : Nat} (h : cs.drop k = a :: rest) (hk : k < (pwL P G cs).length) : (pwL P G cs)[k] = Num.pow G a P := by
  obtain ⟨hk', he⟩ := head_of_drop h
  simp [pwL, he]
theorem pwL_take {P G : Int} {cs rest : List Int} {a : Int} {k : Nat} (h : cs.drop k = a :: rest) : (pwL P G cs).take (k + 1) = (pwL P G cs).take k ++ [Num.pow G a P] := by
  obtain ⟨hk', _⟩ := head_of_drop h
  rw [List.take_succ_eq_append_getElem (by rw [pwL_length]; exact hk'), pwL_get h]
def dsR (P Q G : Int) (cs : List Int) (n : Int) : DlD := if dsB P Q G cs n then ⟨pwL P G cs, shV Q cs n.toNat⟩ else ⟨[], []⟩
theorem dsB_true {P Q G : Int} {cs : List Int} {n : Int} : dsB P Q G cs n = true ↔ trB P Q G = true ∧ (1 ≤ n ∧ n ≤ 7) ∧ (1 ≤ (cs.length : Int) ∧ (cs.length : Int) ≤ n) ∧ allIn cs 0 (Q - 1) = true := by
  unfold dsB; rw [Bool.and_eq_true, Bool.and_eq_true, Bool.and_eq_true, inB_true, inB_true]
theorem dsB_off {P Q G : Int} {cs : List Int} {n : Int} (h : ¬ (trB P Q G = true ∧ (1 ≤ n ∧ n ≤ 7) ∧ (1 ≤ (cs.length : Int) ∧ (cs.length : Int) ≤ n) ∧ allIn cs 0 (Q - 1) = true)) : dsB P Q G cs n = false := by
  rw [← Bool.not_eq_true, dsB_true]; exact h
theorem dsR_bound (P Q G : Int) (cs : List Int) (n : Int) : (dsR P Q G cs n).n ≤ 14 := by
  unfold dsR
  split
  · rename_i h
    have := dsB_true.1 h
    simp only [DlD.n, pwL_length, shV_length]; omega
  · simp [DlD.n]
def AnsD (w : World) (d : DlD) (ok : Bool) (e : Ending) (w' : World) : Prop := ∃ v, e = .returned (.tuple #[v, .bool ok]) ∧ OwD w.heap.size w'.heap.size w' v d ∧ Below w.heap.size w w'
theorem mid_two7 (w : World) (b : Nat) (x y : Value) : Mid b (b + 1) w ((w.setCell ⟨b, 0, none⟩ x).setCell ⟨b, 1, none⟩ y) := (mid_cell w b 0 x).trans (mid_cell _ b 1 y)
theorem allIn_pw {Q : Int} {cs : List Int} (h : allIn cs 0 (Q - 1) = true) : ∀ z ∈ cs, 0 ≤ z ∧ z < Q := allIn_res7 h

set_option maxRecDepth 100000 in
set_option maxHeartbeats 3200000 in
theorem dealShares_any (P Q G : Int) (n : Int) (ad : Option Addr) (cap : Nat) (cs : List Int) (hl : cs.length ≤ 1048576) {w : World} (hz : IsInts w ad cs) :
    Calls Tryz.prog 65 #[gv P Q G, .slice ad cs.length cap, .int .i64 n] w (AnsD w (dsR P Q G cs n) (dsB P Q G cs n)) := by
  have G_0 := Lib.hid ((gr_atS w w.heap.size rfl P Q G 24).below (ba (w.alloc (.cells #[.int .i64 P, .int .i64 Q, .int .i64 G] 24)) (.cells #[.slice none 0 0, .slice none 0 0] 34)))
  have Z_0 := Lib.hid (v2_at (w.alloc (.cells #[.int .i64 P, .int .i64 Q, .int .i64 G] 24)) (w.heap.size + 1) (by simp) (.slice none 0 0) (.slice none 0 0) 34)
  have HB_0 := Lib.hid (show Below w.heap.size w ((w.alloc (.cells #[.int .i64 P, .int .i64 Q, .int .i64 G] 24)).alloc (.cells #[.slice none 0 0, .slice none 0 0] 34)) from bt (ba _ _) (ba _ _))
  have C_0 := Lib.hid (LZ.below hz HB_0.out)
  clear hz
  cases h0 : trB P Q G
  · have K0 := Lib.hid (show trB P Q G = false from h0)
    have E1 := Lib.hid (show dsB P Q G cs n = false from dsB_off (fun h => by rw [h0] at h; exact absurd h.1 (by simp)))
    have E2 := Lib.hid (show dsR P Q G cs n = ⟨[], []⟩ by simp [dsR, E1.out])
    rw [E1.out, E2.out]
    clear h0
    obtain ⟨gG0, gG1, gG2⟩ := G_0.out
    obtain ⟨zZ0, zZ1, zfZ⟩ := Z_0.out
    have zfZ0 := zfZ 0
    have zfZ1 := zfZ 1
    clear zfZ
    go_enter Tryz.func65, Tryz.ntmps65
    go_wp2_with fail
    refine (hasTrustees_any P Q G _).mono ?_
    rw [K0.out]
    rintro e v1 ⟨rfl, hb⟩
    have HB_1 := Lib.hid (bt HB_0.out hb)
    have G_1 := Lib.hid (G_0.out.below hb)
    have Z_1 := Lib.hid (Z_0.out.below hb)
    have C_1 := Lib.hid (C_0.out.below hb)
    clear hb gG0 gG1 gG2 zZ0 zZ1 zfZ0 zfZ1
    obtain ⟨gG0, gG1, gG2⟩ := G_1.out
    obtain ⟨zZ0, zZ1, zfZ⟩ := Z_1.out
    have zfZ0 := zfZ 0
    have zfZ1 := zfZ 1
    clear zfZ
    go_wp2
    (try simp only [Exit.inBlock, Exit.then])
    refine bodyPost_ret (v := .tuple #[.agg #[.slice none 0 0, .slice none 0 0], .bool false]) ?_ rfl ?_
    · rw [results_cell_tmp rfl]; go_simp
    · have hm5 := mid_two7 v1 (w.heap.size + 1) (.slice none 0 0) (.slice none 0 0)
      exact ⟨_, rfl, owD_nil _ _ (Nat.le_trans HB_1.out.size hm5.size), HB_1.out.trans (hm5.toBelow (by omega) HB_1.out.size)⟩
  have K0 := Lib.hid (show trB P Q G = true from h0)
  by_cases h1 : ¬ (n ≤ 7)
  · have B1 : 7 < n := by omega
    have E1 := Lib.hid (show dsB P Q G cs n = false from dsB_off (fun h => by omega))
    have E2 := Lib.hid (show dsR P Q G cs n = ⟨[], []⟩ by simp [dsR, E1.out])
    rw [E1.out, E2.out]
    clear h0 h1
    obtain ⟨gG0, gG1, gG2⟩ := G_0.out
    obtain ⟨zZ0, zZ1, zfZ⟩ := Z_0.out
    have zfZ0 := zfZ 0
    have zfZ1 := zfZ 1
    clear zfZ
    go_enter Tryz.func65, Tryz.ntmps65
    go_wp2_with fail
    refine (hasTrustees_any P Q G _).mono ?_
    rw [K0.out]
    rintro e v1 ⟨rfl, hb⟩
    have HB_1 := Lib.hid (bt HB_0.out hb)
    have G_1 := Lib.hid (G_0.out.below hb)
    have Z_1 := Lib.hid (Z_0.out.below hb)
    have C_1 := Lib.hid (C_0.out.below hb)
    clear hb gG0 gG1 gG2 zZ0 zZ1 zfZ0 zfZ1
    obtain ⟨gG0, gG1, gG2⟩ := G_1.out
    obtain ⟨zZ0, zZ1, zfZ⟩ := Z_1.out
    have zfZ0 := zfZ 0
    have zfZ1 := zfZ 1
    clear zfZ
    go_wp2
    (try simp only [Exit.inBlock, Exit.then])
    refine bodyPost_ret (v := .tuple #[.agg #[.slice none 0 0, .slice none 0 0], .bool false]) ?_ rfl ?_
    · rw [results_cell_tmp rfl]; go_simp
    · have hm5 := mid_two7 v1 (w.heap.size + 1) (.slice none 0 0) (.slice none 0 0)
      exact ⟨_, rfl, owD_nil _ _ (Nat.le_trans HB_1.out.size hm5.size), HB_1.out.trans (hm5.toBelow (by omega) HB_1.out.size)⟩
  replace h1 := Decidable.not_not.1 h1
  have B1 : n ≤ 7 := by exact h1
  by_cases h2 : ¬ (cs.length ≠ 0)
  · have B2 : ((cs.length : Int) == 0) = true := by have := Decidable.not_not.1 h2; simp [this]
    have E1 := Lib.hid (show dsB P Q G cs n = false from dsB_off (fun h => by omega))
    have E2 := Lib.hid (show dsR P Q G cs n = ⟨[], []⟩ by simp [dsR, E1.out])
    rw [E1.out, E2.out]
    clear h0 h1 h2
    obtain ⟨gG0, gG1, gG2⟩ := G_0.out
    obtain ⟨zZ0, zZ1, zfZ⟩ := Z_0.out
    have zfZ0 := zfZ 0
    have zfZ1 := zfZ 1
    clear zfZ
    go_enter Tryz.func65, Tryz.ntmps65
    go_wp2_with fail
    refine (hasTrustees_any P Q G _).mono ?_
    rw [K0.out]
    rintro e v1 ⟨rfl, hb⟩
    have HB_1 := Lib.hid (bt HB_0.out hb)
    have G_1 := Lib.hid (G_0.out.below hb)
    have Z_1 := Lib.hid (Z_0.out.below hb)
    have C_1 := Lib.hid (C_0.out.below hb)
    clear hb gG0 gG1 gG2 zZ0 zZ1 zfZ0 zfZ1
    obtain ⟨gG0, gG1, gG2⟩ := G_1.out
    obtain ⟨zZ0, zZ1, zfZ⟩ := Z_1.out
    have zfZ0 := zfZ 0
    have zfZ1 := zfZ 1
    clear zfZ
    go_wp2
    (try simp only [Exit.inBlock, Exit.then])
    refine bodyPost_ret (v := .tuple #[.agg #[.slice none 0 0, .slice none 0 0], .bool false]) ?_ rfl ?_
    · rw [results_cell_tmp rfl]; go_simp
    · have hm5 := mid_two7 v1 (w.heap.size + 1) (.slice none 0 0) (.slice none 0 0)
      exact ⟨_, rfl, owD_nil _ _ (Nat.le_trans HB_1.out.size hm5.size), HB_1.out.trans (hm5.toBelow (by omega) HB_1.out.size)⟩
  replace h2 := Decidable.not_not.1 h2
  have B2 : ((cs.length : Int) == 0) = false := by simp; intro h; exact h2 (by simp [h])
  by_cases h3 : ¬ ((cs.length : Int) ≤ n)
  · have B3 : n < (cs.length : Int) := by omega
    have E1 := Lib.hid (show dsB P Q G cs n = false from dsB_off (fun h => by omega))
    have E2 := Lib.hid (show dsR P Q G cs n = ⟨[], []⟩ by simp [dsR, E1.out])
    rw [E1.out, E2.out]
    clear h0 h1 h2 h3
    obtain ⟨gG0, gG1, gG2⟩ := G_0.out
    obtain ⟨zZ0, zZ1, zfZ⟩ := Z_0.out
    have zfZ0 := zfZ 0
    have zfZ1 := zfZ 1
    clear zfZ
    go_enter Tryz.func65, Tryz.ntmps65
    go_wp2_with fail
    refine (hasTrustees_any P Q G _).mono ?_
    rw [K0.out]
    rintro e v1 ⟨rfl, hb⟩
    have HB_1 := Lib.hid (bt HB_0.out hb)
    have G_1 := Lib.hid (G_0.out.below hb)
    have Z_1 := Lib.hid (Z_0.out.below hb)
    have C_1 := Lib.hid (C_0.out.below hb)
    clear hb gG0 gG1 gG2 zZ0 zZ1 zfZ0 zfZ1
    obtain ⟨gG0, gG1, gG2⟩ := G_1.out
    obtain ⟨zZ0, zZ1, zfZ⟩ := Z_1.out
    have zfZ0 := zfZ 0
    have zfZ1 := zfZ 1
    clear zfZ
    go_wp2
    (try simp only [Exit.inBlock, Exit.then])
    refine bodyPost_ret (v := .tuple #[.agg #[.slice none 0 0, .slice none 0 0], .bool false]) ?_ rfl ?_
    · rw [results_cell_tmp rfl]; go_simp
    · have hm5 := mid_two7 v1 (w.heap.size + 1) (.slice none 0 0) (.slice none 0 0)
      exact ⟨_, rfl, owD_nil _ _ (Nat.le_trans HB_1.out.size hm5.size), HB_1.out.trans (hm5.toBelow (by omega) HB_1.out.size)⟩
  replace h3 := Decidable.not_not.1 h3
  have B3 : (cs.length : Int) ≤ n := by exact h3
  cases h4 : exsB Q cs
  · have K4 := Lib.hid (show exsB Q cs = false from h4)
    have E1 := Lib.hid (show dsB P Q G cs n = false from dsB_off (fun h => by rw [exsB_short (by omega)] at h4; rw [h4] at h; exact absurd h.2.2.2 (by simp)))
    have E2 := Lib.hid (show dsR P Q G cs n = ⟨[], []⟩ by simp [dsR, E1.out])
    rw [E1.out, E2.out]
    clear h0 h1 h2 h3 h4
    obtain ⟨gG0, gG1, gG2⟩ := G_0.out
    obtain ⟨zZ0, zZ1, zfZ⟩ := Z_0.out
    have zfZ0 := zfZ 0
    have zfZ1 := zfZ 1
    clear zfZ
    go_enter Tryz.func65, Tryz.ntmps65
    go_wp2_with fail
    refine (hasTrustees_any P Q G _).mono ?_
    rw [K0.out]
    rintro e v1 ⟨rfl, hb⟩
    have HB_1 := Lib.hid (bt HB_0.out hb)
    have G_1 := Lib.hid (G_0.out.below hb)
    have Z_1 := Lib.hid (Z_0.out.below hb)
    have C_1 := Lib.hid (C_0.out.below hb)
    clear hb gG0 gG1 gG2 zZ0 zZ1 zfZ0 zfZ1
    obtain ⟨gG0, gG1, gG2⟩ := G_1.out
    obtain ⟨zZ0, zZ1, zfZ⟩ := Z_1.out
    have zfZ0 := zfZ 0
    have zfZ1 := zfZ 1
    clear zfZ
    go_wp2_with fail
    refine (areExponents_any P Q G ad cs.length cap cs rfl (by omega) _ C_1.out).mono ?_
    rw [K4.out]
    rintro e v2 ⟨rfl, hb⟩
    have HB_2 := Lib.hid (bt HB_1.out hb)
    have G_2 := Lib.hid (G_1.out.below hb)
    have Z_2 := Lib.hid (Z_1.out.below hb)
    have C_2 := Lib.hid (C_1.out.below hb)
    clear hb gG0 gG1 gG2 zZ0 zZ1 zfZ0 zfZ1
    obtain ⟨gG0, gG1, gG2⟩ := G_2.out
    obtain ⟨zZ0, zZ1, zfZ⟩ := Z_2.out
    have zfZ0 := zfZ 0
    have zfZ1 := zfZ 1
    clear zfZ
    go_wp2
    (try simp only [Exit.inBlock, Exit.then])
    refine bodyPost_ret (v := .tuple #[.agg #[.slice none 0 0, .slice none 0 0], .bool false]) ?_ rfl ?_
    · rw [results_cell_tmp rfl]; go_simp
    · have hm5 := mid_two7 v2 (w.heap.size + 1) (.slice none 0 0) (.slice none 0 0)
      exact ⟨_, rfl, owD_nil _ _ (Nat.le_trans HB_2.out.size hm5.size), HB_2.out.trans (hm5.toBelow (by omega) HB_2.out.size)⟩
  have K4 := Lib.hid (show exsB Q cs = true from h4)
  have E1 := Lib.hid (show dsB P Q G cs n = true from dsB_true.2 ⟨h0, ⟨by omega, h1⟩, ⟨by omega, h3⟩, by rw [← exsB_short (by omega)]; exact h4⟩)
  have E2 := Lib.hid (show dsR P Q G cs n = ⟨pwL P G cs, shV Q cs n.toNat⟩ by simp [dsR, E1.out])
  rw [E1.out, E2.out]
  obtain ⟨hd0, ⟨hd1, hd2⟩, ⟨hd3, hd4⟩, hd5⟩ := dsB_true.1 E1.out
  obtain ⟨hgd, hmo2, hq7⟩ := trB_of hd0
  have hbg := goodB_true.1 hgd
  have hP2 : 2 ≤ P := by omega
  have hP3 : P ≤ 2000000000 := by omega
  have hQ3 : Q ≤ 2000000000 := by omega
  have hG0 : 0 ≤ G := by omega
  have hG1 : G ≤ 2000000000 := by omega
  have HRS := Lib.hid (allIn_pw hd5)
  clear h0 h1 h2 h3 h4 hbg hgd hd0 hd5 E1 E2
  obtain ⟨n, rfl⟩ := Int.eq_ofNat_of_zero_le (show 0 ≤ n by omega)
  rw [Int.toNat_natCast]
  obtain ⟨i0, hi0, hz0, hz1, hz2⟩ := info_parts Tryz.info3
  have HZ2 := Lib.hid hz2
  clear hz2
  obtain ⟨gG0, gG1, gG2⟩ := G_0.out
  obtain ⟨zZ0, zZ1, zfZ⟩ := Z_0.out
  have zfZ0 := zfZ 0
  have zfZ1 := zfZ 1
  clear zfZ
  go_enter Tryz.func65, Tryz.ntmps65
  go_wp2_with fail
  refine (hasTrustees_any P Q G _).mono ?_
  rw [K0.out]
  rintro e v1 ⟨rfl, hb⟩
  have HB_1 := Lib.hid (bt HB_0.out hb)
  have G_1 := Lib.hid (G_0.out.below hb)
  have Z_1 := Lib.hid (Z_0.out.below hb)
  have C_1 := Lib.hid (C_0.out.below hb)
  clear hb gG0 gG1 gG2 zZ0 zZ1 zfZ0 zfZ1
  obtain ⟨gG0, gG1, gG2⟩ := G_1.out
  obtain ⟨zZ0, zZ1, zfZ⟩ := Z_1.out
  have zfZ0 := zfZ 0
  have zfZ1 := zfZ 1
  clear zfZ
  go_wp2_with fail
  refine (areExponents_any P Q G ad cs.length cap cs rfl (by omega) _ C_1.out).mono ?_
  rw [K4.out]
  rintro e v2 ⟨rfl, hb⟩
  have HB_2 := Lib.hid (bt HB_1.out hb)
  have G_2 := Lib.hid (G_1.out.below hb)
  have Z_2 := Lib.hid (Z_1.out.below hb)
  have C_2 := Lib.hid (C_1.out.below hb)
  clear hb gG0 gG1 gG2 zZ0 zZ1 zfZ0 zfZ1
  obtain ⟨gG0, gG1, gG2⟩ := G_2.out
  obtain ⟨zZ0, zZ1, zfZ⟩ := Z_2.out
  have zfZ0 := zfZ 0
  have zfZ1 := zfZ 1
  clear zfZ
  go_wp2_with (at_make
               refine wpList_make_full _ rfl _ _ 32 rfl v2.heap.size 3 i0 (.int .i64 0) 1 Tryz.underlying32 hi0 hz0 hz1 .i64 .i64 _ _ cs.length rfl rfl rfl rfl (by rw [HZ2.out]; omega) (by unfold maxLen; omega) (Nat.le_refl _) ?_
               intro w2 hown hgrow
               have HOW := Lib.hid (made_zeros hown)
               have HB2 := Lib.hid ((Below.refl v2.heap.size v2).grown hgrow (Nat.le_refl _) (by simp))
               clear hown hgrow)
  go_loopw [9, 10, 41] (fun _ _ K wr => ∃ k : Nat, k ≤ cs.length ∧ K = .int .i64 k ∧ wr.ownsRow v2.heap.size 3 1 (.slice (some ⟨v2.heap.size, 0, none⟩) cs.length cs.length) cs.length ((over (pwL P G cs) (List.replicate cs.length 0) k).map (Value.int .i64)) ∧ Below v2.heap.size v2 wr) (fun _ _ K _ => cs.length - (intOf K).toNat)
  case atStart => exact ⟨0, Nat.zero_le _, rfl, by rw [over_zero]; exact HOW.out, HB2.out⟩
  case round =>
    obtain ⟨k, hk, rfl, hownr, hbel⟩ := hrel
    have HOr := Lib.hid hownr
    have HBr := Lib.hid hbel
    have HLV := Lib.hid Z_2.out.lt
    have HGr := Lib.hid (G_2.out.below hbel)
    have HCr := Lib.hid (C_2.out.below hbel)
    have HZr := Lib.hid (Z_2.out.below hbel)
    clear hownr hbel HOW HB2
    by_cases hkn : k < cs.length
    · obtain ⟨b, off, a, rfl, hb, hcx, hd⟩ := (show IsInts wr ad cs from HCr.out).at (k := k) hkn
      obtain ⟨ha0, ha1⟩ := HRS.out a (mem_drop hd)
      have HGT := Lib.hid (fun h => pwL_get (P := P) (G := G) hd h)
      obtain ⟨q0, q1, q2⟩ := HGr.out
      clear hd
      go_wp2_with fail
      refine (power_any P Q G G a hG0 hG1 ha0 (by omega) hP2 hP3 _).mono ?_
      rintro e w3 ⟨rfl, hb3⟩
      have ho3 := own_below HOr.out hb3
      obtain ⟨⟨u, hcu3⟩, hfu3⟩ := own_cell ho3 hkn
      have HO3 := Lib.hid (inv_store ho3 HGT.out (by rw [pwL_length]; exact hkn) (by simpa using hkn))
      have HB3 := Lib.hid (HBr.out.trans (hb3.mono HBr.out.size))
      clear hb3 ho3 q0 q1 q2
      go_wp2
      go_roundw
      case rel => exact ⟨k + 1, by omega, by go_num, HO3.out, HB3.out.setCell (Nat.le_refl _) _⟩
      case measure => simp only [intOf]; omega
    · have hown := HOr.out
      rw [over_all _ _ (by rw [pwL_length]; omega) (by simp; omega)] at hown
      have HO1 := Lib.hid (show OwI v2.heap.size wr.heap.size wr _ (pwL P G cs) from owI_mk hown HBr.out.size)
      obtain ⟨q0, q1, q2⟩ := HGr.out
      obtain ⟨y0, y1, yf⟩ := HZr.out
      have yf0 := yf 0
      have yf1 := yf 1
      clear hown HOr yf
      go_wp2_with fail
      refine (sharesOf_any P Q G hq7 hQ3 ad cs.length cap cs rfl (by omega) HRS.out n (by omega) _ HCr.out).mono ?_
      rintro e w4 ⟨g, rfl, hown, hb4⟩
      have HO4 := Lib.hid (HO1.out.below hb4)
      have HS4 := Lib.hid (owI_mk hown hb4.size)
      have HZ4 := Lib.hid (HZr.out.below hb4)
      have HB4 := Lib.hid (bt (bt HB_2.out HBr.out) hb4)
      clear hown hb4 q0 q1 q2 y0 y1 yf0 yf1
      obtain ⟨y0, y1, yf⟩ := HZ4.out
      have yf0 := yf 0
      have yf1 := yf 1
      clear yf
      go_wp2
      (try simp only [Exit.inBlock, Exit.then])
      refine bodyPost_ret (v := .tuple #[.agg #[.slice (some ⟨v2.heap.size, 0, none⟩) cs.length cs.length, .slice (some ⟨g, 0, none⟩) n n], .bool true]) ?_ rfl ?_
      · rw [results_cell_tmp rfl]; go_simp
      · have hm5 := mid_two7 w4 (w.heap.size + 1) (.slice (some ⟨v2.heap.size, 0, none⟩) cs.length cs.length) (.slice (some ⟨g, 0, none⟩) n n)
        have hlv := HLV.out
        have hlr := HO4.out.2.2.2
        have h1 := HO4.out.mid hm5 (.inr (by omega))
        have h2 := HS4.out.mid hm5 (.inr (by omega))
        exact ⟨_, rfl, ⟨_, _, wr.heap.size, rfl, h1.wide (by omega) (Nat.le_refl _) h1.2.2.1, h2.wide (Nat.le_refl _) hm5.size (Nat.le_refl _)⟩, HB4.out.trans (hm5.toBelow (by omega) HB4.out.size)⟩

/-! ### DealShares of the reference -/
/-- What lies there while a dealing is built: the group's box, the answer's, the dealing's. -/
def SD (w0 w : World) (P Q G : Int) (A B : Value) : Prop :=
  GR w w0.heap.size P Q G ∧ VD2 w (w0.heap.size + 1) (.slice none 0 0) (.slice none 0 0) ∧ VD2 w (w0.heap.size + 2) A B ∧ Below w0.heap.size w0 w
theorem gr_mid7 {w w' : World} {A B b : Nat} {P Q G : Int} (h : GR w b P Q G) (hm : Mid A B w w') (ho : b < A) : GR w' b P Q G := by
  have he := hm.block b h.lt (.inl ho)
  exact ⟨(World.cell?_of_block (a := ⟨b, 0, none⟩) he).trans h.1, (World.cell?_of_block (a := ⟨b, 1, none⟩) he).trans h.2.1, (World.cell?_of_block (a := ⟨b, 2, none⟩) he).trans h.2.2⟩
theorem SD.mid {w0 w w' : World} {P Q G : Int} {A B : Value} {N M : Nat} (h : SD w0 w P Q G A B) (hm : Mid N M w w') (hN : w0.heap.size + 3 ≤ N) : SD w0 w' P Q G A B :=
  ⟨gr_mid7 h.1 hm (by omega), h.2.1.mid hm (.inl (by omega)), h.2.2.1.mid hm (.inl (by omega)), h.2.2.2.trans (hm.toBelow (by omega) h.2.2.2.size)⟩
theorem SD.below {w0 w w' : World} {P Q G : Int} {A B : Value} (h : SD w0 w P Q G A B) (hb : Below w.heap.size w w') : SD w0 w' P Q G A B :=
  ⟨h.1.below hb, h.2.1.below hb, h.2.2.1.below hb, bt h.2.2.2 hb⟩
theorem SD.set0 {w0 w : World} {P Q G : Int} {A B : Value} (h : SD w0 w P Q G A B) (v : Value) : SD w0 (w.setCell ⟨w0.heap.size + 2, 0, none⟩ v) P Q G v B :=
  ⟨gr_mid7 h.1 (mid_cell w (w0.heap.size + 2) 0 v) (by omega), h.2.1.other _ _ (by show w0.heap.size + 2 ≠ w0.heap.size + 1; omega), h.2.2.1.set0 v, h.2.2.2.setCell (p := ⟨w0.heap.size + 2, 0, none⟩) (by show w0.heap.size ≤ w0.heap.size + 2; omega) _⟩
theorem SD.set1 {w0 w : World} {P Q G : Int} {A B : Value} (h : SD w0 w P Q G A B) (v : Value) : SD w0 (w.setCell ⟨w0.heap.size + 2, 1, none⟩ v) P Q G A v :=
  ⟨gr_mid7 h.1 (mid_cell w (w0.heap.size + 2) 1 v) (by omega), h.2.1.other _ _ (by show w0.heap.size + 2 ≠ w0.heap.size + 1; omega), h.2.2.1.set1 v, h.2.2.2.setCell (p := ⟨w0.heap.size + 2, 1, none⟩) (by show w0.heap.size ≤ w0.heap.size + 2; omega) _⟩
theorem SD.cells {w0 w : World} {P Q G : Int} {A B : Value} (h : SD w0 w P Q G A B) : (w.cell? ⟨w0.heap.size, 0, none⟩ = some (.int .i64 P) ∧ w.cell? ⟨w0.heap.size, 1, none⟩ = some (.int .i64 Q) ∧ w.cell? ⟨w0.heap.size, 2, none⟩ = some (.int .i64 G)) ∧ w.cell? ⟨w0.heap.size + 2, 0, none⟩ = some A ∧ w.cell? ⟨w0.heap.size + 2, 1, none⟩ = some B := ⟨h.1, h.2.2.1.1, h.2.2.1.2.1⟩
theorem shV_succ (q : Int) (f : List Int) (i : Nat) : shV q f (i + 1) = shV q f i ++ [pev q ((i : Int) + 1) f] := by simp [shV, evAll, iota_succ]
theorem mid_app {w w' : World} {o : Obj} {B : Nat} {v : Value} {n : Nat} {xs : List Value} {e : TypeId} {s : Nat} (hown : (w.alloc o).ownsRow B e s v n xs) (hg : (w.alloc o).grownBy w' v.ownBlock) : Mid B (w.alloc o).heap.size (w.alloc o) w' :=
  Mid.grown hg (fun k hk => hown.lt k hk)
theorem below_app {w w' : World} {B : Nat} {v : Value} {n : Nat} {xs : List Value} {e : TypeId} {s : Nat} (hown : w.ownsRow B e s v n xs) (hg : w.grownBy w' v.ownBlock) : Mid B w.heap.size w w' :=
  Mid.grown hg (fun k hk => hown.lt k hk)

set_option maxRecDepth 100000 in
set_option maxHeartbeats 3200000 in
theorem sDeal_any (P Q G : Int) (hg : goodB P Q G = true) (h7 : 7 < Q) (n : Nat) (hn : n ≤ 7) (ad : Option Addr) (cap : Nat) (cs : List Int) (hl : cs.length ≤ 1000000) (hrs : ∀ z ∈ cs, 0 ≤ z ∧ z < Q) {w : World} (hz : IsInts w ad cs) :
    Calls Tryz.prog 35 #[gv P Q G, .slice ad cs.length cap, .int .i64 n] w (MadeD w ⟨pwL P G cs, shV Q cs n⟩) := by
  have hbg := goodB_true.1 hg
  have hP2 : 2 ≤ P := by omega
  have hP3 : P ≤ 2000000000 := by omega
  have hQ3 : Q ≤ 2000000000 := by omega
  have hG0 : 0 ≤ G := by omega
  have hG1 : G ≤ 2000000000 := by omega
  obtain ⟨i0, hi, hz0, hz1, hz2⟩ := info_parts Tryz.info3
  have HRS := Lib.hid hrs
  have HS0 := Lib.hid (show SD w (((w.alloc (.cells #[.int .i64 P, .int .i64 Q, .int .i64 G] 24)).alloc (.cells #[.slice none 0 0, .slice none 0 0] 34)).alloc (.cells #[.slice none 0 0, .slice none 0 0] 34)) P Q G (.slice none 0 0) (.slice none 0 0) from
    ⟨((gr_atS w w.heap.size rfl P Q G 24).below (ba _ _)).below (ba _ _), (v2_at (w.alloc (.cells #[.int .i64 P, .int .i64 Q, .int .i64 G] 24)) (w.heap.size + 1) (by simp) _ _ 34).below (ba _ _), v2_at ((w.alloc (.cells #[.int .i64 P, .int .i64 Q, .int .i64 G] 24)).alloc (.cells #[.slice none 0 0, .slice none 0 0] 34)) (w.heap.size + 2) (by simp) _ _ 34, bt (bt (ba _ _) (ba _ _)) (ba _ _)⟩)
  clear hbg hg hrs
  go_enter Tryz.func35, Tryz.ntmps35
  go_wp2_with fail
  go_loopw [9, 13] (fun _ K wr => ∃ (k : Nat) (va : Option Addr) (vc : Nat), k ≤ cs.length ∧ K = .int .i64 k ∧ SD w wr P Q G (.slice va k vc) (.slice none 0 0) ∧ OwI (w.heap.size + 3) wr.heap.size wr (.slice va k vc) ((pwL P G cs).take k)) (fun _ K _ => cs.length - (intOf K).toNat)
  case atStart => exact ⟨0, none, 0, Nat.zero_le _, rfl, HS0.out, owI_mk (n := 0) (World.ownsRow_nil _ _ _ _) (by simp)⟩
  case round =>
    obtain ⟨k, va, vc, hk, rfl, hsd, hown⟩ := hrel
    by_cases hkn : k < cs.length
    · obtain ⟨b, off, a, rfl, hb, hcx, hd⟩ := (hz.below hsd.2.2.2 (Nat.le_refl _)).at (k := k) hkn
      obtain ⟨ha0, ha1⟩ := HRS.out a (mem_drop hd)
      obtain ⟨pv, hpv⟩ : ∃ pv, Num.pow G a P = pv := ⟨_, rfl⟩
      have HPV := Lib.hid hpv
      have HTK := Lib.hid (show (pwL P G cs).take (k + 1) = (pwL P G cs).take k ++ [pv] by rw [← hpv]; exact pwL_take hd)
      have HLEN := Lib.hid (show ((pwL P G cs).take k).length = k by rw [List.length_take, pwL_length]; omega)
      have HSs := Lib.hid (hsd.below ((Below.refl _ wr).drew))
      have HOs := Lib.hid (hown.below ((Below.refl _ wr).drew))
      obtain ⟨⟨q0, q1, q2⟩, x0, x1⟩ := hsd.cells
      clear hpv hd hsd hown HS0
      go_wp2_with fail
      clear q0 q1 q2 x0 x1 hcx
      refine wpK_begin (n := 10) (S := (fun w' => (w'.cell? ⟨w.heap.size, 0, none⟩ = some (.int .i64 P) ∧ w'.cell? ⟨w.heap.size, 1, none⟩ = some (.int .i64 Q) ∧ w'.cell? ⟨w.heap.size, 2, none⟩ = some (.int .i64 G)) ∧ w'.cell? ⟨w.heap.size + 2, 0, none⟩ = some (.slice va k vc) ∧ w'.cell? ⟨w.heap.size + 2, 1, none⟩ = some (.slice none 0 0))) (by kernel_rfl) ?_
      refine wpK_take (i := 0) (v := ?_) rfl (by kernel_rfl) (by kernel_rfl) (by kernel_rfl) (by kernel_rfl) (fun _ _ _ h => h) (Or.inl ⟨by kernel_rfl, ?_⟩) (show _ from HSs.out.cells) ?_
      rotate_left 1
      · intro w9 hSw
        (try dsimp only at hSw)
        go_simp
        (try with_reducible rfl)
      (try simp only [Act.put, List.getElem_toArray, List.getElem_cons_succ, List.getElem_cons_zero, List.setIfInBounds_toArray, List.set_cons_zero, List.set_cons_succ])
      refine wpK_take (i := 1) (v := ?_) rfl (by kernel_rfl) (by kernel_rfl) (by kernel_rfl) (by kernel_rfl) (fun _ _ _ h => h) (Or.inl ⟨by kernel_rfl, ?_⟩) (show _ from HSs.out.cells) ?_
      rotate_left 1
      · intro w9 hSw
        (try dsimp only at hSw)
        go_simp
        (try with_reducible rfl)
      (try simp only [Act.put, List.getElem_toArray, List.getElem_cons_succ, List.getElem_cons_zero, List.setIfInBounds_toArray, List.set_cons_zero, List.set_cons_succ])
      refine wpK_take (i := 2) (v := ?_) rfl (by kernel_rfl) (by kernel_rfl) (by kernel_rfl) (by kernel_rfl) (fun _ _ _ h => h) (Or.inl ⟨by kernel_rfl, ?_⟩) (show _ from HSs.out.cells) ?_
      rotate_left 1
      · intro w9 hSw
        (try dsimp only at hSw)
        go_simp
        (try with_reducible rfl)
      (try simp only [Act.put, List.getElem_toArray, List.getElem_cons_succ, List.getElem_cons_zero, List.setIfInBounds_toArray, List.set_cons_zero, List.set_cons_succ])
      refine wpK_take (i := 3) (v := ?_) rfl (by kernel_rfl) (by kernel_rfl) (by kernel_rfl) (by kernel_rfl) (fun _ _ _ h => h) (Or.inl ⟨by kernel_rfl, ?_⟩) (show _ from HSs.out.cells) ?_
      rotate_left 1
      · intro w9 hSw
        (try dsimp only at hSw)
        go_simp
        (try with_reducible rfl)
      (try simp only [Act.put, List.getElem_toArray, List.getElem_cons_succ, List.getElem_cons_zero, List.setIfInBounds_toArray, List.set_cons_zero, List.set_cons_succ])
      refine wpK_take (i := 4) (v := ?_) rfl (by kernel_rfl) (by kernel_rfl) (by kernel_rfl) (by kernel_rfl) (fun _ _ _ h => h) (Or.inl ⟨by kernel_rfl, ?_⟩) (show _ from HSs.out.cells) ?_
      rotate_left 1
      · intro w9 hSw
        (try dsimp only at hSw)
        go_simp
        (try with_reducible rfl)
      (try simp only [Act.put, List.getElem_toArray, List.getElem_cons_succ, List.getElem_cons_zero, List.setIfInBounds_toArray, List.set_cons_zero, List.set_cons_succ])
      refine wpK_take (i := 5) (v := ?_) rfl (by kernel_rfl) (by kernel_rfl) (by kernel_rfl) (by kernel_rfl) (fun _ _ _ h => h) (Or.inl ⟨by kernel_rfl, ?_⟩) (show _ from HSs.out.cells) ?_
      rotate_left 1
      · intro w9 hSw
        (try dsimp only at hSw)
        go_simp
        (try with_reducible rfl)
      (try simp only [Act.put, List.getElem_toArray, List.getElem_cons_succ, List.getElem_cons_zero, List.setIfInBounds_toArray, List.set_cons_zero, List.set_cons_succ])
      refine wpK_one (i := 6) (by kernel_rfl) rfl ?_
      intro K' hK
      go_simp
      go_at_call 73
      refine (gExp_any P Q G G a hG0 hG1 ha0 ha1 hP2 hP3 (by omega) hQ3 _).mono ?_
      rw [HPV.out]
      rintro e w3 ⟨rfl, hb3⟩
      have HSc := Lib.hid (HSs.out.below hb3)
      have HOc := Lib.hid (OwI.below HOs.out hb3)
      clear hb3
      go_wp2_with fail
      refine hK.out _ _ (fun _ => HSc.out.cells) ?_
      clear hK K'
      (try simp only [Act.put, List.getElem_toArray, List.getElem_cons_succ, List.getElem_cons_zero, List.setIfInBounds_toArray, List.set_cons_zero, List.set_cons_succ])
      refine wpK_one (i := 7) (by kernel_rfl) rfl ?_
      intro K' hK
      go_simp
      have HSl := Lib.hid (HSc.out.below (ba w3 (.cells #[.int .i64 pv] 3)))
      have HOl := Lib.hid (OwI.below HOc.out (ba w3 (.cells #[.int .i64 pv] 3)))
      refine hK.out _ _ (fun _ => HSl.out.cells) ?_
      clear hK K'
      (try simp only [Act.put, List.getElem_toArray, List.getElem_cons_succ, List.getElem_cons_zero, List.setIfInBounds_toArray, List.set_cons_zero, List.set_cons_succ])
      refine wpK_one (i := 8) (by kernel_rfl) rfl ?_
      intro K' hK
      refine step_append_ints (by rfl) (.tmp 18) (.tmp 24) _ (by rfl) (w.heap.size + 3) 3 i0 Tryz.underlying32 hi hz0 hz1 hz2 _ k ((pwL P G cs).take k) (by rfl) (by have h := HOl.out.1; rwa [HLEN.out] at h) (some ⟨w3.heap.size, 0, none⟩) 1 1 [pv] (by rfl) rfl (ints_spot w3 _ rfl [pv] 3) (fun h => by cases h) (by omega) (by have := HOl.out.2.2.2; have := HOl.out.2.2.1; simp at *; omega) ?_
      intro v9 w5 hown9 hgrow
      obtain ⟨va', vc', rfl⟩ := own_shape hown9
      have hmid := below_app HOl.out.1 hgrow
      have HO5 := Lib.hid (show OwI (w.heap.size + 3) w5.heap.size w5 (.slice va' (k + 1) vc') ((pwL P G cs).take k ++ [pv]) from owI_mk hown9 (by have := hmid.size; have := HOl.out.2.2.2; have := HOl.out.2.2.1; omega))
      have HS5 := Lib.hid (HSl.out.mid hmid (Nat.le_refl _))
      clear hmid hown9 hgrow
      refine hK.out _ _ (fun _ => HS5.out.cells) ?_
      clear hK K'
      (try simp only [Act.put, List.getElem_toArray, List.getElem_cons_succ, List.getElem_cons_zero, List.setIfInBounds_toArray, List.set_cons_zero, List.set_cons_succ])
      refine wpK_take (i := 9) (v := ?_) rfl (by kernel_rfl) (by kernel_rfl) (by kernel_rfl) (by kernel_rfl) (fun _ _ _ h => h) (Or.inl ⟨by kernel_rfl, ?_⟩) HS5.out.cells ?_
      rotate_left 1
      · intro w9 hSw
        (try dsimp only at hSw)
        go_simp
        (try with_reducible rfl)
      (try simp only [Act.put, List.getElem_toArray, List.getElem_cons_succ, List.getElem_cons_zero, List.setIfInBounds_toArray, List.set_cons_zero, List.set_cons_succ])
      refine wpK_one (i := 10) (by kernel_rfl) rfl ?_
      intro K' hK
      obtain ⟨y0, y1, yf⟩ := HS5.out.2.2.1
      have yf0 := yf 0
      clear yf
      go_simp
      refine hK.out _ _ (fun h => absurd rfl h) ?_
      clear hK K'
      (try simp only [Act.put, List.getElem_toArray, List.getElem_cons_succ, List.getElem_cons_zero, List.setIfInBounds_toArray, List.set_cons_zero, List.set_cons_succ])
      refine wpK_done (by kernel_rfl) ?_ _
      have HS6 := Lib.hid (HS5.out.set0 (.slice va' (k + 1) vc'))
      have HO6 := Lib.hid (HO5.out.mid (mid_cell w5 (w.heap.size + 2) 0 (.slice va' (k + 1) vc')) (.inr (Nat.le_refl _)))
      clear y0 y1
      go_wp2
      go_roundw
      case rel => exact ⟨k + 1, va', vc', by omega, by go_num, HS6.out, by rw [HTK.out]; exact HO6.out.wide (Nat.le_refl _) (by simp) (Nat.le_refl _)⟩
      case measure => simp only [intOf]; omega
    · obtain rfl : k = cs.length := by omega
      rw [List.take_of_length_le (by rw [pwL_length]; exact Nat.le_refl _)] at hown
      have HSQ := Lib.hid hsd
      have HOQ := Lib.hid hown
      have hwq3 : w.heap.size + 3 ≤ wr.heap.size := hown.2.2.2
      obtain ⟨ca, hca⟩ : ∃ x, va = x := ⟨_, rfl⟩
      obtain ⟨cc, hcc⟩ : ∃ x, vc = x := ⟨_, rfl⟩
      subst hca hcc
      clear hsd hown HS0
      generalize wr = wq at *
      go_wp2_with fail
      go_loopw [10] (fun I wr => ∃ (i : Nat) (vb : Option Addr) (vd : Nat), i ≤ n ∧ I = .int .i64 ((i : Int) + 1) ∧ SD w wr P Q G (.slice va cs.length vc) (.slice vb i vd) ∧ OwI (w.heap.size + 3) wq.heap.size wr (.slice va cs.length vc) (pwL P G cs) ∧ OwI wq.heap.size wr.heap.size wr (.slice vb i vd) (shV Q cs i)) (fun I _ => n + 1 - (intOf I).toNat)
      case atStart => exact ⟨0, none, 0, Nat.zero_le _, rfl, HSQ.out, HOQ.out, owI_mk (n := 0) (World.ownsRow_nil _ _ _ _) (Nat.le_refl _)⟩
      case round =>
        obtain ⟨i, vb, vd, hin, rfl, hsd, hpw, hown⟩ := hrel
        by_cases hik : i < n
        · have hlei : (i : Int) + 1 ≤ (n : Int) := by omega
          have hwi : IntKind.i64.wrap ((i : Int) + 1 + 1) = (i : Int) + 1 + 1 := by rw [IntKind.wrap_i64]; omega
          obtain ⟨pv, hpv⟩ : ∃ pv, pev Q ((i : Int) + 1) cs = pv := ⟨_, rfl⟩
          have HPV := Lib.hid hpv
          have HTK := Lib.hid (show shV Q cs (i + 1) = shV Q cs i ++ [pv] by rw [shV_succ, hpv])
          have HLEN := Lib.hid (shV_length Q cs i)
          have HSs := Lib.hid (hsd.below ((Below.refl _ wr).drew))
          have HOs := Lib.hid (hown.below ((Below.refl _ wr).drew))
          have HPs := Lib.hid (hpw.below ((Below.refl _ wr).drew))
          obtain ⟨⟨q0, q1, q2⟩, x0, x1⟩ := hsd.cells
          clear hpv hsd hown hpw HSQ HOQ
          go_wp2_with fail
          clear q0 q1 q2 x0 x1
          refine wpK_begin (n := 10) (S := (fun w' => (w'.cell? ⟨w.heap.size, 0, none⟩ = some (.int .i64 P) ∧ w'.cell? ⟨w.heap.size, 1, none⟩ = some (.int .i64 Q) ∧ w'.cell? ⟨w.heap.size, 2, none⟩ = some (.int .i64 G)) ∧ w'.cell? ⟨w.heap.size + 2, 0, none⟩ = some (.slice va cs.length vc) ∧ w'.cell? ⟨w.heap.size + 2, 1, none⟩ = some (.slice vb i vd))) (by kernel_rfl) ?_
          refine wpK_take (i := 0) (v := ?_) rfl (by kernel_rfl) (by kernel_rfl) (by kernel_rfl) (by kernel_rfl) (fun _ _ _ h => h) (Or.inl ⟨by kernel_rfl, ?_⟩) (show _ from HSs.out.cells) ?_
          rotate_left 1
          · intro w9 hSw
            (try dsimp only at hSw)
            go_simp
            (try with_reducible rfl)
          (try simp only [Act.put, List.getElem_toArray, List.getElem_cons_succ, List.getElem_cons_zero, List.setIfInBounds_toArray, List.set_cons_zero, List.set_cons_succ])
          refine wpK_take (i := 1) (v := ?_) rfl (by kernel_rfl) (by kernel_rfl) (by kernel_rfl) (by kernel_rfl) (fun _ _ _ h => h) (Or.inl ⟨by kernel_rfl, ?_⟩) (show _ from HSs.out.cells) ?_
          rotate_left 1
          · intro w9 hSw
            (try dsimp only at hSw)
            go_simp
            (try with_reducible rfl)
          (try simp only [Act.put, List.getElem_toArray, List.getElem_cons_succ, List.getElem_cons_zero, List.setIfInBounds_toArray, List.set_cons_zero, List.set_cons_succ])
          refine wpK_take (i := 2) (v := ?_) rfl (by kernel_rfl) (by kernel_rfl) (by kernel_rfl) (by kernel_rfl) (fun _ _ _ h => h) (Or.inl ⟨by kernel_rfl, ?_⟩) (show _ from HSs.out.cells) ?_
          rotate_left 1
          · intro w9 hSw
            (try dsimp only at hSw)
            go_simp
            (try with_reducible rfl)
          (try simp only [Act.put, List.getElem_toArray, List.getElem_cons_succ, List.getElem_cons_zero, List.setIfInBounds_toArray, List.set_cons_zero, List.set_cons_succ])
          refine wpK_take (i := 3) (v := ?_) rfl (by kernel_rfl) (by kernel_rfl) (by kernel_rfl) (by kernel_rfl) (fun _ _ _ h => h) (Or.inl ⟨by kernel_rfl, ?_⟩) (show _ from HSs.out.cells) ?_
          rotate_left 1
          · intro w9 hSw
            (try dsimp only at hSw)
            go_simp
            (try with_reducible rfl)
          (try simp only [Act.put, List.getElem_toArray, List.getElem_cons_succ, List.getElem_cons_zero, List.setIfInBounds_toArray, List.set_cons_zero, List.set_cons_succ])
          refine wpK_take (i := 4) (v := ?_) rfl (by kernel_rfl) (by kernel_rfl) (by kernel_rfl) (by kernel_rfl) (fun _ _ _ h => h) (Or.inl ⟨by kernel_rfl, ?_⟩) (show _ from HSs.out.cells) ?_
          rotate_left 1
          · intro w9 hSw
            (try dsimp only at hSw)
            go_simp
            (try with_reducible rfl)
          (try simp only [Act.put, List.getElem_toArray, List.getElem_cons_succ, List.getElem_cons_zero, List.setIfInBounds_toArray, List.set_cons_zero, List.set_cons_succ])
          refine wpK_take (i := 5) (v := ?_) rfl (by kernel_rfl) (by kernel_rfl) (by kernel_rfl) (by kernel_rfl) (fun _ _ _ h => h) (Or.inl ⟨by kernel_rfl, ?_⟩) (show _ from HSs.out.cells) ?_
          rotate_left 1
          · intro w9 hSw
            (try dsimp only at hSw)
            go_simp
            (try with_reducible rfl)
          (try simp only [Act.put, List.getElem_toArray, List.getElem_cons_succ, List.getElem_cons_zero, List.setIfInBounds_toArray, List.set_cons_zero, List.set_cons_succ])
          refine wpK_one (i := 6) (by kernel_rfl) rfl ?_
          intro K' hK
          go_simp
          go_at_call 37
          refine (yEval_any Q ad cs.length cap cs ((i : Int) + 1) rfl (by omega) (by omega) hQ3 (by omega) (by omega) HRS.out _ (hz.below HSs.out.2.2.2 (Nat.le_refl _))).mono ?_
          rw [HPV.out]
          rintro e w3 ⟨rfl, rfl⟩
          have HSc := HSs
          have HOc := HOs
          have HPc := HPs
          go_wp2_with fail
          refine hK.out _ _ (fun _ => HSc.out.cells) ?_
          clear hK K'
          (try simp only [Act.put, List.getElem_toArray, List.getElem_cons_succ, List.getElem_cons_zero, List.setIfInBounds_toArray, List.set_cons_zero, List.set_cons_succ])
          refine wpK_one (i := 7) (by kernel_rfl) rfl ?_
          intro K' hK
          go_simp
          have HSl := Lib.hid (HSc.out.below (ba wr.drew (.cells #[.int .i64 pv] 3)))
          have HOl := Lib.hid (OwI.below HOc.out (ba wr.drew (.cells #[.int .i64 pv] 3)))
          have HPl := Lib.hid (OwI.below HPc.out (ba wr.drew (.cells #[.int .i64 pv] 3)))
          refine hK.out _ _ (fun _ => HSl.out.cells) ?_
          clear hK K'
          (try simp only [Act.put, List.getElem_toArray, List.getElem_cons_succ, List.getElem_cons_zero, List.setIfInBounds_toArray, List.set_cons_zero, List.set_cons_succ])
          refine wpK_one (i := 8) (by kernel_rfl) rfl ?_
          intro K' hK
          refine step_append_ints (by rfl) (.tmp 34) (.tmp 40) _ (by rfl) (wq.heap.size) 3 i0 Tryz.underlying32 hi hz0 hz1 hz2 _ i (shV Q cs i) (by rfl) (by have h := HOl.out.1; rwa [HLEN.out] at h) (some ⟨wr.drew.heap.size, 0, none⟩) 1 1 [pv] (by rfl) rfl (ints_spot wr.drew _ rfl [pv] 3) (fun h => by cases h) (by omega) (by have := HOl.out.2.2.2; have := HOl.out.2.2.1; simp at *; omega) ?_
          intro v9 w5 hown9 hgrow
          obtain ⟨va', vc', rfl⟩ := own_shape hown9
          have hmid := below_app HOl.out.1 hgrow
          have HO5 := Lib.hid (show OwI (wq.heap.size) w5.heap.size w5 (.slice va' (i + 1) vc') (shV Q cs i ++ [pv]) from owI_mk hown9 (by have := hmid.size; have := HOl.out.2.2.2; have := HOl.out.2.2.1; omega))
          have HS5 := Lib.hid (HSl.out.mid hmid (hwq3))
          have HP5 := Lib.hid (HPl.out.mid hmid (.inl (Nat.le_refl _)))
          clear hmid hown9 hgrow
          refine hK.out _ _ (fun _ => HS5.out.cells) ?_
          clear hK K'
          (try simp only [Act.put, List.getElem_toArray, List.getElem_cons_succ, List.getElem_cons_zero, List.setIfInBounds_toArray, List.set_cons_zero, List.set_cons_succ])
          refine wpK_take (i := 9) (v := ?_) rfl (by kernel_rfl) (by kernel_rfl) (by kernel_rfl) (by kernel_rfl) (fun _ _ _ h => h) (Or.inl ⟨by kernel_rfl, ?_⟩) HS5.out.cells ?_
          rotate_left 1
          · intro w9 hSw
            (try dsimp only at hSw)
            go_simp
            (try with_reducible rfl)
          (try simp only [Act.put, List.getElem_toArray, List.getElem_cons_succ, List.getElem_cons_zero, List.setIfInBounds_toArray, List.set_cons_zero, List.set_cons_succ])
          refine wpK_one (i := 10) (by kernel_rfl) rfl ?_
          intro K' hK
          obtain ⟨y0, y1, yf⟩ := HS5.out.2.2.1
          have yf1 := yf 1
          clear yf
          go_simp
          refine hK.out _ _ (fun h => absurd rfl h) ?_
          clear hK K'
          (try simp only [Act.put, List.getElem_toArray, List.getElem_cons_succ, List.getElem_cons_zero, List.setIfInBounds_toArray, List.set_cons_zero, List.set_cons_succ])
          refine wpK_done (by kernel_rfl) ?_ _
          have HS6 := Lib.hid (HS5.out.set1 (.slice va' (i + 1) vc'))
          have HO6 := Lib.hid (HO5.out.mid (mid_cell w5 (w.heap.size + 2) 1 (.slice va' (i + 1) vc')) (.inr hwq3))
          have HP6 := Lib.hid (HP5.out.mid (mid_cell w5 (w.heap.size + 2) 1 (.slice va' (i + 1) vc')) (.inr (Nat.le_refl _)))
          clear y0 y1
          go_wp2
          go_roundw
          case rel => exact ⟨i + 1, va', vc', by omega, by go_num, HS6.out, HP6.out, by rw [HTK.out]; exact HO6.out.wide (Nat.le_refl _) (by simp) (Nat.le_refl _)⟩
          case measure => simp only [intOf]; omega
        · obtain rfl : i = n := by omega
          have hgt : ¬ ((i : Int) + 1 ≤ (i : Int)) := by omega
          obtain ⟨x0, x1, _⟩ := hsd.2.2.1
          obtain ⟨z0, z1, zf⟩ := hsd.2.1
          have zf0 := zf 0
          have zf1 := zf 1
          have HSE := Lib.hid hsd
          have HPE := Lib.hid hpw
          have HOE := Lib.hid hown
          clear zf hsd hpw hown HSQ HOQ
          go_wp2
          (try simp only [Exit.inBlock, Exit.then])
          refine bodyPost_ret (v := .agg #[.slice va cs.length vc, .slice vb i vd]) ?_ rfl ⟨_, rfl, ?_, ?_⟩
          · rw [results_cell_one rfl]; go_simp
          · have hm5 := mid_two7 wr (w.heap.size + 1) (.slice va cs.length vc) (.slice vb i vd)
            have hlr := HPE.out.2.2.2
            have h1 := HPE.out.mid hm5 (.inr (by omega))
            have h2 := HOE.out.mid hm5 (.inr (by omega))
            exact ⟨_, _, wq.heap.size, rfl, h1.wide (by omega) (Nat.le_refl _) h1.2.2.1, h2.wide (Nat.le_refl _) hm5.size (Nat.le_refl _)⟩
          · exact HSE.out.2.2.2.trans ((mid_two7 wr (w.heap.size + 1) (.slice va cs.length vc) (.slice vb i vd)).toBelow (by omega) HSE.out.2.2.2.size)

theorem dealShares_ans (P Q G n : Int) {B : Nat} {v : Value} {cs : List Int} (hl : cs.length ≤ 1048576) {w : World} (h : InI B w v cs) :
    Calls Tryz.prog 65 #[gv P Q G, v, .int .i64 n] w (AnsD w (dsR P Q G cs n) (dsB P Q G cs n)) := by
  obtain ⟨_, ad, cap, rfl, h1, _⟩ := h; exact dealShares_any P Q G n ad cap cs hl h1.ints
end Go.Proofs.YtchlnkdlnfjijaaGreat

