/- Polynomials over a prime field: plain facts. No Go in sight. -/
import Derived.Test.YtchlnkdlnfjijaaGreatGrp
import Derived.Test.YtchlnkdlnfjijaaGreatDot
import Derived.Test.YtchlnkdlnfjijaaGreatInvAll
import Derived.Laws.CopyOwn
import Derived.Test.YtchlnkdlnfjijaaGreatTyI
import Derived.Test.YtchlnkdlnfjijaaGreatCur
import Derived.Deep.LoopGhost
namespace Go.Proofs.YtchlnkdlnfjijaaGreat

/-- The value of a polynomial, unreduced and reduced. -/
def evp (x : Int) : List Int → Int
  | [] => 0
  | c :: f => evp x f * x + c
def pev (q x : Int) : List Int → Int
  | [] => 0
  | c :: f => (pev q x f * x + c) % q
theorem pev_ev {q x : Int} : ∀ f : List Int, pev q x f = evp x f % q
  | [] => by simp [pev, evp]
  | c :: f => by rw [pev, evp, pev_ev f, Int.add_emod, Int.mul_emod, Int.emod_emod, ← Int.mul_emod, ← Int.add_emod]
theorem pev_range {q x : Int} (hq : 0 < q) (f : List Int) : 0 ≤ pev q x f ∧ pev q x f < q := by
  rw [pev_ev]; exact ⟨Int.emod_nonneg _ (by omega), Int.emod_lt_of_pos _ hq⟩

/-- Congruence. -/
def CgP (q a b : Int) : Prop := ∃ k, a = b + q * k
theorem CgP.refl (q a : Int) : CgP q a a := ⟨0, by simp⟩
theorem CgP.symm {q a b : Int} (h : CgP q a b) : CgP q b a := by obtain ⟨k, h⟩ := h; exact ⟨-k, by grind⟩
theorem CgP.trans {q a b c : Int} (h : CgP q a b) (h' : CgP q b c) : CgP q a c := by
  obtain ⟨k, h⟩ := h; obtain ⟨l, h'⟩ := h'; exact ⟨k + l, by grind⟩
theorem CgP.add {q a b c d : Int} (h : CgP q a b) (h' : CgP q c d) : CgP q (a + c) (b + d) := by
  obtain ⟨k, h⟩ := h; obtain ⟨l, h'⟩ := h'; exact ⟨k + l, by grind⟩
theorem CgP.mul {q a b c d : Int} (h : CgP q a b) (h' : CgP q c d) : CgP q (a * c) (b * d) := by
  obtain ⟨k, h⟩ := h; obtain ⟨l, h'⟩ := h'; exact ⟨k * d + b * l + q * k * l, by subst h h'; grind⟩
theorem CgP.mod (q a : Int) : CgP q (a % q) a := ⟨-(a / q), by have := Int.mul_ediv_add_emod a q; grind⟩
theorem CgP.eq {q a b : Int} (h : CgP q a b) : a % q = b % q := by
  obtain ⟨k, rfl⟩ := h; simp
theorem CgP.of {q a b : Int} (h : a % q = b % q) : CgP q a b := (CgP.mod q a).symm.trans (h ▸ CgP.mod q b)

/-- s + c g, as many coefficients as s. -/
def axpy (q : Int) : List Int → Int → List Int → List Int
  | a :: s, c, b :: g => (a + c * b) % q :: axpy q s c g
  | s, _, _ => s
theorem axpy_nil (q : Int) (s : List Int) (c : Int) : axpy q s c [] = s := by cases s <;> rfl
theorem axpy_length (q c : Int) : ∀ s g : List Int, (axpy q s c g).length = s.length
  | [], _ => by simp [axpy]
  | _ :: _, [] => by simp [axpy]
  | a :: s, b :: g => by simp [axpy, axpy_length q c s g]
theorem axpy_ev {q c x : Int} : ∀ s g : List Int, g.length ≤ s.length → CgP q (evp x (axpy q s c g)) (evp x s + c * evp x g)
  | s, [], _ => by rw [axpy_nil]; simp [evp]; exact CgP.refl _ _
  | [], _ :: _, h => by simp at h
  | a :: s, b :: g, h => by
    have ih := axpy_ev (q := q) (c := c) (x := x) s g (by simpa using h)
    simp only [axpy, evp]
    refine ((ih.mul (CgP.refl q x)).add (CgP.mod q (a + c * b))).trans ?_
    exact ⟨0, by grind⟩
theorem axpy_res {q c : Int} (hq : 0 < q) : ∀ s g : List Int, (∀ z ∈ s, 0 ≤ z ∧ z < q) → ∀ z ∈ axpy q s c g, 0 ≤ z ∧ z < q
  | s, [], h => by rw [axpy_nil]; exact h
  | [], _ :: _, h => by simp [axpy]
  | a :: s, b :: g, h => by
    intro z hz
    simp only [axpy, List.mem_cons] at hz
    rcases hz with rfl | hz
    · exact ⟨Int.emod_nonneg _ (by omega), Int.emod_lt_of_pos _ hq⟩
    · exact axpy_res hq s g (fun z hz => h z (by simp [hz])) z hz
/-- Where a loop over g stands after k elements, and its next one. -/
theorem axpy_get {q c : Int} : ∀ (s g : List Int) (k : Nat), k < s.length → (axpy q s c (g.take k))[k]? = s[k]?
  | [], _, _, h => by simp at h
  | a :: s, g, 0, _ => by simp [axpy]
  | a :: s, [], k + 1, _ => by simp [axpy]
  | a :: s, b :: g, k + 1, h => by
    simp only [List.take_succ_cons, axpy, List.getElem?_cons_succ]
    exact axpy_get s g k (by simpa using h)
theorem axpy_step {q c : Int} : ∀ (s g : List Int) (k : Nat) (a b : Int), s[k]? = some a → g[k]? = some b → (axpy q s c (g.take k)).set k ((a + c * b) % q) = axpy q s c (g.take (k + 1))
  | [], _, _, _, _, h, _ => by simp at h
  | _ :: _, [], _, _, _, _, h => by simp at h
  | a' :: s, b' :: g, 0, a, b, h, h' => by
    simp only [List.getElem?_cons_zero, Option.some.injEq] at h h'
    subst h h'
    simp [axpy, axpy_nil]
  | a' :: s, b' :: g, k + 1, a, b, h, h' => by
    simp only [List.getElem?_cons_succ] at h h'
    simp only [List.take_succ_cons, axpy, List.set_cons_succ]
    rw [axpy_step s g k a b h h']

theorem ev_append (x : Int) : ∀ a b : List Int, evp x (a ++ b) = evp x a + x ^ a.length * evp x b
  | [], b => by simp [evp]
  | c :: a, b => by
    simp only [List.cons_append, evp, ev_append x a b, List.length_cons]
    grind
theorem evp_zeros (x : Int) : ∀ n : Nat, evp x (List.replicate n 0) = 0
  | 0 => rfl
  | n + 1 => by rw [List.replicate_succ, evp, evp_zeros x n]; simp
theorem zeros_res {q : Int} (hq : 0 < q) (n : Nat) : ∀ z ∈ List.replicate n (0 : Int), 0 ≤ z ∧ z < q := by
  intro z hz; rw [List.eq_of_mem_replicate hz]; exact ⟨Int.le_refl _, hq⟩

/-- The sum. -/
def pAdd (q : Int) (f g : List Int) : List Int := axpy q (f ++ List.replicate (max f.length g.length - f.length) 0) 1 g
theorem pAdd_length (q : Int) (f g : List Int) : (pAdd q f g).length = max f.length g.length := by simp [pAdd, axpy_length]; omega
theorem pAdd_ev {q x : Int} (f g : List Int) : CgP q (evp x (pAdd q f g)) (evp x f + evp x g) := by
  unfold pAdd
  refine (axpy_ev _ _ (by simp; omega)).trans ?_
  rw [ev_append, evp_zeros]; exact ⟨0, by grind⟩
theorem pAdd_res {q : Int} (hq : 0 < q) {f g : List Int} (hf : ∀ z ∈ f, 0 ≤ z ∧ z < q) : ∀ z ∈ pAdd q f g, 0 ≤ z ∧ z < q := by
  unfold pAdd
  refine axpy_res hq _ _ fun z hz => ?_
  rcases List.mem_append.1 hz with h | h
  · exact hf z h
  · exact zeros_res hq _ z h

/-- The product: one row of g after another is added. -/
def pmFrom (q : Int) (g : List Int) : Nat → List Int → List Int → List Int
  | _, [], P => P
  | i, c :: f, P => pmFrom q g (i + 1) f (P.take i ++ axpy q (P.drop i) c g)
def pMul (q : Int) (f g : List Int) : List Int := pmFrom q g 0 f (List.replicate (f.length + g.length - 1) 0)
theorem row_length {q c : Int} (g P : List Int) (i : Nat) : (P.take i ++ axpy q (P.drop i) c g).length = P.length := by
  simp [axpy_length]; omega
theorem mulFrom_length (q : Int) (g : List Int) : ∀ (f : List Int) (i : Nat) (P : List Int), (pmFrom q g i f P).length = P.length
  | [], _, _ => rfl
  | c :: f, i, P => by rw [pmFrom, mulFrom_length q g f, row_length]
theorem mulFrom_res {q : Int} (hq : 0 < q) (g : List Int) : ∀ (f : List Int) (i : Nat) (P : List Int), (∀ z ∈ P, 0 ≤ z ∧ z < q) → ∀ z ∈ pmFrom q g i f P, 0 ≤ z ∧ z < q
  | [], _, _, h => h
  | c :: f, i, P, h => by
    rw [pmFrom]
    refine mulFrom_res hq g f (i + 1) _ fun z hz => ?_
    rcases List.mem_append.1 hz with h' | h'
    · exact h z (List.mem_of_mem_take h')
    · exact axpy_res hq _ _ (fun z hz => h z (List.mem_of_mem_drop hz)) z h'
theorem mulFrom_ev {q x : Int} (g : List Int) : ∀ (f : List Int) (i : Nat) (P : List Int), i + f.length + g.length ≤ P.length + 1 → CgP q (evp x (pmFrom q g i f P)) (evp x P + x ^ i * (evp x f * evp x g))
  | [], i, P, _ => ⟨0, by simp [pmFrom, evp]⟩
  | c :: f, i, P, h => by
    simp only [List.length_cons] at h
    rw [pmFrom]
    refine (mulFrom_ev g f (i + 1) _ (by rw [row_length]; omega)).trans ?_
    have h1 := axpy_ev (q := q) (c := c) (x := x) (P.drop i) g (by simp; omega)
    have e1 : evp x P = evp x (P.take i) + x ^ i * evp x (P.drop i) := by
      have := ev_append x (P.take i) (P.drop i)
      rwa [List.take_append_drop, List.length_take, Nat.min_eq_left (by omega)] at this
    rw [ev_append, List.length_take, Nat.min_eq_left (by omega), e1]
    refine (((CgP.refl q _).add ((CgP.refl q (x ^ i)).mul h1)).add (CgP.refl q _)).trans ?_
    refine ⟨0, ?_⟩
    simp only [evp]
    grind
theorem pMul_length (q : Int) (f g : List Int) : (pMul q f g).length = f.length + g.length - 1 := by simp [pMul, mulFrom_length]
theorem pMul_res {q : Int} (hq : 0 < q) (f g : List Int) : ∀ z ∈ pMul q f g, 0 ≤ z ∧ z < q := mulFrom_res hq _ _ _ _ (zeros_res hq _)
theorem pMul_ev {q x : Int} (f g : List Int) (hg : g ≠ []) : CgP q (evp x (pMul q f g)) (evp x f * evp x g) := by
  have hl : 1 ≤ g.length := by cases g with | nil => exact absurd rfl hg | cons => simp
  refine (mulFrom_ev g f 0 _ (by simp; omega)).trans ?_
  rw [evp_zeros]; exact ⟨0, by grind⟩

/-- The product with a constant. -/
theorem axpy_drop {q c : Int} : ∀ (s a b : List Int), a.length ≤ s.length → (axpy q s c (a ++ b)).drop a.length = axpy q (s.drop a.length) c b
  | s, [], b, _ => by simp
  | [], _ :: _, _, h => by simp at h
  | z :: s, y :: a, b, h => by
    simp only [List.cons_append, axpy, List.length_cons, List.drop_succ_cons]
    exact axpy_drop s a b (by simpa using h)
theorem mulFrom_one {q c : Int} : ∀ (f : List Int) (i : Nat) (P : List Int), P.length = i + f.length → P.drop i = List.replicate f.length 0 → pmFrom q [c] i f P = P.take i ++ f.map fun z => z * c % q
  | [], i, P, h, _ => by simp [pmFrom]; rw [List.take_of_length_le (by simp at h; omega)]
  | z :: f, i, P, h, hz => by
    have hd : P.drop i = 0 :: P.drop (i + 1) := by
      rw [List.drop_eq_getElem_cons (by simp at h; omega)] at hz ⊢
      rw [List.length_cons, List.replicate_succ] at hz
      rw [(List.cons.inj hz).1]
    have hz' : P.drop (i + 1) = List.replicate f.length 0 := by
      rw [hd, List.length_cons, List.replicate_succ] at hz
      exact (List.cons.inj hz).2
    simp only [List.length_cons] at h
    rw [pmFrom, hd, axpy, axpy_nil]
    have hl : (P.take i).length = i := by simp; omega
    rw [mulFrom_one f (i + 1) _ (by simp; omega) ?_]
    · rw [show P.take i ++ (0 + z * c) % q :: P.drop (i + 1) = (P.take i ++ [(0 + z * c) % q]) ++ P.drop (i + 1) by simp]
      rw [List.take_append_of_le_length (by simp; omega), List.take_of_length_le (by simp; omega)]
      simp
    · rw [show P.take i ++ (0 + z * c) % q :: P.drop (i + 1) = (P.take i ++ [(0 + z * c) % q]) ++ P.drop (i + 1) by simp]
      rw [List.drop_append_of_le_length (by simp; omega), List.drop_of_length_le (by simp; omega), hz']
      simp
theorem pMul_one {q c : Int} (f : List Int) : pMul q f [c] = f.map fun z => z * c % q := by
  unfold pMul
  rw [mulFrom_one f 0 _ (by simp) (by simp)]; simp
theorem axpy_map {q c : Int} : ∀ s f : List Int, axpy q s 1 (f.map fun z => z * c % q) = axpy q s c f
  | s, [] => by simp [axpy_nil]
  | [], _ :: _ => rfl
  | a :: s, b :: f => by
    simp only [List.map_cons, axpy, axpy_map s f]
    congr 1
    rw [Int.one_mul, Int.mul_comm b c]; simp
theorem pAdd_axpy {q c : Int} {s f : List Int} (h : f.length = s.length) : pAdd q s (pMul q f [c]) = axpy q s c f := by
  unfold pAdd
  rw [pMul_one, axpy_map]
  congr 1
  simp [h]

/-- The leading coefficient of a product. -/
theorem mulFrom_last {q a b : Int} (g : List Int) : ∀ (f : List Int) (i : Nat) (P : List Int), P.length = i + f.length + 1 + g.length → P.drop (i + g.length) = List.replicate (f.length + 1) 0 →
    (pmFrom q (g ++ [b]) i (f ++ [a]) P).drop (i + f.length + g.length) = [(a * b) % q]
  | [], i, P, h, hz => by
    simp only [List.nil_append, pmFrom, List.length_nil, Nat.add_zero] at h hz ⊢
    have hl : (P.take i).length = i := by simp; omega
    rw [List.drop_append, hl, List.drop_of_length_le (by omega), List.nil_append, Nat.add_sub_cancel_left]
    rw [axpy_drop _ _ _ (by simp; omega), List.drop_drop, hz]
    simp [axpy]
  | c :: f, i, P, h, hz => by
    simp only [List.length_cons] at h hz ⊢
    rw [List.cons_append, pmFrom]
    have hl : (P.take i).length = i := by simp; omega
    have := mulFrom_last (q := q) (a := a) (b := b) g f (i + 1) (P.take i ++ axpy q (P.drop i) c (g ++ [b])) (by rw [row_length]; omega) ?_
    · rw [show i + (f.length + 1) + g.length = i + 1 + f.length + g.length by omega]; exact this
    · rw [List.drop_append, hl, List.drop_of_length_le (by omega), List.nil_append, show i + 1 + g.length - i = (g ++ [b]).length by simp; omega]
      have e := axpy_drop (q := q) (c := c) (P.drop i) (g ++ [b]) [] (by simp; omega)
      rw [List.append_nil] at e
      rw [e, axpy_nil, List.drop_drop, List.length_append, List.length_singleton, ← Nat.add_assoc, ← List.drop_drop, hz]
      simp

/-- The polynomial with given roots. -/
def pRoots (q : Int) (rs : List Int) : List Int := rs.foldl (fun P r => pMul q P [(-r) % q, 1]) [1]
def rootsFrom (q : Int) (P : List Int) (rs : List Int) : List Int := rs.foldl (fun P r => pMul q P [(-r) % q, 1]) P
theorem rootsFrom_length (q : Int) : ∀ (rs P : List Int), (rootsFrom q P rs).length = P.length + rs.length
  | [], _ => rfl
  | r :: rs, P => by
    show (rootsFrom q (pMul q P [(-r) % q, 1]) rs).length = _
    rw [rootsFrom_length q rs, pMul_length]; simp; omega
theorem rootsFrom_res {q : Int} (hq : 0 < q) : ∀ (rs P : List Int), (∀ z ∈ P, 0 ≤ z ∧ z < q) → ∀ z ∈ rootsFrom q P rs, 0 ≤ z ∧ z < q
  | [], _, h => h
  | _ :: rs, _, _ => rootsFrom_res hq rs _ (pMul_res hq _ _)
theorem pRoots_length (q : Int) (rs : List Int) : (pRoots q rs).length = rs.length + 1 := by
  show (rootsFrom q [1] rs).length = _
  rw [rootsFrom_length]; simp; omega
theorem pRoots_res {q : Int} (hq : 1 < q) (rs : List Int) : ∀ z ∈ pRoots q rs, 0 ≤ z ∧ z < q :=
  rootsFrom_res (by omega) rs [1] (by intro z hz; simp at hz; omega)

/-- The product of the differences. -/
def facFrom (q x : Int) (acc : Int) (rs : List Int) : Int := rs.foldl (fun p r => p * ((x - r) % q) % q) acc
def fac (q x : Int) (rs : List Int) : Int := facFrom q x 1 rs
theorem facFrom_range {q x : Int} (hq : 0 < q) : ∀ (rs : List Int) (acc : Int), 0 ≤ acc → acc < q → 0 ≤ facFrom q x acc rs ∧ facFrom q x acc rs < q
  | [], acc, h0, h1 => ⟨h0, h1⟩
  | r :: rs, acc, _, _ => facFrom_range hq rs _ (Int.emod_nonneg _ (by omega)) (Int.emod_lt_of_pos _ hq)
theorem fac_range {q x : Int} (hq : 1 < q) (rs : List Int) : 0 ≤ fac q x rs ∧ fac q x rs < q := facFrom_range (by omega) rs 1 (by omega) (by omega)
theorem rootsFrom_ev {q x : Int} : ∀ (rs P : List Int) (acc : Int), CgP q (evp x P) acc → CgP q (evp x (rootsFrom q P rs)) (facFrom q x acc rs)
  | [], P, acc, h => h
  | r :: rs, P, acc, h => by
    refine rootsFrom_ev rs (pMul q P [(-r) % q, 1]) _ ?_
    refine (pMul_ev P _ (by simp)).trans ?_
    have e : CgP q (evp x [(-r) % q, 1]) (x - r) := by
      simp only [evp]
      exact ((CgP.refl q _).add (CgP.mod q (-r))).trans ⟨0, by grind⟩
    exact (h.mul (e.trans (CgP.mod q (x - r)).symm)).trans (CgP.mod q _).symm
theorem pRoots_pev {q x : Int} (hq : 1 < q) (rs : List Int) : pev q x (pRoots q rs) = fac q x rs := by
  have h := rootsFrom_ev (q := q) (x := x) rs [1] 1 (by simp [evp]; exact CgP.refl _ _)
  obtain ⟨h0, h1⟩ := fac_range (x := x) hq rs
  rw [pev_ev, ← Int.emod_eq_of_lt h0 h1]
  exact h.eq

theorem facFrom_zero {q x : Int} : ∀ (rs : List Int), facFrom q x 0 rs = 0
  | [] => rfl
  | r :: rs => by show facFrom q x (0 * ((x - r) % q) % q) rs = 0; rw [Int.zero_mul, Int.zero_emod]; exact facFrom_zero rs
theorem fac_root {q x : Int} : ∀ (rs : List Int) (acc : Int), x ∈ rs → facFrom q x acc rs = 0
  | [], _, h => by simp at h
  | r :: rs, acc, h => by
    show facFrom q x (acc * ((x - r) % q) % q) rs = 0
    rcases List.mem_cons.1 h with rfl | h
    · rw [Int.sub_self, Int.zero_emod, Int.mul_zero, Int.zero_emod, facFrom_zero]
    · exact fac_root rs _ h

theorem isPr_num {n : Int} (h : isPr n = true) : 2 ≤ n ∧ n ≤ 2000000000 ∧ Num.prB n = true := by
  simp only [isPr, Bool.and_eq_true] at h
  obtain ⟨h1, h2⟩ := h
  obtain ⟨_, h4⟩ := inB_true.1 h1
  refine ⟨?_, h4, h2⟩
  rcases Int.lt_or_le n 2 with h3 | h3
  · rw [prB_small h3] at h2; cases h2
  · exact h3
/-- In a field a product without zeros is not zero. -/
theorem mul_ne {q a b : Int} (hq : isPr q = true) (ha0 : 0 < a) (ha : a < q) (hb0 : 0 < b) (hb : b < q) : 0 < a * b % q := by
  obtain ⟨h2, h3, h4⟩ := isPr_num hq
  obtain ⟨q, rfl⟩ := Int.eq_ofNat_of_zero_le (show 0 ≤ q by omega)
  obtain ⟨a, rfl⟩ := Int.eq_ofNat_of_zero_le (show 0 ≤ a by omega)
  obtain ⟨b, rfl⟩ := Int.eq_ofNat_of_zero_le (show 0 ≤ b by omega)
  have hp : Num.Pr q := by
    have : Num.tri q 2 = true := by simp [Num.prB] at h4; exact h4.2
    exact (Num.tri_prime (by omega)).1 this
  have hne : ¬ a * b % q = 0 := by
    intro h
    rcases hp.dvd_mul (Nat.dvd_of_mod_eq_zero h) with h' | h'
    · have := Nat.le_of_dvd (by omega) h'; omega
    · have := Nat.le_of_dvd (by omega) h'; omega
  have : 0 < a * b % q := Nat.pos_of_ne_zero hne
  exact_mod_cast this
theorem sub_ne {q x r : Int} (hx0 : 0 ≤ x) (hx : x < q) (hr0 : 0 ≤ r) (hr : r < q) (hne : x ≠ r) : 0 < (x - r) % q ∧ (x - r) % q < q := by
  refine ⟨?_, Int.emod_lt_of_pos _ (by omega)⟩
  rcases Int.lt_or_lt_of_ne hne with h | h
  · have e : (x - r) % q = x - r + q := by
      rw [← Int.add_emod_right]; exact Int.emod_eq_of_lt (by omega) (by omega)
    omega
  · rw [Int.emod_eq_of_lt (by omega) (by omega)]; omega
theorem fac_ne {q x : Int} (hq : isPr q = true) (hx0 : 0 ≤ x) (hx : x < q) : ∀ (rs : List Int) (acc : Int), (∀ r ∈ rs, 0 ≤ r ∧ r < q) → x ∉ rs → 0 < acc → acc < q → 0 < facFrom q x acc rs
  | [], acc, _, _, h, _ => h
  | r :: rs, acc, hr, hn, h0, h1 => by
    have hr' := hr r (by simp)
    have hs := sub_ne hx0 hx hr'.1 hr'.2 (by rintro rfl; exact hn (by simp))
    exact fac_ne hq hx0 hx rs _ (fun z hz => hr z (by simp [hz])) (fun h => hn (by simp [h])) (mul_ne hq h0 h1 hs.1 hs.2) (Int.emod_lt_of_pos _ (by omega))
theorem invOk_pr {q b : Int} (hq : isPr q = true) (h0 : 0 < b) (h1 : b < q) : Num.invOk b q = true := by
  obtain ⟨h2, h3, h4⟩ := isPr_num hq
  obtain ⟨q, rfl⟩ := Int.eq_ofNat_of_zero_le (show 0 ≤ q by omega)
  obtain ⟨b, rfl⟩ := Int.eq_ofNat_of_zero_le (show 0 ≤ b by omega)
  have hp : Num.Pr q := by
    have : Num.tri q 2 = true := by simp [Num.prB] at h4; exact h4.2
    exact (Num.tri_prime (by omega)).1 this
  exact Num.invOk_prime hp (by omega) (by omega)

/-- The degree. -/
def dg : List Int → Int
  | [] => -1
  | c :: f => if 0 ≤ dg f then dg f + 1 else if c = 0 then -1 else 0
theorem dg_zeros : ∀ f : List Int, (∀ z ∈ f, z = 0) → dg f = -1
  | [], _ => rfl
  | c :: f, h => by rw [dg, dg_zeros f (fun z hz => h z (by simp [hz])), h c (by simp)]; rfl
theorem dg_at : ∀ (f : List Int) (k : Nat) (c : Int) (rest : List Int), f.drop k = c :: rest → c ≠ 0 → (∀ z ∈ rest, z = 0) → dg f = k
  | [], k, c, rest, h, _, _ => by simp at h
  | d :: f, 0, c, rest, h, hc, hr => by
    simp only [List.drop_zero, List.cons.injEq] at h
    obtain ⟨rfl, rfl⟩ := h
    rw [dg, dg_zeros f hr, if_neg hc]; rfl
  | d :: f, k + 1, c, rest, h, hc, hr => by
    rw [List.drop_succ_cons] at h
    rw [dg, dg_at f k c rest h hc hr, if_pos (by omega)]; omega
theorem dg_range : ∀ f : List Int, -1 ≤ dg f ∧ dg f < f.length
  | [] => by simp [dg]
  | c :: f => by
    have := dg_range f
    rw [dg]; simp only [List.length_cons]
    split
    · omega
    · split <;> omega
theorem rootsFrom_lead {q : Int} (hq : 1 < q) : ∀ (rs P : List Int), (rootsFrom q (P ++ [1]) rs).drop (P.length + rs.length) = [1]
  | [], P => by simp [rootsFrom]
  | r :: rs, P => by
    show (rootsFrom q (pMul q (P ++ [1]) [(-r) % q, 1]) rs).drop _ = _
    have h := mulFrom_last (q := q) (a := 1) (b := 1) [(-r) % q] P 0 (List.replicate ((P ++ [1]).length + 2 - 1) 0) (by simp) (by simp)
    rw [Int.one_mul, Int.emod_eq_of_lt (show (0 : Int) ≤ 1 by decide) (show (1 : Int) < q by omega)] at h
    have e : pMul q (P ++ [1]) [(-r) % q, 1] = (pMul q (P ++ [1]) [(-r) % q, 1]).take (P.length + 1) ++ [1] := by
      conv => lhs; rw [← List.take_append_drop (P.length + 1) (pMul q (P ++ [1]) [(-r) % q, 1])]
      congr 1
      refine Eq.trans ?_ h; unfold pMul; simp
    rw [e]
    have hl : ((pMul q (P ++ [1]) [(-r) % q, 1]).take (P.length + 1)).length = P.length + 1 := by simp [pMul_length]
    have := rootsFrom_lead hq rs ((pMul q (P ++ [1]) [(-r) % q, 1]).take (P.length + 1))
    rw [hl] at this
    refine Eq.trans ?_ this
    congr 1; simp; omega
theorem pRoots_dg {q : Int} (hq : 1 < q) (rs : List Int) : dg (pRoots q rs) = rs.length := by
  have h := rootsFrom_lead hq rs []
  simp only [List.nil_append, List.length_nil, Nat.zero_add] at h
  exact dg_at _ _ 1 [] h (by decide) (by simp)

end Go.Proofs.YtchlnkdlnfjijaaGreat

/- Fields, lists of residues, differences and quotients; a multiple of a polynomial is added to another, in place. -/
namespace Go.Proofs.YtchlnkdlnfjijaaGreat
open Go.RowKit

/-- What a row of a variadic argument is: where it lies, its capacity, what it reads as. -/
abbrev RowD := Option Addr × Nat × List Int
def AreRows (w : World) (b off : Nat) (rows : List RowD) : Prop :=
  ∀ k r, rows[k]? = some r → w.cell? ⟨b, off + k, none⟩ = some (.slice r.1 r.2.2.length r.2.1) ∧ IsInts w r.1 r.2.2
theorem AreRows.at {w : World} {b off : Nat} {rows : List RowD} (h : AreRows w b off rows) {k : Nat} (hk : k < rows.length) :
    ∃ ad cap zs, w.cell? ⟨b, off + k, none⟩ = some (.slice ad zs.length cap) ∧ IsInts w ad zs ∧ rows.drop k = (ad, cap, zs) :: rows.drop (k + 1) := by
  obtain ⟨h1, h2⟩ := h k rows[k] (by simp [hk])
  exact ⟨_, _, _, h1, h2, by rw [List.drop_eq_getElem_cons hk]⟩
theorem rows_one (w : World) (ad : Option Addr) (n cap : Nat) (zs : List Int) (hn : zs.length = n) (t : TypeId) (hz : IsInts w ad zs) : AreRows (w.alloc (.cells #[.slice ad n cap] t)) w.heap.size 0 [(ad, cap, zs)] := by
  intro k r h
  match k with
  | 0 =>
    simp only [List.getElem?_cons_zero, Option.some.injEq] at h
    subst h; subst hn
    exact ⟨World.cell?_alloc_at _ _ _ _ rfl, hz.below ((Below.refl _ _).alloc (Nat.le_refl _) _) (Nat.le_refl _)⟩
  | k + 1 => simp at h
theorem rows_two (w : World) (ad ad' : Option Addr) (n n' cap cap' : Nat) (zs zs' : List Int) (hn : zs.length = n) (hn' : zs'.length = n') (t : TypeId) (hz : IsInts w ad zs) (hz' : IsInts w ad' zs') :
    AreRows (w.alloc (.cells #[.slice ad n cap, .slice ad' n' cap'] t)) w.heap.size 0 [(ad, cap, zs), (ad', cap', zs')] := by
  intro k r h
  match k with
  | 0 =>
    simp only [List.getElem?_cons_zero, Option.some.injEq] at h
    subst h; subst hn
    exact ⟨World.cell?_alloc_at _ _ _ _ rfl, hz.below ((Below.refl _ _).alloc (Nat.le_refl _) _) (Nat.le_refl _)⟩
  | 1 =>
    simp only [List.getElem?_cons_succ, List.getElem?_cons_zero, Option.some.injEq] at h
    subst h; subst hn'
    exact ⟨World.cell?_alloc_at _ _ _ _ rfl, hz'.below ((Below.refl _ _).alloc (Nat.le_refl _) _) (Nat.le_refl _)⟩
  | k + 2 => simp at h

theorem mem_drop' {α : Type} {zs rest : List α} {z : α} {k : Nat} (h : zs.drop k = z :: rest) : z ∈ zs :=
  List.mem_of_mem_drop (i := k) (by rw [h]; exact List.mem_cons_self)

/-- A list of at most 24 residues. -/
def shortB (zs : List Int) (q : Int) : Bool := decide (zs.length ≤ 24) && listB zs q
def fieldB (q : Int) (rows : List (List Int)) : Bool := isPr q && rows.all fun zs => shortB zs q
theorem rowAll_step {p : List Int → Bool} {rows rest : List RowD} {r : RowD} {k : Nat} {t : Bool} (h : rows.drop k = r :: rest) (hb : t = ((rows.drop k).all fun r => p r.2.2)) :
    (p r.2.2 = true → t = rest.all fun r => p r.2.2) ∧ (p r.2.2 = false → t = false) := by
  rw [hb, h]; simp only [List.all_cons]
  exact ⟨fun h => by rw [h]; simp, fun h => by rw [h]; simp⟩
theorem short_list {zs : List Int} {q : Int} (h : zs.length ≤ 24) : shortB zs q = listB zs q := by simp [shortB, h]
theorem short_long {zs : List Int} {q : Int} (h : ¬ zs.length ≤ 24) : shortB zs q = false := by simp [shortB, h]
theorem shortB_of {zs : List Int} {q : Int} (h : shortB zs q = true) : 2 ≤ q ∧ q ≤ 2000000000 ∧ zs.length ≤ 24 ∧ ∀ z ∈ zs, 0 ≤ z ∧ z < q := by
  unfold shortB at h
  simp only [Bool.and_eq_true, decide_eq_true_eq] at h
  obtain ⟨a, b, _, d⟩ := res_of_list h.2
  exact ⟨a, b, h.1, d⟩
theorem short_of {zs : List Int} {q : Int} (h2 : 2 ≤ q) (h3 : q ≤ 2000000000) (hl : zs.length ≤ 24) (hr : ∀ z ∈ zs, 0 ≤ z ∧ z < q) : shortB zs q = true := by
  rw [short_list hl]; exact listB_of h2 h3 (by omega) hr

theorem subtract_any (q a b : Int) (h2 : 2 ≤ q) (h3 : q ≤ 2000000000) (ha0 : 0 ≤ a) (ha : a < q) (hb0 : 0 ≤ b) (hb : b < q) (w : World) :
    Calls Tryz.prog 146 #[.int .i64 q, .int .i64 a, .int .i64 b] w fun e w' => e = .returned (.int .i64 ((a - b) % q)) ∧ w = w' := by
  go_enter Tryz.func146, Tryz.ntmps146
  go_wp2
  go_ret
  refine ⟨?_, rfl⟩
  show Ending.returned (.int .i64 ((a - b + q) % q)) = _
  rw [Int.add_emod_right]

theorem mul_res {q a b : Int} (h3 : q ≤ 2000000000) (ha0 : 0 ≤ a) (ha : a < q) (hb0 : 0 ≤ b) (hb : b < q) : 0 ≤ a * b ∧ a * b ≤ 4000000000000000000 := prod_bound ⟨ha0, ha⟩ ⟨hb0, hb⟩ h3

theorem divide_any (q a b : Int) (h2 : 2 ≤ q) (h3 : q ≤ 2000000000) (ha0 : 0 ≤ a) (ha : a < q) (hb0 : 0 ≤ b) (hb : b < q) (hok : Num.invOk b q = true) (w : World) :
    Calls Tryz.prog 143 #[.int .i64 q, .int .i64 a, .int .i64 b] w fun e w' => e = .returned (.int .i64 (a * Num.inv b q % q)) ∧ w = w' := by
  obtain ⟨_, i0, i1⟩ := inv_res ⟨hb0, hb⟩ h2 hok
  obtain ⟨p0, p1⟩ := mul_res h3 ha0 ha i0 i1
  have HK := Lib.hid hok
  clear hok
  go_enter Tryz.func143, Tryz.ntmps143
  go_wp2_with fail
  refine (invert_any _ _ (by omega) (by omega) (by omega) _).mono ?_; rintro e w' ⟨rfl, rfl⟩; rw [HK.out]
  go_wp2
  go_ret
  exact ⟨rfl, rfl⟩

/-- What a row of one's own reads as, and that it may be written. -/
theorem own_at {wr : World} {B g n cap j : Nat} {zs : List Int} (hown : wr.ownsRow B 3 1 (.slice (some ⟨g, 0, none⟩) n cap) n (zs.map (Value.int .i64))) (hj : j < n) {z : Int} (hz : zs[j]? = some z) :
    wr.cell? ⟨g, j, none⟩ = some (.int .i64 z) ∧ wr.frozen? ⟨g, j, none⟩ = false := by
  refine ⟨?_, hown.frozenAt j⟩
  rw [hown.cellAt j (by omega)]
  simp [hz]
theorem own_set {wr : World} {B g n cap j : Nat} {zs : List Int} (hown : wr.ownsRow B 3 1 (.slice (some ⟨g, 0, none⟩) n cap) n (zs.map (Value.int .i64))) (z : Int) :
    (wr.setCell ⟨g, j, none⟩ (.int .i64 z)).ownsRow B 3 1 (.slice (some ⟨g, 0, none⟩) n cap) n ((zs.set j z).map (Value.int .i64)) := by
  have := (hown.stored j (.int .i64 z)).1
  rwa [← List.map_set] at this
/-- Where the row stands after k rounds. -/
def rowAt (q c : Int) (P gs : List Int) (off k : Nat) : List Int := P.take off ++ axpy q (P.drop off) c (gs.take k)
theorem rowAt_get {q c : Int} {P gs : List Int} {off k : Nat} (hk : off + k < P.length) : (rowAt q c P gs off k)[off + k]? = P[off + k]? := by
  unfold rowAt
  rw [List.getElem?_append_right (by simp; omega)]
  have : off + k - (P.take off).length = k := by simp; omega
  rw [this, axpy_get _ _ _ (by simp; omega), List.getElem?_drop]
theorem rowAt_step {q c a b : Int} {P gs rest : List Int} {off k : Nat} (hk : off + k < P.length) (ha : P[off + k]? = some a) (hb : gs.drop k = b :: rest) : (rowAt q c P gs off k).set (off + k) ((a + c * b) % q) = rowAt q c P gs off (k + 1) := by
  unfold rowAt
  rw [List.set_append_right _ _ (by simp; omega)]
  have : off + k - (P.take off).length = k := by simp; omega
  rw [this, axpy_step _ _ _ a b (by rw [List.getElem?_drop]; exact ha)]
  have h : (gs.drop k)[0]? = some b := by rw [hb]; rfl
  rwa [List.getElem?_drop, Nat.add_zero] at h
theorem rowAt_zero (q c : Int) (P gs : List Int) (off : Nat) : rowAt q c P gs off 0 = P := by
  unfold rowAt; rw [List.take_zero, axpy_nil, List.take_append_drop]
theorem rowAt_all {q c : Int} {P gs : List Int} {off k : Nat} (h : gs.length ≤ k) : rowAt q c P gs off k = P.take off ++ axpy q (P.drop off) c gs := by
  unfold rowAt; rw [List.take_of_length_le h]

theorem ints_lt {w : World} {ad : Option Addr} {zs : List Int} (h : IsInts w ad zs) (h0 : zs ≠ []) : ∀ a, ad = some a → a.block < w.heap.size := by
  rcases h with h | ⟨b, off, rfl, hb, _⟩
  · exact absurd h h0
  · rintro a ⟨⟩; exact hb
theorem ints_ne {w : World} {ad : Option Addr} {zs : List Int} {g : Nat} (h : IsInts w ad zs) (hg : w.heap.size ≤ g) : zs ≠ [] → ∀ a, ad = some a → some a.block ≠ some g := by
  intro h0 a ha h'
  have := ints_lt h h0 a ha
  simp only [Option.some.injEq] at h'
  omega
def AddPost (w : World) (B g N C : Nat) (zs : List Int) (e : Ending) (w' : World) : Prop :=
  (∃ v, e = .returned v) ∧ w'.ownsRow B 3 1 (.slice (some ⟨g, 0, none⟩) N C) N (zs.map (Value.int .i64)) ∧ w.grownBy w' (some g)

set_option maxHeartbeats 1600000 in
theorem addMultiple_any (q c : Int) (B g off len cap N C : Nat) (P : List Int) (ad : Option Addr) (n cap' : Nat) (gs : List Int) (h2 : 2 ≤ q) (h3 : q ≤ 2000000000) (hc0 : 0 ≤ c) (hc : c < q)
    (hP : ∀ z ∈ P, 0 ≤ z ∧ z < q) (hg : ∀ z ∈ gs, 0 ≤ z ∧ z < q) (hn : gs.length = n) (hnl : n ≤ len) (hol : off + len ≤ N) (hN : N ≤ 1000000) (w : World)
    (hown : w.ownsRow B 3 1 (.slice (some ⟨g, 0, none⟩) N C) N (P.map (Value.int .i64))) (hz : IsInts w ad gs) (hne : gs ≠ [] → ∀ a, ad = some a → some a.block ≠ some g) :
    Calls Tryz.prog 132 #[.int .i64 q, .slice (some ⟨g, off, none⟩) len cap, .int .i64 c, .slice ad n cap'] w (AddPost w B g N C (P.take off ++ axpy q (P.drop off) c gs)) := by
  have hPl : P.length = N := by have := hown.1; simpa using this
  have HP := Lib.hid hP
  have HG := Lib.hid hg
  have HN := Lib.hid hn
  have HPL := Lib.hid hPl
  have HOW := Lib.hid hown
  clear hP hg hn hPl hown
  go_enter Tryz.func132, Tryz.ntmps132
  go_wp2_with fail
  go_loopw [8, 9, 12] (fun _ _ K wr => ∃ k : Nat, k ≤ n ∧ K = .int .i64 k ∧ wr.ownsRow B 3 1 (.slice (some ⟨g, 0, none⟩) N C) N ((rowAt q c P gs off k).map (Value.int .i64)) ∧ w.grownBy wr (some g)) (fun _ _ K _ => n - (intOf K).toNat)
  case atStart => exact ⟨0, Nat.zero_le _, rfl, by rw [rowAt_zero]; exact HOW.out, grown_of_below (Below.refl _ _) _⟩
  case round =>
    obtain ⟨k, hk, rfl, hownr, hgr⟩ := hrel
    by_cases hkn : k < n
    · obtain ⟨b, o', z, rfl, hb, hcz, hd⟩ := (hz.grown hgr (hne (by intro h; have := HN.out; simp [h] at this; omega))).at (k := k) (by have := HN.out; omega)
      have hok : off + k < P.length := by rw [HPL.out]; omega
      have hpk : P[off + k]? = some P[off + k] := by simp [hok]
      obtain ⟨hcu, hfu⟩ := own_at hownr (j := off + k) (by omega) ((rowAt_get hok).trans hpk)
      have hpr := HP.out P[off + k] (List.getElem_mem hok)
      have hzr := HG.out z (mem_drop hd)
      obtain ⟨m0, m1⟩ := mul_res h3 hc0 hc hzr.1 hzr.2
      have HO := Lib.hid (own_set (j := off + k) hownr ((P[off + k] + c * z) % q))
      have HS := Lib.hid (rowAt_step (q := q) (c := c) hok hpk hd)
      have HGR := Lib.hid hgr
      have HD := Lib.hid hd
      generalize P[off + k] = p at *
      clear hownr hgr hd hpk hok
      go_wp2
      go_roundw
      case rel =>
        refine ⟨k + 1, by omega, by go_num, ?_, grown_trans HGR.out (grown_cell _ _ _)⟩
        have h := HO.out
        rwa [HS.out] at h
      case measure => simp only [intOf]; omega
    · have HO := Lib.hid hownr
      have HGR := Lib.hid hgr
      clear hownr hgr
      go_wp2
      go_end0
      refine ⟨⟨_, rfl⟩, ?_, HGR.out⟩
      have h := HO.out
      rwa [rowAt_all (by have := HN.out; omega)] at h

end Go.Proofs.YtchlnkdlnfjijaaGreat

/- Sums of polynomials. -/
namespace Go.Proofs.YtchlnkdlnfjijaaGreat
open Go.RowKit

theorem Tryz.sizeI : (Tryz.prog.info? 3).map (·.size) = some 1 := by kernel_rfl

/-- A row of one's own whose length is its capacity: the whole block. -/
theorem row_full {w : World} {B g n : Nat} {zs : List Int} (h : w.ownsRow B 3 1 (.slice (some ⟨g, 0, none⟩) n n) n (zs.map (Value.int .i64))) :
    w.heap[g]? = some (.cells (zs.map (Value.int .i64)).toArray 3 (0, 0)) ∧ B ≤ g ∧ zs.length = n := by
  have hn : zs.length = n := by have := h.1; simpa using this
  rcases h.2 with ⟨h1, _⟩ | ⟨g', cap', cur, h1, h2, h3, _, _, h6, h7⟩
  · cases h1
  · simp only [Value.slice.injEq, Option.some.injEq, Addr.mk.injEq, and_true, true_and] at h1
    obtain ⟨rfl, rfl⟩ := h1
    refine ⟨?_, h2, hn⟩
    rw [Nat.mul_one] at h6 h7
    rw [List.take_of_length_le (by simp [h6])] at h7
    rw [h3, ← h7]
theorem row_mk {w : World} {B g n : Nat} {zs : List Int} (h : w.heap[g]? = some (.cells (zs.map (Value.int .i64)).toArray 3 (0, 0))) (hB : B ≤ g) (hn : zs.length = n) (hl : n ≤ 1000000) :
    w.ownsRow B 3 1 (.slice (some ⟨g, 0, none⟩) n n) n (zs.map (Value.int .i64)) := by
  refine ⟨by simp [hn], .inr ⟨g, n, _, rfl, hB, h, Nat.le_refl _, by unfold maxLen; omega, by simp [hn], ?_⟩⟩
  rw [List.take_of_length_le (by simp [hn])]
theorem made_zeros {w : World} {B g n : Nat} (h : w.ownsRow B 3 1 (.slice (some ⟨g, 0, none⟩) n n) n (madeCells (Value.cells (.int .i64 0)) (n * 1)).toList) :
    w.ownsRow B 3 1 (.slice (some ⟨g, 0, none⟩) n n) n ((List.replicate n (0 : Int)).map (Value.int .i64)) := by
  rw [show Value.cells (.int .i64 0) = #[.int .i64 0] from rfl, Nat.mul_one, toList_madeCells_one] at h
  simpa using h
theorem ints_copy {w : World} {ad : Option Addr} {zs : List Int} (h : IsInts w ad zs) {cs : List Value} (hc : cs = zs.map (Value.int .i64)) (h0 : 0 < cs.length) :
    ∃ a, ad = some a ∧ ∀ j v, cs[j]? = some v → w.cell? (a.add j) = some v := by
  subst hc
  rcases h with rfl | ⟨b, off, rfl, _, hcell⟩
  · simp at h0
  · refine ⟨_, rfl, fun j v hv => ?_⟩
    rw [List.getElem?_map] at hv
    have hj : j < zs.length := by
      rcases Nat.lt_or_ge j zs.length with h | h
      · exact h
      · rw [List.getElem?_eq_none h] at hv; cases hv
    have := hcell j hj
    simp only [hj, List.getElem?_eq_getElem, Option.map_some, Option.some.injEq] at hv
    have e : Addr.add ⟨b, off, none⟩ j = ⟨b, off + j, none⟩ := by simp [Addr.add]
    rw [e, this, ← hv]
    simp [hj]
theorem ints_one {zs : List Int} : ∀ v ∈ zs.map (Value.int .i64), v.oneCell' = true := by
  intro v hv; obtain ⟨z, _, rfl⟩ := List.mem_map.1 hv; rfl

theorem splice_fill {N : Nat} {fs : List Int} : splice ((List.replicate N (0 : Int)).map (Value.int .i64)) 0 (fs.map (Value.int .i64)) = (fs ++ List.replicate (N - fs.length) 0).map (Value.int .i64) := by
  unfold splice
  simp
def addRes (q : Int) (fs gs : List Int) : List Int := if fieldB q [fs, gs] then pAdd q fs gs else []
theorem field_two {q : Int} {fs gs : List Int} (h : fieldB q [fs, gs] = true) : isPr q = true ∧ shortB fs q = true ∧ shortB gs q = true := by
  simpa [fieldB] using h
theorem field_one {q : Int} {fs : List Int} (h : fieldB q [fs] = true) : isPr q = true ∧ shortB fs q = true := by
  simpa [fieldB] using h

end Go.Proofs.YtchlnkdlnfjijaaGreat

/- Sums of the reference; products of both. -/
namespace Go.Proofs.YtchlnkdlnfjijaaGreat
open Go.RowKit

theorem ownOut_mk {w w' : World} {va : Option Addr} {n vc : Nat} {zs : List Int} (h : w'.ownsRow w.heap.size 3 1 (.slice va n vc) n (zs.map (Value.int .i64))) (hb : Below w.heap.size w w') : OwnOut w zs (.returned (.slice va n vc)) w' := by
  have hn : zs.length = n := by have := h.1; simpa using this
  subst hn
  exact ⟨va, vc, rfl, h, hb⟩

/-- An answer that is a list, or refused. -/
def AnsY (w : World) (zs : List Int) (ok : Bool) (e : Ending) (w' : World) : Prop := ∃ v, e = .returned (.tuple #[v, .bool ok]) ∧ OwI w.heap.size w'.heap.size w' v zs ∧ Below w.heap.size w w'
theorem ansY_of {w w' : World} {zs : List Int} {ok : Bool} {e : Ending} (h : ListOut w zs ok e w') : AnsY w zs ok e w' := by
  obtain ⟨ad, n, cap, rfl, h1, h2⟩ := h
  exact ⟨_, rfl, owI_mk h1 h2.size, h2⟩
theorem listOut_own {w w1 w' : World} {va : Option Addr} {n vc : Nat} {zs : List Int} (h : w'.ownsRow w1.heap.size 3 1 (.slice va n vc) n (zs.map (Value.int .i64))) (h1 : Below w.heap.size w w1) (h2 : Below w1.heap.size w1 w') : ListOut w zs true (.returned (.tuple #[.slice va n vc, .bool true])) w' :=
  ⟨va, n, vc, rfl, own_base h h1.size, h1.trans (h2.mono h1.size)⟩

theorem addRes_le (q : Int) (fs gs : List Int) : (addRes q fs gs).length ≤ 24 := by
  unfold addRes
  split
  · rename_i h
    obtain ⟨_, h1, h2⟩ := field_two h
    have := (shortB_of h1).2.2.1
    have := (shortB_of h2).2.2.1
    rw [pAdd_length]; omega
  · simp

end Go.Proofs.YtchlnkdlnfjijaaGreat

/- Products of polynomials, of both; the polynomial with given roots. -/
namespace Go.Proofs.YtchlnkdlnfjijaaGreat
open Go.RowKit

/-- What is still to be added to the row P. -/
def MulAt (q : Int) (fs gs : List Int) (N : Nat) (k : Nat) (P : List Int) : Prop := P.length = N ∧ (∀ z ∈ P, 0 ≤ z ∧ z < q) ∧ pmFrom q gs k (fs.drop k) P = pMul q fs gs
theorem mulAt_zero {q : Int} {fs gs : List Int} {N : Nat} (hq : 0 < q) (hN : fs.length + gs.length - 1 = N) : MulAt q fs gs N 0 (List.replicate N 0) := by
  subst hN
  exact ⟨by simp, zeros_res hq _, rfl⟩
theorem mulAt_step {q c : Int} {fs gs rest P : List Int} {N k : Nat} (hq : 0 < q) (h : MulAt q fs gs N k P) (hd : fs.drop k = c :: rest) : MulAt q fs gs N (k + 1) (P.take k ++ axpy q (P.drop k) c gs) := by
  obtain ⟨h1, h2, h3⟩ := h
  refine ⟨by rw [row_length]; exact h1, fun z hz => ?_, ?_⟩
  · rcases List.mem_append.1 hz with h' | h'
    · exact h2 z (List.mem_of_mem_take h')
    · exact axpy_res hq _ _ (fun z hz => h2 z (List.mem_of_mem_drop hz)) z h'
  · rw [hd, pmFrom] at h3
    have e : fs.drop (k + 1) = rest := by
      rw [← List.drop_drop, hd]; rfl
    rw [e]; exact h3
theorem mulAt_end {q : Int} {fs gs P : List Int} {N k : Nat} (h : MulAt q fs gs N k P) (hk : fs.length ≤ k) : P = pMul q fs gs := by
  have := h.2.2
  rwa [List.drop_of_length_le hk, pmFrom] at this

end Go.Proofs.YtchlnkdlnfjijaaGreat

/- Products of the reference; MulPolys of both. -/
namespace Go.Proofs.YtchlnkdlnfjijaaGreat
open Go.RowKit

end Go.Proofs.YtchlnkdlnfjijaaGreat

/- MulPolys; polynomials with given roots: PolyFromRoots. -/
namespace Go.Proofs.YtchlnkdlnfjijaaGreat
open Go.RowKit

def pmB (q : Int) (fs gs : List Int) : Bool := fieldB q [fs, gs] && decide (fs.length + gs.length ≤ 25)
def mulL (q : Int) (fs gs : List Int) : List Int := if fs.length = 0 ∨ gs.length = 0 then [] else pMul q fs gs
def mulRes (q : Int) (fs gs : List Int) : List Int := if pmB q fs gs then mulL q fs gs else []
theorem mulRes_le (q : Int) (fs gs : List Int) : (mulRes q fs gs).length ≤ 24 := by
  unfold mulRes
  split
  · rename_i h
    simp only [pmB, Bool.and_eq_true, decide_eq_true_eq] at h
    unfold mulL
    split
    · simp
    · rw [pMul_length]; omega
  · simp
theorem listOut_nilT (w w' : World) (h : Below w.heap.size w w') : ListOut w [] true (.returned (.tuple #[.slice none 0 0, .bool true])) w' :=
  ⟨none, 0, 0, rfl, World.ownsRow_nil _ _ _ _, h⟩

end Go.Proofs.YtchlnkdlnfjijaaGreat

