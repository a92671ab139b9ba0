/- Polynomials over a prime field: plain facts. No Go in sight. -/
import Derived.Test.YtipfckfjelignaaGrp
import Derived.Test.YtipfckfjelignaaDot
namespace Go.Proofs.Ytipfckfjelignaa

/-- The value of a polynomial, unreduced and reduced. -/
def ev (x : Int) : List Int → Int
  | [] => 0
  | c :: f => ev x f * x + c
def pev (q x : Int) : List Int → Int
  | [] => 0
  | c :: f => (pev q x f * x + c) % q
theorem pev_ev {q x : Int} : ∀ f : List Int, pev q x f = ev x f % q
  | [] => by simp [pev, ev]
  | c :: f => by rw [pev, ev, pev_ev f, Int.add_emod, Int.mul_emod, Int.emod_emod, ← Int.mul_emod, ← Int.add_emod]
theorem pev_range {q x : Int} (hq : 0 < q) (f : List Int) : 0 ≤ pev q x f ∧ pev q x f < q := by
  rw [pev_ev]; exact ⟨Int.emod_nonneg _ (by omega), Int.emod_lt_of_pos _ hq⟩

/-- Congruence. -/
def Cg (q a b : Int) : Prop := ∃ k, a = b + q * k
theorem Cg.refl (q a : Int) : Cg q a a := ⟨0, by simp⟩
theorem Cg.symm {q a b : Int} (h : Cg q a b) : Cg q b a := by obtain ⟨k, h⟩ := h; exact ⟨-k, by grind⟩
theorem Cg.trans {q a b c : Int} (h : Cg q a b) (h' : Cg q b c) : Cg q a c := by
  obtain ⟨k, h⟩ := h; obtain ⟨l, h'⟩ := h'; exact ⟨k + l, by grind⟩
theorem Cg.add {q a b c d : Int} (h : Cg q a b) (h' : Cg q c d) : Cg q (a + c) (b + d) := by
  obtain ⟨k, h⟩ := h; obtain ⟨l, h'⟩ := h'; exact ⟨k + l, by grind⟩
theorem Cg.mul {q a b c d : Int} (h : Cg q a b) (h' : Cg q c d) : Cg q (a * c) (b * d) := by
  obtain ⟨k, h⟩ := h; obtain ⟨l, h'⟩ := h'; exact ⟨k * d + b * l + q * k * l, by subst h h'; grind⟩
theorem Cg.mod (q a : Int) : Cg q (a % q) a := ⟨-(a / q), by have := Int.mul_ediv_add_emod a q; grind⟩
theorem Cg.eq {q a b : Int} (h : Cg q a b) : a % q = b % q := by
  obtain ⟨k, rfl⟩ := h; simp
theorem Cg.of {q a b : Int} (h : a % q = b % q) : Cg q a b := (Cg.mod q a).symm.trans (h ▸ Cg.mod q b)

/-- s + c g, as many coefficients as s. -/
def axpy (q : Int) : List Int → Int → List Int → List Int
  | a :: s, c, b :: g => (a + c * b) % q :: axpy q s c g
  | s, _, _ => s
theorem axpy_nil (q : Int) (s : List Int) (c : Int) : axpy q s c [] = s := by cases s <;> rfl
theorem axpy_length (q c : Int) : ∀ s g : List Int, (axpy q s c g).length = s.length
  | [], _ => by simp [axpy]
  | _ :: _, [] => by simp [axpy]
  | a :: s, b :: g => by simp [axpy, axpy_length q c s g]
theorem axpy_ev {q c x : Int} : ∀ s g : List Int, g.length ≤ s.length → Cg q (ev x (axpy q s c g)) (ev x s + c * ev x g)
  | s, [], _ => by rw [axpy_nil]; simp [ev]; exact Cg.refl _ _
  | [], _ :: _, h => by simp at h
  | a :: s, b :: g, h => by
    have ih := axpy_ev (q := q) (c := c) (x := x) s g (by simpa using h)
    simp only [axpy, ev]
    refine ((ih.mul (Cg.refl q x)).add (Cg.mod q (a + c * b))).trans ?_
    exact ⟨0, by grind⟩
theorem axpy_res {q c : Int} (hq : 0 < q) : ∀ s g : List Int, (∀ z ∈ s, 0 ≤ z ∧ z < q) → ∀ z ∈ axpy q s c g, 0 ≤ z ∧ z < q
  | s, [], h => by rw [axpy_nil]; exact h
  | [], _ :: _, h => by simp [axpy]
  | a :: s, b :: g, h => by
    intro z hz
    simp only [axpy, List.mem_cons] at hz
    rcases hz with rfl | hz
    · exact ⟨Int.emod_nonneg _ (by omega), Int.emod_lt_of_pos _ hq⟩
    · exact axpy_res hq s g (fun z hz => h z (by simp [hz])) z hz
/-- Where a loop over g stands after k elements, and its next one. -/
theorem axpy_get {q c : Int} : ∀ (s g : List Int) (k : Nat), k < s.length → (axpy q s c (g.take k))[k]? = s[k]?
  | [], _, _, h => by simp at h
  | a :: s, g, 0, _ => by simp [axpy]
  | a :: s, [], k + 1, _ => by simp [axpy]
  | a :: s, b :: g, k + 1, h => by
    simp only [List.take_succ_cons, axpy, List.getElem?_cons_succ]
    exact axpy_get s g k (by simpa using h)
theorem axpy_step {q c : Int} : ∀ (s g : List Int) (k : Nat) (a b : Int), s[k]? = some a → g[k]? = some b → (axpy q s c (g.take k)).set k ((a + c * b) % q) = axpy q s c (g.take (k + 1))
  | [], _, _, _, _, h, _ => by simp at h
  | _ :: _, [], _, _, _, _, h => by simp at h
  | a' :: s, b' :: g, 0, a, b, h, h' => by
    simp only [List.getElem?_cons_zero, Option.some.injEq] at h h'
    subst h h'
    simp [axpy, axpy_nil]
  | a' :: s, b' :: g, k + 1, a, b, h, h' => by
    simp only [List.getElem?_cons_succ] at h h'
    simp only [List.take_succ_cons, axpy, List.set_cons_succ]
    rw [axpy_step s g k a b h h']

theorem ev_append (x : Int) : ∀ a b : List Int, ev x (a ++ b) = ev x a + x ^ a.length * ev x b
  | [], b => by simp [ev]
  | c :: a, b => by
    simp only [List.cons_append, ev, ev_append x a b, List.length_cons]
    grind
theorem ev_zeros (x : Int) : ∀ n : Nat, ev x (List.replicate n 0) = 0
  | 0 => rfl
  | n + 1 => by rw [List.replicate_succ, ev, ev_zeros x n]; simp
theorem zeros_res {q : Int} (hq : 0 < q) (n : Nat) : ∀ z ∈ List.replicate n (0 : Int), 0 ≤ z ∧ z < q := by
  intro z hz; rw [List.eq_of_mem_replicate hz]; exact ⟨Int.le_refl _, hq⟩

/-- The sum. -/
def pAdd (q : Int) (f g : List Int) : List Int := axpy q (f ++ List.replicate (max f.length g.length - f.length) 0) 1 g
theorem pAdd_length (q : Int) (f g : List Int) : (pAdd q f g).length = max f.length g.length := by simp [pAdd, axpy_length]; omega
theorem pAdd_ev {q x : Int} (f g : List Int) : Cg q (ev x (pAdd q f g)) (ev x f + ev x g) := by
  unfold pAdd
  refine (axpy_ev _ _ (by simp; omega)).trans ?_
  rw [ev_append, ev_zeros]; exact ⟨0, by grind⟩
theorem pAdd_res {q : Int} (hq : 0 < q) {f g : List Int} (hf : ∀ z ∈ f, 0 ≤ z ∧ z < q) : ∀ z ∈ pAdd q f g, 0 ≤ z ∧ z < q := by
  unfold pAdd
  refine axpy_res hq _ _ fun z hz => ?_
  rcases List.mem_append.1 hz with h | h
  · exact hf z h
  · exact zeros_res hq _ z h

/-- The product: one row of g after another is added. -/
def mulFrom (q : Int) (g : List Int) : Nat → List Int → List Int → List Int
  | _, [], P => P
  | i, c :: f, P => mulFrom q g (i + 1) f (P.take i ++ axpy q (P.drop i) c g)
def pMul (q : Int) (f g : List Int) : List Int := mulFrom q g 0 f (List.replicate (f.length + g.length - 1) 0)
theorem row_length {q c : Int} (g P : List Int) (i : Nat) : (P.take i ++ axpy q (P.drop i) c g).length = P.length := by
  simp [axpy_length]; omega
theorem mulFrom_length (q : Int) (g : List Int) : ∀ (f : List Int) (i : Nat) (P : List Int), (mulFrom q g i f P).length = P.length
  | [], _, _ => rfl
  | c :: f, i, P => by rw [mulFrom, mulFrom_length q g f, row_length]
theorem mulFrom_res {q : Int} (hq : 0 < q) (g : List Int) : ∀ (f : List Int) (i : Nat) (P : List Int), (∀ z ∈ P, 0 ≤ z ∧ z < q) → ∀ z ∈ mulFrom q g i f P, 0 ≤ z ∧ z < q
  | [], _, _, h => h
  | c :: f, i, P, h => by
    rw [mulFrom]
    refine mulFrom_res hq g f (i + 1) _ fun z hz => ?_
    rcases List.mem_append.1 hz with h' | h'
    · exact h z (List.mem_of_mem_take h')
    · exact axpy_res hq _ _ (fun z hz => h z (List.mem_of_mem_drop hz)) z h'
theorem mulFrom_ev {q x : Int} (g : List Int) : ∀ (f : List Int) (i : Nat) (P : List Int), i + f.length + g.length ≤ P.length + 1 → Cg q (ev x (mulFrom q g i f P)) (ev x P + x ^ i * (ev x f * ev x g))
  | [], i, P, _ => ⟨0, by simp [mulFrom, ev]⟩
  | c :: f, i, P, h => by
    simp only [List.length_cons] at h
    rw [mulFrom]
    refine (mulFrom_ev g f (i + 1) _ (by rw [row_length]; omega)).trans ?_
    have h1 := axpy_ev (q := q) (c := c) (x := x) (P.drop i) g (by simp; omega)
    have e1 : ev x P = ev x (P.take i) + x ^ i * ev x (P.drop i) := by
      have := ev_append x (P.take i) (P.drop i)
      rwa [List.take_append_drop, List.length_take, Nat.min_eq_left (by omega)] at this
    rw [ev_append, List.length_take, Nat.min_eq_left (by omega), e1]
    refine (((Cg.refl q _).add ((Cg.refl q (x ^ i)).mul h1)).add (Cg.refl q _)).trans ?_
    refine ⟨0, ?_⟩
    simp only [ev]
    grind
theorem pMul_length (q : Int) (f g : List Int) : (pMul q f g).length = f.length + g.length - 1 := by simp [pMul, mulFrom_length]
theorem pMul_res {q : Int} (hq : 0 < q) (f g : List Int) : ∀ z ∈ pMul q f g, 0 ≤ z ∧ z < q := mulFrom_res hq _ _ _ _ (zeros_res hq _)
theorem pMul_ev {q x : Int} (f g : List Int) (hg : g ≠ []) : Cg q (ev x (pMul q f g)) (ev x f * ev x g) := by
  have hl : 1 ≤ g.length := by cases g with | nil => exact absurd rfl hg | cons => simp
  refine (mulFrom_ev g f 0 _ (by simp; omega)).trans ?_
  rw [ev_zeros]; exact ⟨0, by grind⟩

/-- The product with a constant. -/
theorem axpy_drop {q c : Int} : ∀ (s a b : List Int), a.length ≤ s.length → (axpy q s c (a ++ b)).drop a.length = axpy q (s.drop a.length) c b
  | s, [], b, _ => by simp
  | [], _ :: _, _, h => by simp at h
  | z :: s, y :: a, b, h => by
    simp only [List.cons_append, axpy, List.length_cons, List.drop_succ_cons]
    exact axpy_drop s a b (by simpa using h)
theorem mulFrom_one {q c : Int} : ∀ (f : List Int) (i : Nat) (P : List Int), P.length = i + f.length → P.drop i = List.replicate f.length 0 → mulFrom q [c] i f P = P.take i ++ f.map fun z => z * c % q
  | [], i, P, h, _ => by simp [mulFrom]; rw [List.take_of_length_le (by simp at h; omega)]
  | z :: f, i, P, h, hz => by
    have hd : P.drop i = 0 :: P.drop (i + 1) := by
      rw [List.drop_eq_getElem_cons (by simp at h; omega)] at hz ⊢
      rw [List.length_cons, List.replicate_succ] at hz
      rw [(List.cons.inj hz).1]
    have hz' : P.drop (i + 1) = List.replicate f.length 0 := by
      rw [hd, List.length_cons, List.replicate_succ] at hz
      exact (List.cons.inj hz).2
    simp only [List.length_cons] at h
    rw [mulFrom, hd, axpy, axpy_nil]
    have hl : (P.take i).length = i := by simp; omega
    rw [mulFrom_one f (i + 1) _ (by simp; omega) ?_]
    · rw [show P.take i ++ (0 + z * c) % q :: P.drop (i + 1) = (P.take i ++ [(0 + z * c) % q]) ++ P.drop (i + 1) by simp]
      rw [List.take_append_of_le_length (by simp; omega), List.take_of_length_le (by simp; omega)]
      simp
    · rw [show P.take i ++ (0 + z * c) % q :: P.drop (i + 1) = (P.take i ++ [(0 + z * c) % q]) ++ P.drop (i + 1) by simp]
      rw [List.drop_append_of_le_length (by simp; omega), List.drop_of_length_le (by simp; omega), hz']
      simp
theorem pMul_one {q c : Int} (f : List Int) : pMul q f [c] = f.map fun z => z * c % q := by
  unfold pMul
  rw [mulFrom_one f 0 _ (by simp) (by simp)]; simp
theorem axpy_map {q c : Int} : ∀ s f : List Int, axpy q s 1 (f.map fun z => z * c % q) = axpy q s c f
  | s, [] => by simp [axpy_nil]
  | [], _ :: _ => rfl
  | a :: s, b :: f => by
    simp only [List.map_cons, axpy, axpy_map s f]
    congr 1
    rw [Int.one_mul, Int.mul_comm b c]; simp
theorem pAdd_axpy {q c : Int} {s f : List Int} (h : f.length = s.length) : pAdd q s (pMul q f [c]) = axpy q s c f := by
  unfold pAdd
  rw [pMul_one, axpy_map]
  congr 1
  simp [h]

/-- The leading coefficient of a product. -/
theorem mulFrom_last {q a b : Int} (g : List Int) : ∀ (f : List Int) (i : Nat) (P : List Int), P.length = i + f.length + 1 + g.length → P.drop (i + g.length) = List.replicate (f.length + 1) 0 →
    (mulFrom q (g ++ [b]) i (f ++ [a]) P).drop (i + f.length + g.length) = [(a * b) % q]
  | [], i, P, h, hz => by
    simp only [List.nil_append, mulFrom, List.length_nil, Nat.add_zero] at h hz ⊢
    have hl : (P.take i).length = i := by simp; omega
    rw [List.drop_append, hl, List.drop_of_length_le (by omega), List.nil_append, Nat.add_sub_cancel_left]
    rw [axpy_drop _ _ _ (by simp; omega), List.drop_drop, hz]
    simp [axpy]
  | c :: f, i, P, h, hz => by
    simp only [List.length_cons] at h hz ⊢
    rw [List.cons_append, mulFrom]
    have hl : (P.take i).length = i := by simp; omega
    have := mulFrom_last (q := q) (a := a) (b := b) g f (i + 1) (P.take i ++ axpy q (P.drop i) c (g ++ [b])) (by rw [row_length]; omega) ?_
    · rw [show i + (f.length + 1) + g.length = i + 1 + f.length + g.length by omega]; exact this
    · rw [List.drop_append, hl, List.drop_of_length_le (by omega), List.nil_append, show i + 1 + g.length - i = (g ++ [b]).length by simp; omega]
      have e := axpy_drop (q := q) (c := c) (P.drop i) (g ++ [b]) [] (by simp; omega)
      rw [List.append_nil] at e
      rw [e, axpy_nil, List.drop_drop, List.length_append, List.length_singleton, ← Nat.add_assoc, ← List.drop_drop, hz]
      simp

/-- The polynomial with given roots. -/
def pRoots (q : Int) (rs : List Int) : List Int := rs.foldl (fun P r => pMul q P [(-r) % q, 1]) [1]
def rootsFrom (q : Int) (P : List Int) (rs : List Int) : List Int := rs.foldl (fun P r => pMul q P [(-r) % q, 1]) P
theorem rootsFrom_length (q : Int) : ∀ (rs P : List Int), (rootsFrom q P rs).length = P.length + rs.length
  | [], _ => rfl
  | r :: rs, P => by
    show (rootsFrom q (pMul q P [(-r) % q, 1]) rs).length = _
    rw [rootsFrom_length q rs, pMul_length]; simp; omega
theorem rootsFrom_res {q : Int} (hq : 0 < q) : ∀ (rs P : List Int), (∀ z ∈ P, 0 ≤ z ∧ z < q) → ∀ z ∈ rootsFrom q P rs, 0 ≤ z ∧ z < q
  | [], _, h => h
  | _ :: rs, _, _ => rootsFrom_res hq rs _ (pMul_res hq _ _)
theorem pRoots_length (q : Int) (rs : List Int) : (pRoots q rs).length = rs.length + 1 := by
  show (rootsFrom q [1] rs).length = _
  rw [rootsFrom_length]; simp; omega
theorem pRoots_res {q : Int} (hq : 1 < q) (rs : List Int) : ∀ z ∈ pRoots q rs, 0 ≤ z ∧ z < q :=
  rootsFrom_res (by omega) rs [1] (by intro z hz; simp at hz; omega)

/-- The product of the differences. -/
def facFrom (q x : Int) (acc : Int) (rs : List Int) : Int := rs.foldl (fun p r => p * ((x - r) % q) % q) acc
def fac (q x : Int) (rs : List Int) : Int := facFrom q x 1 rs
theorem facFrom_range {q x : Int} (hq : 0 < q) : ∀ (rs : List Int) (acc : Int), 0 ≤ acc → acc < q → 0 ≤ facFrom q x acc rs ∧ facFrom q x acc rs < q
  | [], acc, h0, h1 => ⟨h0, h1⟩
  | r :: rs, acc, _, _ => facFrom_range hq rs _ (Int.emod_nonneg _ (by omega)) (Int.emod_lt_of_pos _ hq)
theorem fac_range {q x : Int} (hq : 1 < q) (rs : List Int) : 0 ≤ fac q x rs ∧ fac q x rs < q := facFrom_range (by omega) rs 1 (by omega) (by omega)
theorem rootsFrom_ev {q x : Int} : ∀ (rs P : List Int) (acc : Int), Cg q (ev x P) acc → Cg q (ev x (rootsFrom q P rs)) (facFrom q x acc rs)
  | [], P, acc, h => h
  | r :: rs, P, acc, h => by
    refine rootsFrom_ev rs (pMul q P [(-r) % q, 1]) _ ?_
    refine (pMul_ev P _ (by simp)).trans ?_
    have e : Cg q (ev x [(-r) % q, 1]) (x - r) := by
      simp only [ev]
      exact ((Cg.refl q _).add (Cg.mod q (-r))).trans ⟨0, by grind⟩
    exact (h.mul (e.trans (Cg.mod q (x - r)).symm)).trans (Cg.mod q _).symm
theorem pRoots_pev {q x : Int} (hq : 1 < q) (rs : List Int) : pev q x (pRoots q rs) = fac q x rs := by
  have h := rootsFrom_ev (q := q) (x := x) rs [1] 1 (by simp [ev]; exact Cg.refl _ _)
  obtain ⟨h0, h1⟩ := fac_range (x := x) hq rs
  rw [pev_ev, ← Int.emod_eq_of_lt h0 h1]
  exact h.eq

theorem facFrom_zero {q x : Int} : ∀ (rs : List Int), facFrom q x 0 rs = 0
  | [] => rfl
  | r :: rs => by show facFrom q x (0 * ((x - r) % q) % q) rs = 0; rw [Int.zero_mul, Int.zero_emod]; exact facFrom_zero rs
theorem fac_root {q x : Int} : ∀ (rs : List Int) (acc : Int), x ∈ rs → facFrom q x acc rs = 0
  | [], _, h => by simp at h
  | r :: rs, acc, h => by
    show facFrom q x (acc * ((x - r) % q) % q) rs = 0
    rcases List.mem_cons.1 h with rfl | h
    · rw [Int.sub_self, Int.zero_emod, Int.mul_zero, Int.zero_emod, facFrom_zero]
    · exact fac_root rs _ h

theorem isPr_num {n : Int} (h : isPr n = true) : 2 ≤ n ∧ n ≤ 2000000000 ∧ Num.prB n = true := by
  simp only [isPr, Bool.and_eq_true] at h
  obtain ⟨h1, h2⟩ := h
  obtain ⟨_, h4⟩ := inB_true.1 h1
  refine ⟨?_, h4, h2⟩
  rcases Int.lt_or_le n 2 with h3 | h3
  · rw [prB_small h3] at h2; cases h2
  · exact h3
/-- In a field a product without zeros is not zero. -/
theorem mul_ne {q a b : Int} (hq : isPr q = true) (ha0 : 0 < a) (ha : a < q) (hb0 : 0 < b) (hb : b < q) : 0 < a * b % q := by
  obtain ⟨h2, h3, h4⟩ := isPr_num hq
  obtain ⟨q, rfl⟩ := Int.eq_ofNat_of_zero_le (show 0 ≤ q by omega)
  obtain ⟨a, rfl⟩ := Int.eq_ofNat_of_zero_le (show 0 ≤ a by omega)
  obtain ⟨b, rfl⟩ := Int.eq_ofNat_of_zero_le (show 0 ≤ b by omega)
  have hp : Num.Pr q := by
    have : Num.tri q 2 = true := by simp [Num.prB] at h4; exact h4.2
    exact (Num.tri_prime (by omega)).1 this
  have hne : ¬ a * b % q = 0 := by
    intro h
    rcases hp.dvd_mul (Nat.dvd_of_mod_eq_zero h) with h' | h'
    · have := Nat.le_of_dvd (by omega) h'; omega
    · have := Nat.le_of_dvd (by omega) h'; omega
  have : 0 < a * b % q := Nat.pos_of_ne_zero hne
  exact_mod_cast this
theorem sub_ne {q x r : Int} (hx0 : 0 ≤ x) (hx : x < q) (hr0 : 0 ≤ r) (hr : r < q) (hne : x ≠ r) : 0 < (x - r) % q ∧ (x - r) % q < q := by
  refine ⟨?_, Int.emod_lt_of_pos _ (by omega)⟩
  rcases Int.lt_or_lt_of_ne hne with h | h
  · have e : (x - r) % q = x - r + q := by
      rw [← Int.add_emod_right]; exact Int.emod_eq_of_lt (by omega) (by omega)
    omega
  · rw [Int.emod_eq_of_lt (by omega) (by omega)]; omega
theorem fac_ne {q x : Int} (hq : isPr q = true) (hx0 : 0 ≤ x) (hx : x < q) : ∀ (rs : List Int) (acc : Int), (∀ r ∈ rs, 0 ≤ r ∧ r < q) → x ∉ rs → 0 < acc → acc < q → 0 < facFrom q x acc rs
  | [], acc, _, _, h, _ => h
  | r :: rs, acc, hr, hn, h0, h1 => by
    have hr' := hr r (by simp)
    have hs := sub_ne hx0 hx hr'.1 hr'.2 (by rintro rfl; exact hn (by simp))
    exact fac_ne hq hx0 hx rs _ (fun z hz => hr z (by simp [hz])) (fun h => hn (by simp [h])) (mul_ne hq h0 h1 hs.1 hs.2) (Int.emod_lt_of_pos _ (by omega))
theorem invOk_pr {q b : Int} (hq : isPr q = true) (h0 : 0 < b) (h1 : b < q) : Num.invOk b q = true := by
  obtain ⟨h2, h3, h4⟩ := isPr_num hq
  obtain ⟨q, rfl⟩ := Int.eq_ofNat_of_zero_le (show 0 ≤ q by omega)
  obtain ⟨b, rfl⟩ := Int.eq_ofNat_of_zero_le (show 0 ≤ b by omega)
  have hp : Num.Pr q := by
    have : Num.tri q 2 = true := by simp [Num.prB] at h4; exact h4.2
    exact (Num.tri_prime (by omega)).1 this
  exact Num.invOk_prime hp (by omega) (by omega)

/-- The degree. -/
def dg : List Int → Int
  | [] => -1
  | c :: f => if 0 ≤ dg f then dg f + 1 else if c = 0 then -1 else 0
theorem dg_zeros : ∀ f : List Int, (∀ z ∈ f, z = 0) → dg f = -1
  | [], _ => rfl
  | c :: f, h => by rw [dg, dg_zeros f (fun z hz => h z (by simp [hz])), h c (by simp)]; rfl
theorem dg_at : ∀ (f : List Int) (k : Nat) (c : Int) (rest : List Int), f.drop k = c :: rest → c ≠ 0 → (∀ z ∈ rest, z = 0) → dg f = k
  | [], k, c, rest, h, _, _ => by simp at h
  | d :: f, 0, c, rest, h, hc, hr => by
    simp only [List.drop_zero, List.cons.injEq] at h
    obtain ⟨rfl, rfl⟩ := h
    rw [dg, dg_zeros f hr, if_neg hc]; rfl
  | d :: f, k + 1, c, rest, h, hc, hr => by
    rw [List.drop_succ_cons] at h
    rw [dg, dg_at f k c rest h hc hr, if_pos (by omega)]; omega
theorem dg_range : ∀ f : List Int, -1 ≤ dg f ∧ dg f < f.length
  | [] => by simp [dg]
  | c :: f => by
    have := dg_range f
    rw [dg]; simp only [List.length_cons]
    split
    · omega
    · split <;> omega
theorem rootsFrom_lead {q : Int} (hq : 1 < q) : ∀ (rs P : List Int), (rootsFrom q (P ++ [1]) rs).drop (P.length + rs.length) = [1]
  | [], P => by simp [rootsFrom]
  | r :: rs, P => by
    show (rootsFrom q (pMul q (P ++ [1]) [(-r) % q, 1]) rs).drop _ = _
    have h := mulFrom_last (q := q) (a := 1) (b := 1) [(-r) % q] P 0 (List.replicate ((P ++ [1]).length + 2 - 1) 0) (by simp) (by simp)
    rw [Int.one_mul, Int.emod_eq_of_lt (show (0 : Int) ≤ 1 by decide) (show (1 : Int) < q by omega)] at h
    have e : pMul q (P ++ [1]) [(-r) % q, 1] = (pMul q (P ++ [1]) [(-r) % q, 1]).take (P.length + 1) ++ [1] := by
      conv => lhs; rw [← List.take_append_drop (P.length + 1) (pMul q (P ++ [1]) [(-r) % q, 1])]
      congr 1
      refine Eq.trans ?_ h; unfold pMul; simp
    rw [e]
    have hl : ((pMul q (P ++ [1]) [(-r) % q, 1]).take (P.length + 1)).length = P.length + 1 := by simp [pMul_length]
    have := rootsFrom_lead hq rs ((pMul q (P ++ [1]) [(-r) % q, 1]).take (P.length + 1))
    rw [hl] at this
    refine Eq.trans ?_ this
    congr 1; simp; omega
theorem pRoots_dg {q : Int} (hq : 1 < q) (rs : List Int) : dg (pRoots q rs) = rs.length := by
  have h := rootsFrom_lead hq rs []
  simp only [List.nil_append, List.length_nil, Nat.zero_add] at h
  exact dg_at _ _ 1 [] h (by decide) (by simp)

end Go.Proofs.Ytipfckfjelignaa

