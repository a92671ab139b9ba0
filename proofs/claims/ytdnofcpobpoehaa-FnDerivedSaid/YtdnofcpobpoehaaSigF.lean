/- Plain facts for sigma proofs: linear statements, choices, what a prover and a verifier reckon. No Go in sight. -/
import Derived.Test.YtdnofcpobpoehaaGrG
import Derived.Test.YtdnofcpobpoehaaTyI
import Derived.Test.YtdnofcpobpoehaaHshD
namespace Go.Proofs.Ytdnofcpobpoehaa
open Go.RowKit
set_option linter.unusedVariables false
set_option linter.unusedSimpArgs false

/-! ### Linear statements -/
/-- A linear statement: its rows and its images. -/
abbrev LinD := List (List Int) × List Int
def wid (rows : List (List Int)) : Nat := (rows.headD []).length
def rowB (P Q : Int) (n : Nat) (r : List Int) : Bool := decide (r.length = n) && allEl P Q r
def rowsB (P Q : Int) (rows : List (List Int)) : Bool := decide (1 ≤ rows.length ∧ rows.length ≤ 8) && (decide (1 ≤ wid rows ∧ wid rows ≤ 8) && rows.all fun r => rowB P Q (wid rows) r)
def imgs (P : Int) (rows : List (List Int)) (es : List Int) : List Int := rows.map fun r => powsFrom P 1 r es
theorem imgs_length (P : Int) (rows : List (List Int)) (es : List Int) : (imgs P rows es).length = rows.length := by simp [imgs]
theorem rowsB_true {P Q : Int} {rows : List (List Int)} : rowsB P Q rows = true ↔ (1 ≤ rows.length ∧ rows.length ≤ 8) ∧ (1 ≤ wid rows ∧ wid rows ≤ 8) ∧ ∀ r ∈ rows, r.length = wid rows ∧ allEl P Q r = true := by
  simp [rowsB, rowB]
def imB (P Q G : Int) (rows : List (List Int)) (es : List Int) : Bool := goodB P Q G && (rowsB P Q rows && (decide (es.length = wid rows) && allIn es 0 (Q - 1)))
def imV (P Q G : Int) (rows : List (List Int)) (es : List Int) : List Int := if imB P Q G rows es then imgs P rows es else []
theorem imB_true {P Q G : Int} {rows : List (List Int)} {es : List Int} : imB P Q G rows es = true ↔ goodB P Q G = true ∧ rowsB P Q rows = true ∧ es.length = wid rows ∧ allIn es 0 (Q - 1) = true := by
  simp [imB]
theorem im_off {P Q G : Int} {rows : List (List Int)} {es : List Int} (h : imB P Q G rows es = false) : imV P Q G rows es = [] := by simp [imV, h]
theorem im_on {P Q G : Int} {rows : List (List Int)} {es : List Int} (h : imB P Q G rows es = true) : imV P Q G rows es = imgs P rows es := by simp [imV, h]
theorem imgs_el {P Q G : Int} {rows : List (List Int)} {es : List Int} (h : imB P Q G rows es = true) : allEl P Q (imgs P rows es) = true := by
  obtain ⟨hg, hr, hl, he⟩ := imB_true.1 h
  obtain ⟨_, _, hr⟩ := rowsB_true.1 hr
  unfold allEl imgs
  rw [List.all_map, List.all_eq_true]
  exact fun r hm => pows_el hg r es 1 (one_el hg) (hr r hm).2 he

/-! ### A statement: a linear one, or a choice of equal logarithms (flat: G1, Y1, G2, Y2 for each) -/
inductive St where
  | lin (rows : List (List Int)) (im : List Int)
  | cho (l : List Int)
  | clm (ps : List LinD) (l : List Int)
def quads : List Int → List LinD
  | a :: b :: c :: d :: r => ([[a], [c]], [b, d]) :: quads r
  | _ => []
theorem quads_length : ∀ (n : Nat) (l : List Int), l.length = n * 4 → (quads l).length = n
  | 0, l, h => by
    have : l = [] := List.length_eq_zero_iff.1 (by omega)
    subst this; rfl
  | n + 1, [], h => by simp at h
  | n + 1, [_], h => by simp at h; omega
  | n + 1, [_, _], h => by simp at h; omega
  | n + 1, [_, _, _], h => by simp at h; omega
  | n + 1, a :: b :: c :: d :: r, h => by
    simp only [List.length_cons] at h
    simp [quads, quads_length n r (by omega)]
theorem quads_drop : ∀ (k : Nat) (l : List Int), quads (l.drop (k * 4)) = (quads l).drop k
  | 0, l => by simp
  | k + 1, [] => by simp [quads]
  | k + 1, [_] => by rw [List.drop_of_length_le (by simp; omega)]; simp [quads]
  | k + 1, [_, _] => by rw [List.drop_of_length_le (by simp; omega)]; simp [quads]
  | k + 1, [_, _, _] => by rw [List.drop_of_length_le (by simp; omega)]; simp [quads]
  | k + 1, a :: b :: c :: d :: r => by
    rw [show (k + 1) * 4 = k * 4 + 1 + 1 + 1 + 1 by omega]
    simp only [List.drop_succ_cons, quads]
    exact quads_drop k r
theorem quads_step {l : List Int} {a b c d : Int} {k : Nat} (h : l.drop (k * 4) = a :: b :: c :: d :: l.drop ((k + 1) * 4)) :
    (quads l).drop k = ([[a], [c]], [b, d]) :: (quads l).drop (k + 1) := by
  have h1 := quads_drop k l
  rw [h] at h1
  simp only [quads] at h1
  rw [quads_drop] at h1
  exact h1.symm
def St.parts : St → List LinD
  | .lin rows im => [(rows, im)]
  | .cho l => quads l
  | .clm ps _ => ps
def St.els : St → List Int
  | .lin rows im => rows.flatten ++ im
  | .cho l => l
  | .clm _ l => l
/-- What is hashed for a claim: no element need be one, but none is too great. -/
def smB (l : List Int) : Bool := l.all fun z => decide (0 ≤ z ∧ z ≤ 2000000000)
theorem smB_true {l : List Int} : smB l = true ↔ ∀ z ∈ l, 0 ≤ z ∧ z ≤ 2000000000 := by
  simp [smB]
def choB (P Q : Int) (l : List Int) : Bool := decide (4 ≤ l.length ∧ l.length ≤ 32) && allEl P Q l
def St.ok (P Q : Int) : St → Bool
  | .lin rows im => rowsB P Q rows && (decide (im.length = rows.length) && allEl P Q im)
  | .cho l => choB P Q l
  | .clm ps l => decide (1 ≤ ps.length ∧ ps.length ≤ 8) && ((ps.all fun p => rowsB P Q p.1 && (decide (p.2.length = p.1.length) && allEl P Q p.2)) && (decide (1 ≤ l.length ∧ l.length ≤ 72) && smB l))

/-- The commits that fit challenges and responses. -/
def cmts (P Q : Int) : List LinD → List Int → List Int → List Int
  | p :: ps, c :: cs, rs => List.zipWith (fun x y => decW P Q y x c) (imgs P p.1 (rs.take (wid p.1))) p.2 ++ cmts P Q ps cs (rs.drop (wid p.1))
  | _, _, _ => []
/-- What is left of a challenge. -/
def subF (Q : Int) (e : Int) (cs : List Int) : Int := cs.foldl (fun e c => (e - c + Q) % Q) e
def missV (P Q G : Int) (s : ByteArray) (st : St) (cm ch : List Int) : Int := subF Q (chX P Q G s (st.els ++ cm)) ch
def nRows (ps : List LinD) : Nat := (ps.map fun p => p.1.length).sum
def nCols (ps : List LinD) : Nat := (ps.map fun p => wid p.1).sum
def exsB' (Q : Int) (es : List Int) : Bool := decide (es.length ≤ 24) && es.all fun e => exB Q e
def formB (P Q : Int) (ps : List LinD) (p : PrD) : Bool :=
  decide (p.c.length = nRows ps) && (elsB P Q p.c && (decide (p.h.length = ps.length) && (exsB' Q p.h && (decide (p.r.length = nCols ps) && exsB' Q p.r))))
def vrB (P Q G : Int) (s : ByteArray) (st : St) : Bool := goodB P Q G && (decide (s.size ≤ 40) && st.ok P Q)
def vrV (P Q G : Int) (s : ByteArray) (st : St) (p : PrD) : Bool :=
  vrB P Q G s st && (formB P Q st.parts p && (decide (missV P Q G s st p.c p.h = 0) && decide (p.c = cmts P Q st.parts p.h p.r)))

/-- A row to which a multiple of another is added. -/
def sxpy (q : Int) : List Int → Int → List Int → List Int
  | a :: s, c, b :: g => (a + c * b) % q :: sxpy q s c g
  | s, _, _ => s
theorem sxpy_nil (q : Int) (s : List Int) (c : Int) : sxpy q s c [] = s := by cases s <;> rfl
theorem sxpy_length (q c : Int) : ∀ s g : List Int, (sxpy q s c g).length = s.length
  | [], _ => by simp [sxpy]
  | _ :: _, [] => by simp [sxpy]
  | a :: s, b :: g => by simp [sxpy, sxpy_length q c s g]
theorem sxpy_get {q c : Int} : ∀ (s g : List Int) (k : Nat), k < s.length → (sxpy q s c (g.take k))[k]? = s[k]?
  | [], _, _, h => by simp at h
  | a :: s, g, 0, _ => by simp [sxpy]
  | a :: s, [], k + 1, _ => by simp [sxpy]
  | a :: s, b :: g, k + 1, h => by
    simp only [List.take_succ_cons, sxpy, List.getElem?_cons_succ]
    exact sxpy_get s g k (by simpa using h)
theorem sxpy_step {q c : Int} : ∀ (s g : List Int) (k : Nat) (a b : Int), s[k]? = some a → g[k]? = some b → (sxpy q s c (g.take k)).set k ((a + c * b) % q) = sxpy q s c (g.take (k + 1))
  | [], _, _, _, _, h, _ => by simp at h
  | _ :: _, [], _, _, _, _, h => by simp at h
  | a' :: s, b' :: g, 0, a, b, h, h' => by
    simp only [List.getElem?_cons_zero, Option.some.injEq] at h h'
    subst h h'
    simp [sxpy, sxpy_nil]
  | a' :: s, b' :: g, k + 1, a, b, h, h' => by
    simp only [List.getElem?_cons_succ] at h h'
    simp only [List.take_succ_cons, sxpy, List.set_cons_succ]
    rw [sxpy_step s g k a b h h']
/-- The proof that a draft becomes. -/
def cplP (P Q G : Int) (s : ByteArray) (st : St) (dh dr : List Int) (which : Nat) (xs : List Int) : PrD :=
  let cm := cmts P Q st.parts dh dr
  let c := missV P Q G s st cm dh
  ⟨cm, dh.set which c, dr.take (which * xs.length) ++ sxpy Q (dr.drop (which * xs.length)) c xs⟩

/-! ### Division -/
theorem pow_zero' {y P : Int} (hP : 2 ≤ P) : Num.pow y 0 P = 1 := by
  unfold Num.pow
  rw [Num.pw_eq _ _ _ _ (by omega)]
  simp only [Int.toNat_zero, Nat.pow_zero, Nat.mul_one]
  rw [Nat.mod_eq_of_lt (by omega)]; rfl
theorem dec_iff {P Q G x y a c : Int} (hg : goodB P Q G = true) (hy : elB P Q y = true) (hc : 0 ≤ c) (x0 : 0 ≤ x) (x1 : x < P) (a0 : 0 ≤ a) (a1 : a < P) :
    decW P Q y x c = a ↔ x = a * Num.pow y c P % P := by
  have h := goodB_true.1 hg
  have hP : 2 ≤ P := by omega
  have hQ : 1 ≤ Q := by omega
  have hu : Cg P ((y ^ c.toNat) * (y ^ c.toNat) ^ (Q - 1).toNat) 1 := by
    have e : (y ^ c.toNat) * (y ^ c.toNat) ^ (Q - 1).toNat = (y ^ Q.toNat) ^ c.toNat := by
      rw [Int.mul_comm, ← Int.pow_succ, show Nat.succ (Q - 1).toNat = Q.toNat by omega, ← Int.pow_mul, ← Int.pow_mul, Nat.mul_comm]
    rw [e]
    have := (el_cg hP (by omega) hy).pow c.toNat
    rwa [one_pow'] at this
  have hpw := cg_pow (P := P) (el_rng hy).1 hc hP
  constructor
  · intro e
    have h1 : Cg P a (x * (y ^ c.toNat) ^ (Q - 1).toNat) := by rw [← e]; exact dec_cg hP hQ (el_rng hy).1 hc
    refine Cg.lt ?_ x0 x1 (Int.emod_nonneg _ (by omega)) (Int.emod_lt_of_pos _ (by omega))
    refine Cg.trans ?_ (cg_mod _ _).symm
    refine Cg.trans ?_ (h1.mul hpw).symm
    rw [Int.mul_assoc, Int.mul_comm ((y ^ c.toNat) ^ (Q - 1).toNat)]
    have := (Cg.refl P x).mul hu
    rw [Int.mul_one] at this
    exact this.symm
  · intro e
    refine Cg.lt ?_ (dec_rng hP).1 (dec_rng hP).2 a0 a1
    refine (dec_cg hP hQ (el_rng hy).1 hc).trans ?_
    have h1 : Cg P x (a * y ^ c.toNat) := by
      rw [e]; exact (cg_mod _ _).trans ((Cg.refl P a).mul hpw)
    refine (h1.mul (Cg.refl P _)).trans ?_
    rw [Int.mul_assoc]
    have := (Cg.refl P a).mul hu
    rwa [Int.mul_one] at this
theorem dec_zero {P Q G x y : Int} (hg : goodB P Q G = true) (hy : elB P Q y = true) (x0 : 0 ≤ x) (x1 : x < P) : decW P Q y x 0 = x := by
  have h := goodB_true.1 hg
  rw [dec_iff hg hy (Int.le_refl _) x0 x1 x0 x1, pow_zero' (by omega), Int.mul_one, Int.emod_eq_of_lt x0 x1]
theorem dec_neg {P Q G x y c : Int} (hg : goodB P Q G = true) (hx : elB P Q x = true) (hy : elB P Q y = true) (hc : 0 ≤ c ∧ c < Q) : decW P Q y x c = x * Num.pow y ((-c) % Q) P % P := by
  have h := goodB_true.1 hg
  have hP : 2 ≤ P := by omega
  have e : (-c) % Q = (Q - c) % Q := by
    rw [show Q - c = -c + Q by omega, Int.add_emod_right]
  rw [e]
  refine (dec_iff hg hy hc.1 (el_rng hx).1 (el_rng hx).2 (Int.emod_nonneg _ (by omega)) (Int.emod_lt_of_pos _ (by omega))).2 ?_
  have hb := re_back hg hy hx hc
  have e2 : x * Num.pow y ((Q - c) % Q) P % P * Num.pow y c P % P = x * Num.pow y c P % P * Num.pow y ((Q - c) % Q) P % P := by
    have k1 : Cg P (x * Num.pow y ((Q - c) % Q) P % P * Num.pow y c P) (x * Num.pow y ((Q - c) % Q) P * Num.pow y c P) := (cg_mod _ _).mul (Cg.refl _ _)
    have k2 : Cg P (x * Num.pow y c P % P * Num.pow y ((Q - c) % Q) P) (x * Num.pow y c P * Num.pow y ((Q - c) % Q) P) := (cg_mod _ _).mul (Cg.refl _ _)
    have e3 : x * Num.pow y ((Q - c) % Q) P * Num.pow y c P = x * Num.pow y c P * Num.pow y ((Q - c) % Q) P := by rw [Int.mul_assoc, Int.mul_assoc, Int.mul_comm (Num.pow y _ P)]
    rw [e3] at k1
    exact k1.trans k2.symm
  rw [e2]; exact hb.symm

/-! ### Sums of challenges -/
theorem subF_rng {Q e : Int} (hQ : 0 < Q) (he : 0 ≤ e ∧ e < Q) : ∀ cs : List Int, ∀ e, 0 ≤ e ∧ e < Q → 0 ≤ subF Q e cs ∧ subF Q e cs < Q
  | [], e, he => he
  | c :: cs, e, _ => subF_rng hQ (e := (e - c + Q) % Q) ⟨Int.emod_nonneg _ (by omega), Int.emod_lt_of_pos _ hQ⟩ cs _ ⟨Int.emod_nonneg _ (by omega), Int.emod_lt_of_pos _ hQ⟩
theorem subF_sum {Q : Int} (hQ : 0 < Q) : ∀ (cs : List Int) (e : Int), subF Q e cs % Q = (e - cs.sum) % Q
  | [], e => by simp [subF]
  | c :: cs, e => by
    have ih := subF_sum hQ cs ((e - c + Q) % Q)
    show subF Q ((e - c + Q) % Q) cs % Q = _
    rw [ih, List.sum_cons, Int.sub_emod, Int.emod_emod, ← Int.sub_emod]
    rw [show e - c + Q - cs.sum = e - (c + cs.sum) + Q by omega, Int.add_emod_right]
theorem sumFrom_sum {Q : Int} : ∀ (cs : List Int) (e : Int), sumFrom Q e cs % Q = (e + cs.sum) % Q
  | [], e => by simp [sumFrom]
  | c :: cs, e => by
    have ih := sumFrom_sum (Q := Q) cs ((e + c) % Q)
    show sumFrom Q ((e + c) % Q) cs % Q = _
    rw [ih, List.sum_cons, Int.add_emod, Int.emod_emod, ← Int.add_emod]
    rw [show e + c + cs.sum = e + (c + cs.sum) by omega]
theorem sumFrom_rng {Q : Int} (hQ : 0 < Q) : ∀ (cs : List Int) (e : Int), 0 ≤ e ∧ e < Q → 0 ≤ sumFrom Q e cs ∧ sumFrom Q e cs < Q
  | [], _, he => he
  | c :: cs, e, _ => sumFrom_rng hQ cs ((e + c) % Q) ⟨Int.emod_nonneg _ (by omega), Int.emod_lt_of_pos _ hQ⟩
theorem sub_zero_iff {Q e : Int} (hQ : 0 < Q) (he : 0 ≤ e ∧ e < Q) (cs : List Int) : subF Q e cs = 0 ↔ sumFrom Q 0 cs = e := by
  have h1 := subF_sum hQ cs e
  have h2 := sumFrom_sum (Q := Q) cs 0
  have r1 := subF_rng hQ he cs e he
  have r2 := sumFrom_rng hQ cs 0 ⟨Int.le_refl _, hQ⟩
  rw [Int.emod_eq_of_lt r1.1 r1.2] at h1
  rw [Int.emod_eq_of_lt r2.1 r2.2, Int.zero_add] at h2
  rw [h1, h2]
  constructor
  · intro h
    have : (cs.sum - e) % Q = 0 := by
      have hd := Int.dvd_of_emod_eq_zero h
      have : Q ∣ cs.sum - e := by
        have := Int.dvd_neg.2 hd
        rwa [show -(e - cs.sum) = cs.sum - e by omega] at this
      exact Int.emod_eq_zero_of_dvd this
    have := Int.emod_eq_emod_iff_emod_sub_eq_zero.2 this
    rw [this, Int.emod_eq_of_lt he.1 he.2]
  · intro h
    refine Int.emod_eq_emod_iff_emod_sub_eq_zero.1 ?_
    rw [h, Int.emod_eq_of_lt he.1 he.2]
theorem chX_rng {P Q G : Int} {s : ByteArray} {zs : List Int} (hQ : 0 < Q) : 0 ≤ chX P Q G s zs ∧ chX P Q G s zs < Q := ⟨Int.emod_nonneg _ (by omega), Int.emod_lt_of_pos _ hQ⟩

end Go.Proofs.Ytdnofcpobpoehaa

/- Plain facts for sigma proofs: the reference's reckoning is the program's. No Go in sight. -/
namespace Go.Proofs.Ytdnofcpobpoehaa
open Go.RowKit
set_option linter.unusedVariables false
set_option linter.unusedSimpArgs false

/-! ### A linear statement's verdict -/
def rowOk (P e : Int) (rs : List Int) : List (List Int) → List Int → List Int → Bool
  | r :: rows, c :: cm, y :: im => decide (powsFrom P 1 r rs = mulFrom P 1 [c, Num.pow y e P]) && rowOk P e rs rows cm im
  | _, _, _ => true
def svV (P Q G : Int) (s : ByteArray) (rows : List (List Int)) (im : List Int) (p : PrD) : Bool :=
  decide (p.c.length = rows.length) && (decide (p.h.length = 1) && (decide (p.r.length = wid rows) && (allEl P Q p.c && (allIn p.r 0 (Q - 1) && (decide (p.h.headD 0 = chX P Q G s (rows.flatten ++ im ++ p.c)) && rowOk P (p.h.headD 0) p.r rows p.c im)))))
theorem exsB'_all {Q : Int} {es : List Int} (h : es.length ≤ 24) : exsB' Q es = allIn es 0 (Q - 1) := by
  simp only [exsB', h, decide_true, Bool.true_and, allIn]; rfl
theorem elsB_all {P Q : Int} {es : List Int} (h : es.length ≤ 24) : elsB P Q es = allEl P Q es := by simp [elsB, h]
theorem rowOk_iff {P Q G e : Int} (hg : goodB P Q G = true) (he : 0 ≤ e) (rs : List Int) (hr : allIn rs 0 (Q - 1) = true) :
    ∀ (rows : List (List Int)) (cm im : List Int), cm.length = rows.length → im.length = rows.length → (∀ r ∈ rows, allEl P Q r = true) → allEl P Q cm = true → allEl P Q im = true →
      (rowOk P e rs rows cm im = true ↔ cm = List.zipWith (fun x y => decW P Q y x e) (imgs P rows rs) im)
  | [], [], [], _, _, _, _, _ => by simp [rowOk, imgs]
  | [], _ :: _, _, h, _, _, _, _ => by simp at h
  | [], [], _ :: _, _, h, _, _, _ => by simp at h
  | _ :: _, [], _, h, _, _, _, _ => by simp at h
  | _ :: _, _ :: _, [], _, h, _, _, _ => by simp at h
  | r :: rows, c :: cm, y :: im, h1, h2, h3, h4, h5 => by
    simp only [allEl, List.all_cons, Bool.and_eq_true] at h4 h5
    have ih := rowOk_iff hg he rs hr rows cm im (by simpa using h1) (by simpa using h2) (fun r hm => h3 r (by simp [hm])) h4.2 h5.2
    have hP := (good_mo hg).1.1
    have hx := pows_el hg r rs 1 (one_el hg) (h3 r (by simp)) hr
    have hp := pow_lt y e P hP
    have hc := el_rng h4.1
    simp only [rowOk, Bool.and_eq_true, decide_eq_true_eq, ih, imgs, List.map_cons, List.zipWith_cons_cons, List.cons.injEq]
    rw [mulFrom_two hc.1 hc.2]
    have hd := dec_iff hg h5.1 he (el_rng hx).1 (el_rng hx).2 hc.1 hc.2
    constructor
    · rintro ⟨a, b⟩; exact ⟨(hd.2 a).symm, b⟩
    · rintro ⟨a, b⟩; exact ⟨hd.1 a.symm, b⟩
theorem vrV_true {P Q G : Int} {s : ByteArray} {st : St} {p : PrD} : vrV P Q G s st p = true ↔ vrB P Q G s st = true ∧ formB P Q st.parts p = true ∧ missV P Q G s st p.c p.h = 0 ∧ p.c = cmts P Q st.parts p.h p.r := by
  simp [vrV]
theorem formB_true {P Q : Int} {ps : List LinD} {p : PrD} : formB P Q ps p = true ↔ p.c.length = nRows ps ∧ elsB P Q p.c = true ∧ p.h.length = ps.length ∧ exsB' Q p.h = true ∧ p.r.length = nCols ps ∧ exsB' Q p.r = true := by
  simp [formB]
theorem svV_true {P Q G : Int} {s : ByteArray} {rows : List (List Int)} {im : List Int} {p : PrD} : svV P Q G s rows im p = true ↔ p.c.length = rows.length ∧ p.h.length = 1 ∧ p.r.length = wid rows ∧ allEl P Q p.c = true ∧ allIn p.r 0 (Q - 1) = true ∧ p.h.headD 0 = chX P Q G s (rows.flatten ++ im ++ p.c) ∧ rowOk P (p.h.headD 0) p.r rows p.c im = true := by
  simp [svV]
theorem vr_lin {P Q G : Int} {s : ByteArray} {rows : List (List Int)} {im : List Int} {p : PrD} (h : vrB P Q G s (.lin rows im) = true) :
    vrV P Q G s (.lin rows im) p = svV P Q G s rows im p := by
  have hv := h
  simp only [vrB, St.ok, Bool.and_eq_true, decide_eq_true_eq] at h
  obtain ⟨hg, _, hr, hl, hi⟩ := h
  obtain ⟨h1, h2, h3⟩ := rowsB_true.1 hr
  have hQ : 0 < Q := by have := goodB_true.1 hg; omega
  have hn : nRows (St.lin rows im).parts = rows.length ∧ nCols (St.lin rows im).parts = wid rows ∧ (St.lin rows im).parts.length = 1 := by
    simp [St.parts, nRows, nCols]
  have hx := chX_rng (P := P) (G := G) (s := s) (zs := rows.flatten ++ im ++ p.c) hQ
  have hm : ∀ e, 0 ≤ e ∧ e < Q → (missV P Q G s (.lin rows im) p.c [e] = 0 ↔ e = chX P Q G s (rows.flatten ++ im ++ p.c)) := by
    intro e he'
    unfold missV St.els
    rw [sub_zero_iff hQ hx]
    show (0 + e) % Q = _ ↔ _
    rw [Int.zero_add, Int.emod_eq_of_lt he'.1 he'.2]
  have hcm : ∀ e, p.r.length = wid rows → cmts P Q (St.lin rows im).parts [e] p.r = List.zipWith (fun x y => decW P Q y x e) (imgs P rows p.r) im := by
    intro e c3
    show List.zipWith _ (imgs P rows (p.r.take (wid rows))) im ++ cmts P Q [] [] _ = _
    rw [List.take_of_length_le (by omega)]
    simp [cmts]
  rw [Bool.eq_iff_iff, vrV_true, formB_true, svV_true, hn.1, hn.2.1, hn.2.2]
  constructor
  · rintro ⟨_, ⟨c1, c4, c2, c6, c3, c5⟩, b, c⟩
    rw [elsB_all (by omega)] at c4
    rw [exsB'_all (by omega)] at c5 c6
    obtain ⟨e, he⟩ := List.length_eq_one_iff.1 c2
    rw [he] at c6 b c ⊢
    rw [hcm e c3] at c
    simp only [allIn, List.all_cons, List.all_nil, Bool.and_true] at c6
    have he' := inB_true.1 c6
    exact ⟨c1, rfl, c3, c4, c5, (hm e ⟨he'.1, by omega⟩).1 b, (rowOk_iff hg he'.1 _ c5 rows p.c im c1 hl (fun r hr => (h3 r hr).2) c4 hi).2 c⟩
  · rintro ⟨c1, c2, c3, c4, c5, a, b⟩
    obtain ⟨e, he⟩ := List.length_eq_one_iff.1 c2
    rw [he] at a b ⊢
    simp only [List.headD_cons] at a b
    have he' : 0 ≤ e ∧ e < Q := by rw [a]; exact hx
    refine ⟨hv, ⟨c1, by rw [elsB_all (by omega)]; exact c4, rfl, ?_, c3, by rw [exsB'_all (by omega)]; exact c5⟩, (hm e he').2 a, ?_⟩
    · rw [exsB'_all (by simp)]
      simp only [allIn, List.all_cons, List.all_nil, Bool.and_true]
      exact inB_true.2 ⟨he'.1, by omega⟩
    · rw [hcm e c3]
      exact (rowOk_iff hg he'.1 _ c5 rows p.c im c1 hl (fun r hr => (h3 r hr).2) c4 hi).1 b

/-! ### A linear statement's proof -/
def spP (P Q G : Int) (s : ByteArray) (rows : List (List Int)) (xs cs : List Int) : PrD :=
  let e := chX P Q G s (rows.flatten ++ imgs P rows xs ++ imgs P rows cs)
  ⟨imgs P rows cs, [e], sxpy Q cs e xs⟩
def plB (P Q G : Int) (s : ByteArray) (rows : List (List Int)) (xs cs : List Int) : Bool :=
  imB P Q G rows xs && (decide (cs.length = xs.length) && (allIn cs 0 (Q - 1) && decide (s.size ≤ 40)))
def nilP : PrD := ⟨[], [], []⟩
def plV (P Q G : Int) (s : ByteArray) (rows : List (List Int)) (xs cs : List Int) : PrD := if plB P Q G s rows xs cs then spP P Q G s rows xs cs else nilP
theorem plB_true {P Q G : Int} {s : ByteArray} {rows : List (List Int)} {xs cs : List Int} : plB P Q G s rows xs cs = true ↔ imB P Q G rows xs = true ∧ cs.length = xs.length ∧ allIn cs 0 (Q - 1) = true ∧ s.size ≤ 40 := by
  simp [plB]
theorem zip_zero {P Q G : Int} (hg : goodB P Q G = true) : ∀ (a b : List Int), a.length = b.length → allEl P Q a = true → allEl P Q b = true → List.zipWith (fun x y => decW P Q y x 0) a b = a
  | [], _, _, _, _ => by simp
  | _ :: _, [], h, _, _ => by simp at h
  | x :: a, y :: b, h, h1, h2 => by
    simp only [allEl, List.all_cons, Bool.and_eq_true] at h1 h2
    rw [List.zipWith_cons_cons, zip_zero hg a b (by simpa using h) h1.2 h2.2, dec_zero hg h2.1 (el_rng h1.1).1 (el_rng h1.1).2]
theorem cpl_lin {P Q G : Int} {s : ByteArray} {rows : List (List Int)} {xs cs : List Int} (h : plB P Q G s rows xs cs = true) :
    cplP P Q G s (.lin rows (imgs P rows xs)) [0] cs 0 xs = spP P Q G s rows xs cs := by
  obtain ⟨h1, h2, h3, _⟩ := plB_true.1 h
  obtain ⟨hg, hr, hl, he⟩ := imB_true.1 h1
  have hQ : 0 < Q := by have := goodB_true.1 hg; omega
  have h4 : imB P Q G rows cs = true := imB_true.2 ⟨hg, hr, by omega, h3⟩
  have e1 : cmts P Q (St.lin rows (imgs P rows xs)).parts [0] cs = imgs P rows cs := by
    simp only [St.parts, cmts, List.append_nil]
    rw [List.take_of_length_le (by omega), zip_zero hg _ _ (by simp [imgs_length]) (imgs_el h4) (imgs_el h1)]
  have hx := chX_rng (P := P) (G := G) (s := s) (zs := rows.flatten ++ imgs P rows xs ++ imgs P rows cs) hQ
  have e2 : missV P Q G s (.lin rows (imgs P rows xs)) (imgs P rows cs) [0] = chX P Q G s (rows.flatten ++ imgs P rows xs ++ imgs P rows cs) := by
    unfold missV St.els
    show (chX P Q G s _ - 0 + Q) % Q = _
    rw [Int.sub_zero, Int.add_emod_right, Int.emod_eq_of_lt hx.1 hx.2]
  unfold cplP spP
  simp only [e1, e2, Nat.zero_mul, List.take_zero, List.drop_zero, List.nil_append, List.set_cons_zero]

/-! ### A choice's verdict -/
def quadOk (P : Int) : List Int → List Int → List Int → List Int → Bool
  | a :: b :: c :: d :: l, x :: y :: cm, e :: h, z :: r => decide (Num.pow a z P = mulFrom P 1 [x, Num.pow b e P]) && (decide (Num.pow c z P = mulFrom P 1 [y, Num.pow d e P]) && quadOk P l cm h r)
  | _, _, _, _ => true
def svoV (P Q G : Int) (s : ByteArray) (l : List Int) (p : PrD) : Bool :=
  decide (p.c.length = 2 * (l.length / 4)) && (decide (p.h.length = l.length / 4) && (decide (p.r.length = l.length / 4) && (allEl P Q p.c && (allIn p.h 0 (Q - 1) && (allIn p.r 0 (Q - 1) && (decide (sumFrom Q 0 p.h = chX P Q G s (l ++ p.c)) && quadOk P l p.c p.h p.r))))))
theorem pows_one {P a z : Int} (hP : 2 ≤ P) : powsFrom P 1 [a] [z] = Num.pow a z P := by
  have := pow_lt a z P hP
  exact mul_one_lt this.1 this.2
theorem cmts_quad {P Q a b c d e z : Int} (hP : 2 ≤ P) (l h r : List Int) : cmts P Q (quads (a :: b :: c :: d :: l)) (e :: h) (z :: r) = decW P Q b (Num.pow a z P) e :: decW P Q d (Num.pow c z P) e :: cmts P Q (quads l) h r := by
  simp only [quads, cmts, wid, List.headD_cons, List.length_cons, List.length_nil, Nat.zero_add, List.take_succ_cons, List.take_zero, imgs, List.map_cons, List.map_nil, List.zipWith_cons_cons, List.zipWith_nil_left, List.drop_succ_cons, List.drop_zero, List.cons_append, List.nil_append]
  rw [pows_one hP, pows_one hP]
theorem quadOk_iff {P Q G : Int} (hg : goodB P Q G = true) : ∀ (n : Nat) (l cm h r : List Int), l.length = n * 4 → cm.length = n * 2 → h.length = n → r.length = n → allEl P Q l = true → allEl P Q cm = true → allIn h 0 (Q - 1) = true → allIn r 0 (Q - 1) = true →
    (quadOk P l cm h r = true ↔ cm = cmts P Q (quads l) h r)
  | 0, l, cm, h, r, h1, h2, h3, h4, _, _, _, _ => by
    obtain rfl : l = [] := List.length_eq_zero_iff.1 (by omega)
    obtain rfl : cm = [] := List.length_eq_zero_iff.1 (by omega)
    simp [quadOk, quads, cmts]
  | n + 1, [], _, _, _, h1, _, _, _, _, _, _, _ => by simp at h1
  | n + 1, [_], _, _, _, h1, _, _, _, _, _, _, _ => by simp at h1; omega
  | n + 1, [_, _], _, _, _, h1, _, _, _, _, _, _, _ => by simp at h1; omega
  | n + 1, [_, _, _], _, _, _, h1, _, _, _, _, _, _, _ => by simp at h1; omega
  | n + 1, _ :: _ :: _ :: _ :: _, [], _, _, _, h2, _, _, _, _, _, _ => by simp at h2
  | n + 1, _ :: _ :: _ :: _ :: _, [_], _, _, _, h2, _, _, _, _, _, _ => by simp at h2; omega
  | n + 1, _ :: _ :: _ :: _ :: _, _ :: _ :: _, [], _, _, _, h3, _, _, _, _, _ => by simp at h3
  | n + 1, _ :: _ :: _ :: _ :: _, _ :: _ :: _, _ :: _, [], _, _, _, h4, _, _, _, _ => by simp at h4
  | n + 1, a :: b :: c :: d :: l, x :: y :: cm, e :: h, z :: r, h1, h2, h3, h4, h5, h6, h7, h8 => by
    simp only [allEl, allIn, List.all_cons, Bool.and_eq_true, List.length_cons] at h1 h2 h3 h4 h5 h6 h7 h8
    have ih := quadOk_iff hg n l cm h r (by omega) (by omega) (by omega) (by omega) h5.2.2.2.2 h6.2.2 h7.2 h8.2
    have hP := (good_mo hg).1.1
    have he := inB_true.1 h7.1
    have hz := inB_true.1 h8.1
    have hx := el_rng h6.1
    have hy := el_rng h6.2.1
    have ha := pow_lt a z P hP
    have hc := pow_lt c z P hP
    rw [cmts_quad hP]
    simp only [quadOk, Bool.and_eq_true, decide_eq_true_eq, ih, List.cons.injEq]
    rw [mulFrom_two hx.1 hx.2, mulFrom_two hy.1 hy.2]
    have d1 := dec_iff hg h5.2.1 he.1 ha.1 ha.2 hx.1 hx.2
    have d2 := dec_iff hg h5.2.2.2.1 he.1 hc.1 hc.2 hy.1 hy.2
    constructor
    · rintro ⟨u, v, t⟩; exact ⟨(d1.2 u).symm, (d2.2 v).symm, t⟩
    · rintro ⟨u, v, t⟩; exact ⟨d1.1 u.symm, d2.1 v.symm, t⟩
theorem quads_rows : ∀ (n : Nat) (l : List Int), l.length = n * 4 → nRows (quads l) = n * 2 ∧ nCols (quads l) = n
  | 0, l, h => by
    have : l = [] := List.length_eq_zero_iff.1 (by omega)
    subst this; exact ⟨rfl, rfl⟩
  | n + 1, [], h => by simp at h
  | n + 1, [_], h => by simp at h; omega
  | n + 1, [_, _], h => by simp at h; omega
  | n + 1, [_, _, _], h => by simp at h; omega
  | n + 1, a :: b :: c :: d :: r, h => by
    simp only [List.length_cons] at h
    have ih := quads_rows n r (by omega)
    unfold nRows nCols at ih ⊢
    simp only [quads, List.map_cons, List.sum_cons, wid, List.headD_cons, List.length_cons, List.length_nil, Nat.zero_add] at ih ⊢
    omega
theorem svoV_true {P Q G : Int} {s : ByteArray} {l : List Int} {p : PrD} : svoV P Q G s l p = true ↔ p.c.length = 2 * (l.length / 4) ∧ p.h.length = l.length / 4 ∧ p.r.length = l.length / 4 ∧ allEl P Q p.c = true ∧ allIn p.h 0 (Q - 1) = true ∧ allIn p.r 0 (Q - 1) = true ∧ sumFrom Q 0 p.h = chX P Q G s (l ++ p.c) ∧ quadOk P l p.c p.h p.r = true := by
  simp [svoV]
theorem vr_cho {P Q G : Int} {s : ByteArray} {l : List Int} {p : PrD} {n : Nat} (hn : l.length = n * 4) (h : vrB P Q G s (.cho l) = true) :
    vrV P Q G s (.cho l) p = svoV P Q G s l p := by
  have hv := h
  simp only [vrB, St.ok, choB, Bool.and_eq_true, decide_eq_true_eq] at h
  obtain ⟨hg, _, hl, hi⟩ := h
  have hQ : 0 < Q := by have := goodB_true.1 hg; omega
  obtain ⟨q1, q2⟩ := quads_rows n l hn
  have q3 := quads_length n l hn
  have hd : l.length / 4 = n := by omega
  have hx := chX_rng (P := P) (G := G) (s := s) (zs := l ++ p.c) hQ
  rw [Bool.eq_iff_iff, vrV_true, formB_true, svoV_true, hd]
  show _ ∧ (_ = nRows (quads l) ∧ _ ∧ _ = (quads l).length ∧ _ ∧ _ = nCols (quads l) ∧ _) ∧ subF Q (chX P Q G s (l ++ p.c)) p.h = 0 ∧ p.c = cmts P Q (quads l) p.h p.r ↔ _
  rw [q1, q2, q3, sub_zero_iff hQ hx]
  constructor
  · rintro ⟨_, ⟨c1, c4, c2, c5, c3, c6⟩, b, c⟩
    rw [elsB_all (by omega)] at c4
    rw [exsB'_all (by omega)] at c5 c6
    exact ⟨by omega, c2, c3, c4, c5, c6, b, (quadOk_iff hg n l p.c p.h p.r hn c1 c2 c3 hi c4 c5 c6).2 c⟩
  · rintro ⟨c1, c2, c3, c4, c5, c6, b, c⟩
    refine ⟨hv, ⟨by omega, by rw [elsB_all (by omega)]; exact c4, c2, by rw [exsB'_all (by omega)]; exact c5, c3, by rw [exsB'_all (by omega)]; exact c6⟩, b, ?_⟩
    exact (quadOk_iff hg n l p.c p.h p.r hn (by omega) c2 c3 hi c4 c5 c6).1 c

/-! ### A choice's proof -/
/-- The challenges and responses that are known ahead: for the i-th statement on, m of them. -/
def drH (which : Nat) : Nat → Nat → List Int → List Int
  | _, 0, _ => []
  | i, m + 1, cs => if i = which then 0 :: drH which (i + 1) m cs else match cs with
    | c :: _ :: r => c :: drH which (i + 1) m r
    | _ => []
def drZ (which : Nat) (w : Int) : Nat → Nat → List Int → List Int
  | _, 0, _ => []
  | i, m + 1, cs => if i = which then w :: drZ which w (i + 1) m cs else match cs with
    | _ :: z :: r => z :: drZ which w (i + 1) m r
    | _ => []
/-- How many coins are read. -/
def needC (which i m : Nat) : Nat := if i ≤ which ∧ which < i + m then 2 * m - 2 else 2 * m
theorem dr_length (which : Nat) (w : Int) : ∀ (m i : Nat) (cs : List Int), needC which i m ≤ cs.length → (drH which i m cs).length = m ∧ (drZ which w i m cs).length = m
  | 0, _, _, _ => ⟨rfl, rfl⟩
  | m + 1, i, cs, h => by
    by_cases hi : i = which
    · have ih := dr_length which w m (i + 1) cs (by unfold needC at h ⊢; split at h <;> split <;> omega)
      simp [drH, drZ, hi] at ih ⊢
      exact ih
    · match cs, h with
      | [], h => exfalso; unfold needC at h; simp at h; split at h <;> omega
      | [_], h => exfalso; unfold needC at h; simp at h; split at h <;> omega
      | c :: z :: r, h =>
        have ih := dr_length which w m (i + 1) r (by unfold needC at h ⊢; simp only [List.length_cons] at h; split at h <;> split <;> omega)
        simp [drH, drZ, hi] at ih ⊢
        exact ih
theorem dr_in {Q : Int} (which : Nat) (w : Int) (hQ : 0 < Q) (hw : 0 ≤ w ∧ w < Q) : ∀ (m i : Nat) (cs : List Int), allIn cs 0 (Q - 1) = true → allIn (drH which i m cs) 0 (Q - 1) = true ∧ allIn (drZ which w i m cs) 0 (Q - 1) = true
  | 0, _, _, _ => ⟨rfl, rfl⟩
  | m + 1, i, cs, h => by
    by_cases hi : i = which
    · have ih := dr_in which w hQ hw m (i + 1) cs h
      simp only [drH, drZ, hi, if_true, allIn, List.all_cons, Bool.and_eq_true] at ih ⊢
      exact ⟨⟨inB_true.2 (by omega), ih.1⟩, inB_true.2 (by omega), ih.2⟩
    · match cs, h with
      | [], h => simp [drH, drZ, hi, allIn]
      | [_], h => simp [drH, drZ, hi, allIn]
      | c :: z :: r, h =>
        simp only [allIn, List.all_cons, Bool.and_eq_true] at h
        have ih := dr_in which w hQ hw m (i + 1) r h.2.2
        simp only [drH, drZ, hi, if_false, allIn, List.all_cons, Bool.and_eq_true] at ih ⊢
        exact ⟨⟨h.1, ih.1⟩, h.2.1, ih.2⟩
/-- The commits as the reference reckons them. -/
def oneC (P Q : Int) (which : Nat) (w : Int) : Nat → List Int → List Int → List Int
  | i, a :: b :: c :: d :: l, cs => if i = which then Num.pow a w P :: Num.pow c w P :: oneC P Q which w (i + 1) l cs else match cs with
    | e :: z :: r => mulFrom P 1 [Num.pow a z P, Num.pow b ((-e) % Q) P] :: mulFrom P 1 [Num.pow c z P, Num.pow d ((-e) % Q) P] :: oneC P Q which w (i + 1) l r
    | _ => []
  | _, _, _ => []
theorem oneC_eq {P Q G : Int} (hg : goodB P Q G = true) (which : Nat) (w : Int) (hw : 0 ≤ w ∧ w < Q) : ∀ (m i : Nat) (l cs : List Int), l.length = m * 4 → needC which i m ≤ cs.length → allEl P Q l = true → allIn cs 0 (Q - 1) = true →
    oneC P Q which w i l cs = cmts P Q (quads l) (drH which i m cs) (drZ which w i m cs)
  | 0, i, l, cs, h, _, _, _ => by
    obtain rfl : l = [] := List.length_eq_zero_iff.1 (by omega)
    simp [oneC, quads, cmts]
  | m + 1, _, [], _, h, _, _, _ => by simp at h
  | m + 1, _, [_], _, h, _, _, _ => by simp at h; omega
  | m + 1, _, [_, _], _, h, _, _, _ => by simp at h; omega
  | m + 1, _, [_, _, _], _, h, _, _, _ => by simp at h; omega
  | m + 1, i, a :: b :: c :: d :: l, cs, h, hc, h1, h2 => by
    have h1' := h1
    simp only [allEl, List.all_cons, Bool.and_eq_true, List.length_cons] at h1 h
    have hP := (good_mo hg).1.1
    by_cases hi : i = which
    · have ih := oneC_eq hg which w hw m (i + 1) l cs (by omega) (by unfold needC at hc ⊢; split at hc <;> split <;> omega) h1.2.2.2.2 h2
      have ha := pow_lt a w P hP
      have hcc := pow_lt c w P hP
      simp only [oneC, drH, drZ, hi, if_true] at ih ⊢
      rw [cmts_quad hP, dec_zero hg h1.2.1 ha.1 ha.2, dec_zero hg h1.2.2.2.1 hcc.1 hcc.2, ih]
    · match cs, hc, h2 with
      | [], hc, _ => exfalso; unfold needC at hc; simp at hc; split at hc <;> omega
      | [_], hc, _ => exfalso; unfold needC at hc; simp at hc; split at hc <;> omega
      | e :: z :: r, hc, h2 =>
        simp only [allIn, List.all_cons, Bool.and_eq_true] at h2
        have he := inB_true.1 h2.1
        have hz := inB_true.1 h2.2.1
        have ih := oneC_eq hg which w hw m (i + 1) l r (by omega) (by unfold needC at hc ⊢; simp only [List.length_cons] at hc; split at hc <;> split <;> omega) h1.2.2.2.2 h2.2.2
        have ha := pow_lt a z P hP
        have hcc := pow_lt c z P hP
        simp only [oneC, drH, drZ, hi, if_false] at ih ⊢
        rw [cmts_quad hP, ih, mulFrom_two ha.1 ha.2, mulFrom_two hcc.1 hcc.2, dec_neg hg (el_pow hg h1.1 hz.1) h1.2.1 ⟨he.1, by omega⟩, dec_neg hg (el_pow hg h1.2.2.1 hz.1) h1.2.2.2.1 ⟨he.1, by omega⟩]
def lastC (cs : List Int) : Int := cs.getLastD 0
def soP (P Q G : Int) (s : ByteArray) (l : List Int) (which : Nat) (x : Int) (cs : List Int) : PrD :=
  let n := l.length / 4
  let w := lastC cs
  let cm := oneC P Q which w 0 l cs
  let h := drH which 0 n cs
  let own := (chX P Q G s (l ++ cm) - sumFrom Q 0 h) % Q
  ⟨cm, h.set which own, (drZ which w 0 n cs).set which ((w + own * x) % Q)⟩
def eqB (P Q G : Int) (g1 y1 g2 y2 x : Int) : Bool := decide (Num.pow g1 x P = y1) && decide (Num.pow g2 x P = y2)
def poB (P Q G : Int) (s : ByteArray) (l : List Int) (which x : Int) (cs : List Int) : Bool :=
  vrB P Q G s (.cho l) && (inB which 0 ((l.length / 4 : Nat) - 1) && (exB Q x && (decide ((cs.length : Int) = 2 * (l.length / 4 : Nat) - 1) && (allIn cs 0 (Q - 1) &&
    (decide (Num.pow (l.getD (which.toNat * 4) 0) x P = l.getD (which.toNat * 4 + 1) 0) && decide (Num.pow (l.getD (which.toNat * 4 + 2) 0) x P = l.getD (which.toNat * 4 + 3) 0))))))
def poV (P Q G : Int) (s : ByteArray) (l : List Int) (which x : Int) (cs : List Int) : PrD := if poB P Q G s l which x cs then soP P Q G s l which.toNat x cs else nilP
theorem sxpy_one {Q e x a : Int} : ∀ (k : Nat) (zs : List Int), zs[k]? = some a → zs.take k ++ sxpy Q (zs.drop k) e [x] = zs.set k ((a + e * x) % Q)
  | _, [], h => by simp at h
  | 0, b :: zs, h => by
    simp only [List.getElem?_cons_zero, Option.some.injEq] at h
    subst h
    simp [sxpy, sxpy_nil]
  | k + 1, b :: zs, h => by
    simp only [List.getElem?_cons_succ] at h
    simp only [List.take_succ_cons, List.drop_succ_cons, List.cons_append, List.set_cons_succ]
    rw [sxpy_one k zs h]
theorem drZ_at (which : Nat) (w : Int) : ∀ (m i : Nat) (cs : List Int), needC which i m ≤ cs.length → i ≤ which → which < i + m → (drZ which w i m cs)[which - i]? = some w
  | 0, i, _, _, h1, h2 => by omega
  | m + 1, i, cs, h, h1, h2 => by
    by_cases hi : i = which
    · simp [drZ, hi]
    · match cs, h with
      | [], h => exfalso; unfold needC at h; simp at h; split at h <;> omega
      | [_], h => exfalso; unfold needC at h; simp at h; split at h <;> omega
      | c :: z :: r, h =>
        have ih := drZ_at which w m (i + 1) r (by unfold needC at h ⊢; simp only [List.length_cons] at h; split at h <;> split <;> omega) (by omega) (by omega)
        simp only [drZ, hi, if_false]
        rw [show which - i = (which - (i + 1)) + 1 by omega, List.getElem?_cons_succ]
        exact ih
theorem sub_own {Q e : Int} (hQ : 0 < Q) (he : 0 ≤ e ∧ e < Q) (cs : List Int) : subF Q e cs = (e - sumFrom Q 0 cs) % Q := by
  have h1 := subF_sum hQ cs e
  have h2 := sumFrom_sum (Q := Q) cs 0
  have r1 := subF_rng hQ he cs e he
  rw [Int.emod_eq_of_lt r1.1 r1.2] at h1
  rw [h1, Int.sub_emod, Int.sub_emod e (sumFrom Q 0 cs), h2, Int.zero_add]
theorem lastC_in {Q : Int} {cs : List Int} (hQ : 0 < Q) (h : allIn cs 0 (Q - 1) = true) : 0 ≤ lastC cs ∧ lastC cs < Q := by
  unfold lastC
  rw [List.getLastD_eq_getLast?]
  cases hl : cs.getLast? with
  | none => simp; omega
  | some z =>
    unfold allIn at h
    rw [List.all_eq_true] at h
    have := inB_true.1 (h z (List.mem_of_getLast? hl))
    simp; omega
theorem cpl_cho {P Q G : Int} {s : ByteArray} {l : List Int} {which : Nat} {x : Int} {cs : List Int} {n : Nat} (hn : l.length = n * 4) (hv : vrB P Q G s (.cho l) = true) (hw : which < n) (hc : cs.length + 1 = 2 * n) (hi : allIn cs 0 (Q - 1) = true) :
    cplP P Q G s (.cho l) (drH which 0 n cs) (drZ which (lastC cs) 0 n cs) which [x] = soP P Q G s l which x cs := by
  simp only [vrB, St.ok, choB, Bool.and_eq_true, decide_eq_true_eq] at hv
  obtain ⟨hg, _, hl, hel⟩ := hv
  have hQ : 0 < Q := by have := goodB_true.1 hg; omega
  have hd : l.length / 4 = n := by omega
  have hnc : needC which 0 n ≤ cs.length := by unfold needC; split <;> omega
  have e1 := oneC_eq hg which (lastC cs) (lastC_in hQ hi) n 0 l cs hn hnc hel hi
  have hx := chX_rng (P := P) (G := G) (s := s) (zs := l ++ oneC P Q which (lastC cs) 0 l cs) hQ
  have hz := drZ_at which (lastC cs) n 0 cs hnc (Nat.zero_le _) (by omega)
  rw [Nat.sub_zero] at hz
  unfold cplP soP
  simp only [St.parts, St.els, missV, hd, ← e1, List.length_cons, List.length_nil, Nat.zero_add, Nat.mul_one]
  rw [sub_own hQ hx, sxpy_one _ _ hz]

end Go.Proofs.Ytdnofcpobpoehaa

