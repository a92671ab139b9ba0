/- Plain facts for bits and sums: the reference's reckoning is the program's. No Go in sight. -/
import Derived.Test.YtfjaohmildkeoaaComG
import Derived.Test.YtfjaohmildkeoaaSigF
namespace Go.Proofs.Ytfjaohmildkeoaa
open Go.RowKit
set_option linter.unusedVariables false
set_option linter.unusedSimpArgs false

abbrev bitL : ByteArray := { data := #[98, 105, 116] }
abbrev sumL : ByteArray := { data := #[115, 117, 109] }
theorem pow_one' {y P : Int} (h0 : 0 ≤ y) (h1 : y < P) (hP : 2 ≤ P) : Num.pow y 1 P = y := by
  unfold Num.pow
  rw [Num.pw_eq _ _ _ _ (by omega)]
  simp only [Int.toNat_one, Nat.pow_one, Nat.mul_one, Nat.one_mul]
  rw [Nat.mod_eq_of_lt (by omega)]
  omega

/-! ### What a commitment hides -/
/-- c / G for case 1, c for case 0, as the reference reckons it. -/
def rcV (P Q G c : Int) (k : Nat) : Int := if k = 1 then c * Num.pow G (Q - 1) P % P else c
theorem rc_zero {P Q G c : Int} (hg : goodB P Q G = true) (hc : elB P Q c = true) : decW P Q G c 0 = c :=
  dec_zero hg (good_el hg) (el_rng hc).1 (el_rng hc).2
theorem rc_one {P Q G c : Int} (hg : goodB P Q G = true) (hc : elB P Q c = true) : decW P Q G c 1 = rcV P Q G c 1 := by
  have h := el_rng (good_el hg)
  have hP := (good_mo hg).1.1
  unfold decW rcV
  rw [pow_one' h.1 h.2 hP]; rfl
theorem rc_el {P Q G c : Int} (hg : goodB P Q G = true) (hc : elB P Q c = true) (k : Nat) : elB P Q (rcV P Q G c k) = true := by
  by_cases h : k = 1
  · subst h
    rw [← rc_one hg hc]
    exact dec_el hg (good_el hg) hc (by decide)
  · unfold rcV; rw [if_neg h]; exact hc
abbrev bitS (P Q G H c : Int) : St := .clm [([[H]], [decW P Q G c 0]), ([[H]], [decW P Q G c 1])] [H, c]
abbrev sumS (P Q G H c t : Int) : St := .clm [([[H]], [decW P Q G c t])] [H, c, t]
theorem bit_ok {P Q G H c : Int} (hg : goodB P Q G = true) (hH : elB P Q H = true) (hc : elB P Q c = true) : (bitS P Q G H c).ok P Q = true := by
  have h0 := dec_el hg (good_el hg) hc (Int.le_refl 0)
  have h1 := dec_el hg (good_el hg) hc (show (0 : Int) ≤ 1 by decide)
  have e1 := el_sm hg hH
  have e2 := el_sm hg hc
  simp [St.ok, rowsB, rowB, wid, allEl, smB, hH, h0, h1, e1, e2]
theorem sum_ok {P Q G H c t : Int} (hg : goodB P Q G = true) (hH : elB P Q H = true) (hc : elB P Q c = true) (ht : 0 ≤ t ∧ t < Q) : (sumS P Q G H c t).ok P Q = true := by
  have h0 := dec_el hg (good_el hg) hc ht.1
  have e1 := el_sm hg hH
  have e2 := el_sm hg hc
  have e3 := (good_rng hg).2.1
  have e4 : 0 ≤ t ∧ t ≤ 2000000000 := by omega
  simp [St.ok, rowsB, rowB, wid, allEl, smB, hH, h0, e1, e2, e4]

/-! ### A bit's verdict -/
def rbOk (P Q G H c : Int) : PrD → Bool
  | ⟨[x0, x1], [e0, e1], [z0, z1]⟩ => decide (Num.pow H z0 P = x0 * Num.pow (rcV P Q G c 0) e0 P % P) && (decide (Num.pow H z1 P = x1 * Num.pow (rcV P Q G c 1) e1 P % P) && decide ((e0 + e1) % Q = chX P Q G bitL [H, c, x0, x1]))
  | _ => false
/-- The form of a proof. -/
def foV (P Q : Int) (p : PrD) (n1 n2 n3 : Nat) : Bool := decide (p.c.length = n1) && (decide (p.h.length = n2) && (decide (p.r.length = n3) && (allEl P Q p.c && (allIn p.h 0 (Q - 1) && allIn p.r 0 (Q - 1)))))
theorem foV_true {P Q : Int} {p : PrD} {n1 n2 n3 : Nat} : foV P Q p n1 n2 n3 = true ↔ p.c.length = n1 ∧ p.h.length = n2 ∧ p.r.length = n3 ∧ allEl P Q p.c = true ∧ allIn p.h 0 (Q - 1) = true ∧ allIn p.r 0 (Q - 1) = true := by simp [foV]
def rbV (P Q G H c : Int) (p : PrD) : Bool := foV P Q p 2 2 2 && rbOk P Q G H c p
theorem form_fo {P Q : Int} {ps : List LinD} {p : PrD} (h1 : nRows ps ≤ 24) (h2 : ps.length ≤ 24) (h3 : nCols ps ≤ 24) : formB P Q ps p = foV P Q p (nRows ps) ps.length (nCols ps) := by
  rw [Bool.eq_iff_iff, formB_true, foV_true]
  constructor
  · rintro ⟨a, b, c, d, e, f⟩
    rw [elsB_all (by omega)] at b
    rw [exsB'_all (by omega)] at d f
    exact ⟨a, c, e, b, d, f⟩
  · rintro ⟨a, c, e, b, d, f⟩
    exact ⟨a, by rw [elsB_all (by omega)]; exact b, c, by rw [exsB'_all (by omega)]; exact d, e, by rw [exsB'_all (by omega)]; exact f⟩
theorem two_list {l : List Int} (h : l.length = 2) : ∃ a b, l = [a, b] := by
  match l, h with
  | [a, b], _ => exact ⟨a, b, rfl⟩
theorem cmts_two {P Q H y0 y1 e0 e1 z0 z1 : Int} (hP : 2 ≤ P) : cmts P Q [([[H]], [y0]), ([[H]], [y1])] [e0, e1] [z0, z1] = [decW P Q y0 (Num.pow H z0 P) e0, decW P Q y1 (Num.pow H z1 P) e1] := by
  simp only [cmts, wid, List.headD_cons, List.length_cons, List.length_nil, Nat.zero_add, List.take_succ_cons, List.take_zero, imgs, List.map_cons, List.map_nil, List.zipWith_cons_cons, List.zipWith_nil_left, List.drop_succ_cons, List.drop_zero, List.cons_append, List.nil_append]
  rw [pows_one hP, pows_one hP]
theorem vr_bit {P Q G H c : Int} {p : PrD} (hg : goodB P Q G = true) (hH : elB P Q H = true) (hc : elB P Q c = true) : vrV P Q G bitL (bitS P Q G H c) p = rbV P Q G H c p := by
  have hv : vrB P Q G bitL (bitS P Q G H c) = true := by
    unfold vrB; rw [hg, bit_ok hg hH hc]; rfl
  have hf : formB P Q (bitS P Q G H c).parts p = foV P Q p 2 2 2 := form_fo (by simp [St.parts, nRows]) (by simp [St.parts]) (by simp [St.parts, nCols, wid])
  have hP := (good_mo hg).1.1
  have hQ : 0 < Q := by have := goodB_true.1 hg; omega
  unfold vrV rbV
  rw [hv, hf, Bool.true_and]
  cases h0 : foV P Q p 2 2 2
  · rfl
  · obtain ⟨f1, f2, f3, f4, f5, f6⟩ := foV_true.1 h0
    obtain ⟨pc, ph, pr⟩ := p
    simp only at f1 f2 f3 f4 f5 f6 ⊢
    obtain ⟨x0, x1, rfl⟩ := two_list f1
    obtain ⟨e0, e1, rfl⟩ := two_list f2
    obtain ⟨z0, z1, rfl⟩ := two_list f3
    simp only [allEl, allIn, List.all_cons, List.all_nil, Bool.and_eq_true, Bool.and_true] at f4 f5 f6
    have hx0 := el_rng f4.1
    have hx1 := el_rng f4.2
    have he0 := inB_true.1 f5.1
    have he1 := inB_true.1 f5.2
    have p0 := pow_lt H z0 P hP
    have p1 := pow_lt H z1 P hP
    have d0 := dec_iff (P := P) (x := Num.pow H z0 P) (a := x0) hg (rc_el hg hc 0) he0.1 p0.1 p0.2 hx0.1 hx0.2
    have d1 := dec_iff (P := P) (x := Num.pow H z1 P) (a := x1) hg (rc_el hg hc 1) he1.1 p1.1 p1.2 hx1.1 hx1.2
    have hx := chX_rng (P := P) (G := G) (s := bitL) (zs := [H, c, x0, x1]) hQ
    have hs := sub_zero_iff hQ hx [e0, e1]
    have hsm : sumFrom Q 0 [e0, e1] = (e0 + e1) % Q := by
      show ((0 + e0) % Q + e1) % Q = _
      rw [Int.zero_add, Int.emod_eq_of_lt he0.1 (by omega)]
    rw [hsm] at hs
    have c0 : rcV P Q G c 0 = c := rfl
    rw [Bool.true_and, Bool.true_and, Bool.eq_iff_iff]
    simp only [rbOk, Bool.and_eq_true, decide_eq_true_eq]
    show subF Q (chX P Q G bitL [H, c, x0, x1]) [e0, e1] = 0 ∧ [x0, x1] = cmts P Q [([[H]], [decW P Q G c 0]), ([[H]], [decW P Q G c 1])] [e0, e1] [z0, z1] ↔ _
    rw [cmts_two hP, rc_zero hg hc, rc_one hg hc, hs]
    rw [c0] at d0 ⊢
    simp only [List.cons.injEq, and_true]
    constructor
    · rintro ⟨a, b, d⟩; exact ⟨d0.1 b.symm, d1.1 d.symm, a⟩
    · rintro ⟨a, b, d⟩; exact ⟨d, (d0.2 a).symm, (d1.2 b).symm⟩

/-! ### A bit's proof -/
/-- With the coins a, e, z; m is the case that holds. -/
def biP (P Q G H c m r a e z : Int) : PrD :=
  if m = 0 then
    let x0 := Num.pow H a P
    let x1 := Num.pow H z P * Num.pow (rcV P Q G c 1) ((-e) % Q) P % P
    let e0 := (chX P Q G bitL [H, c, x0, x1] - e) % Q
    ⟨[x0, x1], [e0, e], [(a + e0 * r) % Q, z]⟩
  else
    let x0 := Num.pow H z P * Num.pow (rcV P Q G c 0) ((-e) % Q) P % P
    let x1 := Num.pow H a P
    let e1 := (chX P Q G bitL [H, c, x0, x1] - e) % Q
    ⟨[x0, x1], [e, e1], [z, (a + e1 * r) % Q]⟩
theorem H_pow_el {P Q G H a : Int} (hg : goodB P Q G = true) (hH : elB P Q H = true) (ha : 0 ≤ a) : elB P Q (Num.pow H a P) = true := el_pow hg hH ha
theorem cpl_bit0 {P Q G H c r a e z : Int} (hg : goodB P Q G = true) (hH : elB P Q H = true) (hc : elB P Q c = true) (ha : 0 ≤ a ∧ a < Q) (he : 0 ≤ e ∧ e < Q) (hz : 0 ≤ z ∧ z < Q) :
    cplP P Q G bitL (bitS P Q G H c) [0, e] [a, z] 0 [r] = biP P Q G H c 0 r a e z := by
  have hP := (good_mo hg).1.1
  have hQ : 0 < Q := by omega
  have p0 := pow_lt H a P hP
  have e1 := dec_neg (P := P) hg (H_pow_el hg hH hz.1) (rc_el hg hc 1) he
  have e0 := dec_zero (P := P) (x := Num.pow H a P) hg (rc_el hg hc 0) p0.1 p0.2
  have c0 : rcV P Q G c 0 = c := rfl
  rw [c0] at e0
  have hx := chX_rng (P := P) (G := G) (s := bitL) (zs := [H, c, Num.pow H a P, Num.pow H z P * Num.pow (rcV P Q G c 1) ((-e) % Q) P % P]) hQ
  have hs := sub_own hQ hx [0, e]
  have hsm : sumFrom Q 0 [0, e] = e := by
    show ((0 + 0) % Q + e) % Q = _
    rw [Int.add_zero, Int.zero_emod, Int.zero_add, Int.emod_eq_of_lt he.1 he.2]
  rw [hsm] at hs
  have hcm : cmts P Q (bitS P Q G H c).parts [0, e] [a, z] = [Num.pow H a P, Num.pow H z P * Num.pow (rcV P Q G c 1) ((-e) % Q) P % P] := by
    show cmts P Q [([[H]], [decW P Q G c 0]), ([[H]], [decW P Q G c 1])] [0, e] [a, z] = _
    rw [cmts_two hP, rc_zero hg hc, rc_one hg hc, e0, e1]
  have hms : missV P Q G bitL (bitS P Q G H c) [Num.pow H a P, Num.pow H z P * Num.pow (rcV P Q G c 1) ((-e) % Q) P % P] [0, e] = _ := hs
  unfold cplP biP
  simp only [hcm, hms, if_true, List.set_cons_zero, List.length_cons, List.length_nil, Nat.zero_add, Nat.zero_mul, List.take_zero, List.drop_zero, List.nil_append, sxpy]
theorem cpl_bit1 {P Q G H c r a e z : Int} (hg : goodB P Q G = true) (hH : elB P Q H = true) (hc : elB P Q c = true) (ha : 0 ≤ a ∧ a < Q) (he : 0 ≤ e ∧ e < Q) (hz : 0 ≤ z ∧ z < Q) :
    cplP P Q G bitL (bitS P Q G H c) [e, 0] [z, a] 1 [r] = biP P Q G H c 1 r a e z := by
  have hP := (good_mo hg).1.1
  have hQ : 0 < Q := by omega
  have p0 := pow_lt H a P hP
  have e1 := dec_neg (P := P) hg (H_pow_el hg hH hz.1) (rc_el hg hc 0) he
  have e0 := dec_zero (P := P) (x := Num.pow H a P) hg (rc_el hg hc 1) p0.1 p0.2
  have c0 : rcV P Q G c 0 = c := rfl
  rw [c0] at e1
  have hx := chX_rng (P := P) (G := G) (s := bitL) (zs := [H, c, Num.pow H z P * Num.pow c ((-e) % Q) P % P, Num.pow H a P]) hQ
  have hs := sub_own hQ hx [e, 0]
  have hsm : sumFrom Q 0 [e, 0] = e := by
    show ((0 + e) % Q + 0) % Q = _
    rw [Int.zero_add, Int.add_zero, Int.emod_emod, Int.emod_eq_of_lt he.1 he.2]
  rw [hsm] at hs
  have hcm : cmts P Q (bitS P Q G H c).parts [e, 0] [z, a] = [Num.pow H z P * Num.pow c ((-e) % Q) P % P, Num.pow H a P] := by
    show cmts P Q [([[H]], [decW P Q G c 0]), ([[H]], [decW P Q G c 1])] [e, 0] [z, a] = _
    rw [cmts_two hP, rc_zero hg hc, rc_one hg hc, e0, e1]
  have hms : missV P Q G bitL (bitS P Q G H c) [Num.pow H z P * Num.pow c ((-e) % Q) P % P, Num.pow H a P] [e, 0] = _ := hs
  unfold cplP biP
  simp only [hcm, hms, c0, show ¬ (1 : Int) = 0 by decide, if_false, List.set_cons_zero, List.set_cons_succ, List.length_cons, List.length_nil, Nat.zero_add, Nat.mul_one, List.take_succ_cons, List.take_zero, List.drop_succ_cons, List.drop_zero, List.cons_append, List.nil_append, sxpy]

/-! ### Sums -/
/-- The commitment to the sums without G^total is a power of H. -/
theorem sum_img {P Q G H t r : Int} (hg : goodB P Q G = true) (hH : elB P Q H = true) (ht : 0 ≤ t ∧ t < Q) (hr : 0 ≤ r) : decW P Q G (cmW P G H t r) t = Num.pow H r P := by
  have hP := (good_mo hg).1.1
  have p0 := pow_lt H r P hP
  have hc : 0 ≤ cmW P G H t r ∧ cmW P G H t r < P := ⟨Int.emod_nonneg _ (by omega), Int.emod_lt_of_pos _ (by omega)⟩
  refine (dec_iff hg (good_el hg) ht.1 hc.1 hc.2 p0.1 p0.2).2 ?_
  unfold cmW
  rw [Int.mul_comm]
def suP (P Q G H t r a : Int) : PrD :=
  let c := cmW P G H t r
  let x := Num.pow H a P
  let e := chX P Q G sumL [H, c, t, x]
  ⟨[x], [e], [(a + e * r) % Q]⟩
theorem cpl_sum {P Q G H t r a : Int} (hg : goodB P Q G = true) (hH : elB P Q H = true) (ht : 0 ≤ t ∧ t < Q) (hr : 0 ≤ r ∧ r < Q) (ha : 0 ≤ a ∧ a < Q) :
    cplP P Q G sumL (sumS P Q G H (cmW P G H t r) t) [0] [a] 0 [r] = suP P Q G H t r a := by
  have hP := (good_mo hg).1.1
  have i1 : ∀ e, imgs P [[H]] [e] = [Num.pow H e P] := fun e => by simp only [imgs, List.map_cons, List.map_nil, pows_one hP]
  have hi : imB P Q G [[H]] [r] = true := by
    refine imB_true.2 ⟨hg, by simp [rowsB, rowB, wid, allEl, hH], rfl, ?_⟩
    simp only [allIn, List.all_cons, List.all_nil, Bool.and_true]
    exact inB_true.2 ⟨hr.1, by omega⟩
  have ha' : allIn [a] 0 (Q - 1) = true := by
    simp only [allIn, List.all_cons, List.all_nil, Bool.and_true]
    exact inB_true.2 ⟨ha.1, by omega⟩
  have := cpl_clm (s := sumL) (el := [H, cmW P G H t r, t]) (cs := [a]) hi rfl ha'
  rw [i1] at this
  show cplP P Q G sumL (.clm [([[H]], [decW P Q G (cmW P G H t r) t])] [H, cmW P G H t r, t]) [0] [a] 0 [r] = _
  rw [sum_img hg hH ht hr.1, this]
  unfold spE suP
  simp only [i1, sxpy, List.cons_append, List.nil_append]
/-- A sum's verdict, as the reference reckons it: y = c / G^total. -/
def suOk (P Q G H c t : Int) : PrD → Bool
  | ⟨[x], [e], [z]⟩ => decide (e = chX P Q G sumL [H, c, t, x]) && decide (Num.pow H z P = x * Num.pow (c * Num.pow G ((-t) % Q) P % P) e P % P)
  | _ => false
def suV (P Q G H c t : Int) (p : PrD) : Bool := foV P Q p 1 1 1 && suOk P Q G H c t p
theorem one_list {l : List Int} (h : l.length = 1) : ∃ a, l = [a] := List.length_eq_one_iff.1 h
theorem vr_sum {P Q G H c t : Int} {p : PrD} (hg : goodB P Q G = true) (hH : elB P Q H = true) (hc : elB P Q c = true) (ht : 0 ≤ t ∧ t < Q) : vrV P Q G sumL (sumS P Q G H c t) p = suV P Q G H c t p := by
  have hv : vrB P Q G sumL (sumS P Q G H c t) = true := by
    unfold vrB; rw [hg, sum_ok hg hH hc ht]; rfl
  have hf : formB P Q (sumS P Q G H c t).parts p = foV P Q p 1 1 1 := form_fo (by simp [St.parts, nRows]) (by simp [St.parts]) (by simp [St.parts, nCols, wid])
  have hP := (good_mo hg).1.1
  have hQ : 0 < Q := by have := goodB_true.1 hg; omega
  have hy := dec_el hg (good_el hg) hc ht.1
  have hyn := dec_neg (P := P) hg hc (good_el hg) ht
  unfold vrV suV
  rw [hv, hf, Bool.true_and]
  cases h0 : foV P Q p 1 1 1
  · rfl
  · obtain ⟨f1, f2, f3, f4, f5, f6⟩ := foV_true.1 h0
    obtain ⟨pc, ph, pr⟩ := p
    simp only at f1 f2 f3 f4 f5 f6 ⊢
    obtain ⟨x, rfl⟩ := one_list f1
    obtain ⟨e, rfl⟩ := one_list f2
    obtain ⟨z, rfl⟩ := one_list f3
    simp only [allEl, allIn, List.all_cons, List.all_nil, Bool.and_true] at f4 f5 f6
    have hx0 := el_rng f4
    have he := inB_true.1 f5
    have p0 := pow_lt H z P hP
    have d0 := dec_iff (P := P) (x := Num.pow H z P) (a := x) hg hy he.1 p0.1 p0.2 hx0.1 hx0.2
    have hx := chX_rng (P := P) (G := G) (s := sumL) (zs := [H, c, t, x]) hQ
    have hs := sub_zero_iff hQ hx [e]
    have hsm : sumFrom Q 0 [e] = e := by
      show (0 + e) % Q = _
      rw [Int.zero_add, Int.emod_eq_of_lt he.1 (by omega)]
    rw [hsm] at hs
    have hcm : cmts P Q [([[H]], [decW P Q G c t])] [e] [z] = [decW P Q (decW P Q G c t) (Num.pow H z P) e] := by
      simp only [cmts, wid, List.headD_cons, List.length_cons, List.length_nil, Nat.zero_add, List.take_succ_cons, List.take_zero, imgs, List.map_cons, List.map_nil, List.zipWith_cons_cons, List.zipWith_nil_left, List.drop_succ_cons, List.drop_zero, List.cons_append, List.nil_append]
      rw [pows_one hP]
    rw [Bool.true_and, Bool.true_and, Bool.eq_iff_iff]
    simp only [suOk, Bool.and_eq_true, decide_eq_true_eq]
    show subF Q (chX P Q G sumL [H, c, t, x]) [e] = 0 ∧ [x] = cmts P Q [([[H]], [decW P Q G c t])] [e] [z] ↔ _
    rw [hcm, ← hyn, hs]
    simp only [List.cons.injEq, and_true]
    constructor
    · rintro ⟨a, b⟩; exact ⟨a, d0.1 b.symm⟩
    · rintro ⟨a, b⟩; exact ⟨a, (d0.2 b).symm⟩

end Go.Proofs.Ytfjaohmildkeoaa

