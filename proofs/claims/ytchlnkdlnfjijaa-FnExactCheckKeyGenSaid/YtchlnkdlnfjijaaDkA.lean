/- Chapters 11 and 12, the program: dealings that are alike; IsKeyGenInput. -/
import Derived.Test.YtchlnkdlnfjijaaShS
import Derived.Deep.RegionHeld3
namespace Go.Proofs.Ytchlnkdlnfjijaa
open Go.RowKit
set_option linter.unusedVariables false
set_option linter.unusedSimpArgs false

theorem inI_nilc {P : Nat} {w : World} {a : Option Addr} {n c : Nat} {z : List Int} (h : InI P w (.slice a n c) z) : a = none → c = 0 := by
  obtain ⟨_, a', c', hv, _, h1, _⟩ := h
  simp only [Value.slice.injEq] at hv
  obtain ⟨rfl, _, rfl⟩ := hv
  exact h1
/-- Dealings are valid and alike. -/
def alB (P Q : Int) (ds : List DlD) : Bool := inB (ds.length : Int) 1 7 && (ds.all (fun d => dlB P Q d.c d.s) && ds.all fun d => likeD (ds.headD nilD) d)
theorem sdB_al (P Q G : Int) (ds : List DlD) : sdB P Q G ds = (trB P Q G && alB P Q ds) := rfl

set_option maxRecDepth 100000 in
set_option maxHeartbeats 3200000 in
theorem areAlike_any (P Q G : Int) (hm : Mo P Q) {B : Nat} {v : Value} {ds : List DlD} (hl : ds.length ≤ 1048576) (hr : nDs ds ≤ 1048576) {w : World} (hz : InDs B w v ds) :
    Calls Try.prog 88 #[gv P Q G, v] w fun e w' => e = .returned (.bool (alB P Q ds)) ∧ Below w.heap.size w w' := by
  obtain ⟨la, lc, rfl⟩ := hz.shape
  have hmf : ∀ (fn : Fn) (first cap : Array Value) (w : World), (Instr.makeFunc fn first cap).run Try.prog w = .ok (.func fn first cap) w := fun _ _ _ _ => rfl
  have G_0 := Lib.hid (gr_atS w w.heap.size rfl P Q G 24)
  have HB_0 := Lib.hid (show Below w.heap.size w (w.alloc (.cells #[.int .i64 P, .int .i64 Q, .int .i64 G] 24)) from ba _ _)
  have L_0 := Lib.hid (hz.below HB_0.out)
  by_cases h9 : ds.length = 0
  · have hq9 : ¬ ((1 : Int) ≤ (ds.length : Int)) := by omega
    have E1 := Lib.hid (show alB P Q ds = false by simp [alB, inB_false.2 (show (ds.length : Int) < 1 ∨ 7 < (ds.length : Int) by omega)])
    rw [E1.out]
    clear h9
    go_enter Try.func88, Try.ntmps88
    go_wp2
    go_ret
    exact ⟨rfl, HB_0.out⟩
  have hq9 : ¬ ((1 : Int) > (ds.length : Int)) := by omega
  have hq8 : (1 : Int) ≤ (ds.length : Int) := by omega
  have h10 : 1 ≤ ds.length := by omega
  obtain ⟨lb, lo, x, y, d0, rfl, hlb, hx, hy, hi, hj, hd⟩ := L_0.out.at (k := 0) (by omega)
  obtain ⟨a1, a2, rfl⟩ := hi.shape
  obtain ⟨b1, b2, rfl⟩ := hj.shape
  have hd0 : ds.headD nilD = d0 := by rw [show ds = d0 :: ds.drop 1 from hd]; rfl
  have E_0 := Lib.hid (show DC _ lb lo (.slice a1 d0.c.length a2) (.slice b1 d0.s.length b2) from ⟨by simpa using hx, by simpa using hy⟩)
  clear hx hy hi hj hd h9 hz
  by_cases h0 : ¬ (ds.length ≤ 7)
  · have B0 : ¬ ((ds.length : Int) ≤ 7) := by omega
    have E1 := Lib.hid (show alB P Q ds = false by simp [alB, inB_false.2 (show (ds.length : Int) < 1 ∨ 7 < (ds.length : Int) by omega)])
    rw [E1.out]
    clear h0
    obtain ⟨gG0, gG1, gG2⟩ := G_0.out
    obtain ⟨cE0, cE1⟩ := E_0.out
    go_enter Try.func88, Try.ntmps88
    go_wp2
    go_ret
    exact ⟨rfl, HB_0.out⟩
  replace h0 := Decidable.not_not.1 h0
  have B0 : (ds.length : Int) ≤ 7 := by omega
  cases h1 : (ds.all fun d => dlB P Q d.c d.s)
  · have K1 := Lib.hid (show (ds.all fun d => dlB P Q d.c d.s) = false from h1)
    have E1 := Lib.hid (show alB P Q ds = false by unfold alB; rw [h1]; simp)
    rw [E1.out]
    clear h0 h1
    obtain ⟨gG0, gG1, gG2⟩ := G_0.out
    obtain ⟨cE0, cE1⟩ := E_0.out
    go_enter Try.func88, Try.ntmps88
    go_wp2_with fail
    refine (allHas_any P Q G hm (by omega) hr L_0.out).mono ?_
    rw [K1.out]
    rintro e v1 ⟨rfl, hb⟩
    have HB_1 := Lib.hid (bt HB_0.out hb)
    have G_1 := Lib.hid (G_0.out.below hb)
    have L_1 := Lib.hid (L_0.out.below hb)
    have E_1 := Lib.hid (E_0.out.below hb)
    clear hb gG0 gG1 gG2 cE0 cE1
    obtain ⟨gG0, gG1, gG2⟩ := G_1.out
    obtain ⟨cE0, cE1⟩ := E_1.out
    go_wp2
    go_ret
    exact ⟨rfl, HB_1.out⟩
  have K1 := Lib.hid (show (ds.all fun d => dlB P Q d.c d.s) = true from h1)
  cases h2 : (ds.all fun d => likeD d0 d)
  · have K2 := Lib.hid (show (ds.all fun d => likeD d0 d) = false from h2)
    have E1 := Lib.hid (show alB P Q ds = false by unfold alB; rw [hd0, h2]; simp)
    rw [E1.out]
    clear h0 h1 h2
    obtain ⟨gG0, gG1, gG2⟩ := G_0.out
    obtain ⟨cE0, cE1⟩ := E_0.out
    go_enter Try.func88, Try.ntmps88
    go_wp2_with fail
    refine (allHas_any P Q G hm (by omega) hr L_0.out).mono ?_
    rw [K1.out]
    rintro e v1 ⟨rfl, hb⟩
    have HB_1 := Lib.hid (bt HB_0.out hb)
    have G_1 := Lib.hid (G_0.out.below hb)
    have L_1 := Lib.hid (L_0.out.below hb)
    have E_1 := Lib.hid (E_0.out.below hb)
    clear hb gG0 gG1 gG2 cE0 cE1
    obtain ⟨gG0, gG1, gG2⟩ := G_1.out
    obtain ⟨cE0, cE1⟩ := E_1.out
    go_wp2_with fail
    refine (allLike_any (by omega) a1 b1 a2 b2 d0 L_1.out).mono ?_
    rw [K2.out]
    rintro e v2 ⟨rfl, hb⟩
    have HB_2 := Lib.hid (bt HB_1.out hb)
    have G_2 := Lib.hid (G_1.out.below hb)
    have L_2 := Lib.hid (L_1.out.below hb)
    have E_2 := Lib.hid (E_1.out.below hb)
    clear hb gG0 gG1 gG2 cE0 cE1
    obtain ⟨gG0, gG1, gG2⟩ := G_2.out
    obtain ⟨cE0, cE1⟩ := E_2.out
    go_wp2
    go_ret
    exact ⟨rfl, HB_2.out⟩
  have K2 := Lib.hid (show (ds.all fun d => likeD d0 d) = true from h2)
  have E1 := Lib.hid (show alB P Q ds = true by unfold alB; rw [h1, hd0, h2, inB_true.2 (show 1 ≤ (ds.length : Int) ∧ (ds.length : Int) ≤ 7 by omega)]; rfl)
  rw [E1.out]
  clear h0 h1 h2
  obtain ⟨gG0, gG1, gG2⟩ := G_0.out
  obtain ⟨cE0, cE1⟩ := E_0.out
  go_enter Try.func88, Try.ntmps88
  go_wp2_with fail
  refine (allHas_any P Q G hm (by omega) hr L_0.out).mono ?_
  rw [K1.out]
  rintro e v1 ⟨rfl, hb⟩
  have HB_1 := Lib.hid (bt HB_0.out hb)
  have G_1 := Lib.hid (G_0.out.below hb)
  have L_1 := Lib.hid (L_0.out.below hb)
  have E_1 := Lib.hid (E_0.out.below hb)
  clear hb gG0 gG1 gG2 cE0 cE1
  obtain ⟨gG0, gG1, gG2⟩ := G_1.out
  obtain ⟨cE0, cE1⟩ := E_1.out
  go_wp2_with fail
  refine (allLike_any (by omega) a1 b1 a2 b2 d0 L_1.out).mono ?_
  rw [K2.out]
  rintro e v2 ⟨rfl, hb⟩
  have HB_2 := Lib.hid (bt HB_1.out hb)
  have G_2 := Lib.hid (G_1.out.below hb)
  have L_2 := Lib.hid (L_1.out.below hb)
  have E_2 := Lib.hid (E_1.out.below hb)
  clear hb gG0 gG1 gG2 cE0 cE1
  obtain ⟨gG0, gG1, gG2⟩ := G_2.out
  obtain ⟨cE0, cE1⟩ := E_2.out
  go_wp2
  go_ret
  exact ⟨rfl, HB_2.out⟩

def kiB (P Q G : Int) (ds : List DlD) : Bool := trB P Q G && (alB P Q ds && decide ((ds.headD nilD).s.length = ds.length))
theorem ki_on {P Q G : Int} {ds : List DlD} {d0 : DlD} (h0 : trB P Q G = true) (h1 : alB P Q ds = true) (hd0 : ds.headD nilD = d0) : kiB P Q G ds = ((d0.s.length : Int) == (ds.length : Int)) := by
  unfold kiB
  rw [h0, h1, hd0, Bool.true_and, Bool.true_and]
  by_cases h : d0.s.length = ds.length
  · simp [h]
  · rw [decide_eq_false h]; symm; simp only [beq_eq_false_iff_ne, ne_eq]; omega

set_option maxRecDepth 100000 in
set_option maxHeartbeats 3200000 in
theorem isKeyGenInput_any (P Q G : Int) {B : Nat} {v : Value} {ds : List DlD} (hl : ds.length ≤ 1048576) (hr : nDs ds ≤ 1048576) {w : World} (hz : InDs B w v ds) :
    Calls Try.prog 35 #[gv P Q G, v] w fun e w' => e = .returned (.bool (kiB P Q G ds)) ∧ Below w.heap.size w w' := by
  obtain ⟨la, lc, rfl⟩ := hz.shape
  have hmf : ∀ (fn : Fn) (first cap : Array Value) (w : World), (Instr.makeFunc fn first cap).run Try.prog w = .ok (.func fn first cap) w := fun _ _ _ _ => rfl
  have G_0 := Lib.hid (gr_atS w w.heap.size rfl P Q G 24)
  have HB_0 := Lib.hid (show Below w.heap.size w (w.alloc (.cells #[.int .i64 P, .int .i64 Q, .int .i64 G] 24)) from ba _ _)
  have L_0 := Lib.hid (hz.below HB_0.out)
  by_cases h9 : ds.length = 0
  · have ha9 : alB P Q ds = false := by simp [alB, inB_false.2 (show (ds.length : Int) < 1 ∨ 7 < (ds.length : Int) by omega)]
    have HA9 := Lib.hid ha9
    clear h9 ha9
    cases h0 : trB P Q G
    · have K0 := Lib.hid (show trB P Q G = false from h0)
      have E1 := Lib.hid (show kiB P Q G ds = false by simp [kiB, h0])
      rw [E1.out]
      clear h0
      obtain ⟨gG0, gG1, gG2⟩ := G_0.out
      go_enter Try.func35, Try.ntmps35
      go_wp2_with fail
      refine (hasTrustees_any P Q G _).mono ?_
      rw [K0.out]
      rintro e v1 ⟨rfl, hb⟩
      have HB_1 := Lib.hid (bt HB_0.out hb)
      have G_1 := Lib.hid (G_0.out.below hb)
      have L_1 := Lib.hid (L_0.out.below hb)
      clear hb gG0 gG1 gG2
      obtain ⟨gG0, gG1, gG2⟩ := G_1.out
      go_wp2
      go_ret
      exact ⟨rfl, HB_1.out⟩
    have K0 := Lib.hid (show trB P Q G = true from h0)
    have hmo := (trB_of h0).2.1
    cases h1 : alB P Q ds
    · have K1 := Lib.hid (show alB P Q ds = false from h1)
      have E1 := Lib.hid (show kiB P Q G ds = false by simp [kiB, h1])
      rw [E1.out]
      clear h0 h1
      obtain ⟨gG0, gG1, gG2⟩ := G_0.out
      go_enter Try.func35, Try.ntmps35
      go_wp2_with fail
      refine (hasTrustees_any P Q G _).mono ?_
      rw [K0.out]
      rintro e v1 ⟨rfl, hb⟩
      have HB_1 := Lib.hid (bt HB_0.out hb)
      have G_1 := Lib.hid (G_0.out.below hb)
      have L_1 := Lib.hid (L_0.out.below hb)
      clear hb gG0 gG1 gG2
      obtain ⟨gG0, gG1, gG2⟩ := G_1.out
      go_wp2_with fail
      refine (areAlike_any P Q G hmo hl hr L_1.out).mono ?_
      rw [K1.out]
      rintro e v2 ⟨rfl, hb⟩
      have HB_2 := Lib.hid (bt HB_1.out hb)
      have G_2 := Lib.hid (G_1.out.below hb)
      have L_2 := Lib.hid (L_1.out.below hb)
      clear hb gG0 gG1 gG2
      obtain ⟨gG0, gG1, gG2⟩ := G_2.out
      go_wp2
      go_ret
      exact ⟨rfl, HB_2.out⟩
    have K1 := Lib.hid (show alB P Q ds = true from h1)
    exact absurd (HA9.out.symm.trans h1) (by simp)
  have hq9 : ¬ ((1 : Int) > (ds.length : Int)) := by omega
  have hq8 : (1 : Int) ≤ (ds.length : Int) := by omega
  have h10 : 1 ≤ ds.length := by omega
  obtain ⟨lb, lo, x, y, d0, rfl, hlb, hx, hy, hi, hj, hd⟩ := L_0.out.at (k := 0) (by omega)
  obtain ⟨a1, a2, rfl⟩ := hi.shape
  obtain ⟨b1, b2, rfl⟩ := hj.shape
  have hd0 : ds.headD nilD = d0 := by rw [show ds = d0 :: ds.drop 1 from hd]; rfl
  have E_0 := Lib.hid (show DC _ lb lo (.slice a1 d0.c.length a2) (.slice b1 d0.s.length b2) from ⟨by simpa using hx, by simpa using hy⟩)
  clear hx hy hi hj hd h9 hz
  cases h0 : trB P Q G
  · have K0 := Lib.hid (show trB P Q G = false from h0)
    have E1 := Lib.hid (show kiB P Q G ds = false by simp [kiB, h0])
    rw [E1.out]
    clear h0
    obtain ⟨gG0, gG1, gG2⟩ := G_0.out
    obtain ⟨cE0, cE1⟩ := E_0.out
    go_enter Try.func35, Try.ntmps35
    go_wp2_with fail
    refine (hasTrustees_any P Q G _).mono ?_
    rw [K0.out]
    rintro e v1 ⟨rfl, hb⟩
    have HB_1 := Lib.hid (bt HB_0.out hb)
    have G_1 := Lib.hid (G_0.out.below hb)
    have L_1 := Lib.hid (L_0.out.below hb)
    have E_1 := Lib.hid (E_0.out.below hb)
    clear hb gG0 gG1 gG2 cE0 cE1
    obtain ⟨gG0, gG1, gG2⟩ := G_1.out
    obtain ⟨cE0, cE1⟩ := E_1.out
    go_wp2
    go_ret
    exact ⟨rfl, HB_1.out⟩
  have K0 := Lib.hid (show trB P Q G = true from h0)
  have hmo := (trB_of h0).2.1
  cases h1 : alB P Q ds
  · have K1 := Lib.hid (show alB P Q ds = false from h1)
    have E1 := Lib.hid (show kiB P Q G ds = false by simp [kiB, h1])
    rw [E1.out]
    clear h0 h1
    obtain ⟨gG0, gG1, gG2⟩ := G_0.out
    obtain ⟨cE0, cE1⟩ := E_0.out
    go_enter Try.func35, Try.ntmps35
    go_wp2_with fail
    refine (hasTrustees_any P Q G _).mono ?_
    rw [K0.out]
    rintro e v1 ⟨rfl, hb⟩
    have HB_1 := Lib.hid (bt HB_0.out hb)
    have G_1 := Lib.hid (G_0.out.below hb)
    have L_1 := Lib.hid (L_0.out.below hb)
    have E_1 := Lib.hid (E_0.out.below hb)
    clear hb gG0 gG1 gG2 cE0 cE1
    obtain ⟨gG0, gG1, gG2⟩ := G_1.out
    obtain ⟨cE0, cE1⟩ := E_1.out
    go_wp2_with fail
    refine (areAlike_any P Q G hmo hl hr L_1.out).mono ?_
    rw [K1.out]
    rintro e v2 ⟨rfl, hb⟩
    have HB_2 := Lib.hid (bt HB_1.out hb)
    have G_2 := Lib.hid (G_1.out.below hb)
    have L_2 := Lib.hid (L_1.out.below hb)
    have E_2 := Lib.hid (E_1.out.below hb)
    clear hb gG0 gG1 gG2 cE0 cE1
    obtain ⟨gG0, gG1, gG2⟩ := G_2.out
    obtain ⟨cE0, cE1⟩ := E_2.out
    go_wp2
    go_ret
    exact ⟨rfl, HB_2.out⟩
  have K1 := Lib.hid (show alB P Q ds = true from h1)
  have E1 := Lib.hid (ki_on h0 h1 hd0)
  rw [E1.out]
  clear h0 h1
  obtain ⟨gG0, gG1, gG2⟩ := G_0.out
  obtain ⟨cE0, cE1⟩ := E_0.out
  go_enter Try.func35, Try.ntmps35
  go_wp2_with fail
  refine (hasTrustees_any P Q G _).mono ?_
  rw [K0.out]
  rintro e v1 ⟨rfl, hb⟩
  have HB_1 := Lib.hid (bt HB_0.out hb)
  have G_1 := Lib.hid (G_0.out.below hb)
  have L_1 := Lib.hid (L_0.out.below hb)
  have E_1 := Lib.hid (E_0.out.below hb)
  clear hb gG0 gG1 gG2 cE0 cE1
  obtain ⟨gG0, gG1, gG2⟩ := G_1.out
  obtain ⟨cE0, cE1⟩ := E_1.out
  go_wp2_with fail
  refine (areAlike_any P Q G hmo hl hr L_1.out).mono ?_
  rw [K1.out]
  rintro e v2 ⟨rfl, hb⟩
  have HB_2 := Lib.hid (bt HB_1.out hb)
  have G_2 := Lib.hid (G_1.out.below hb)
  have L_2 := Lib.hid (L_1.out.below hb)
  have E_2 := Lib.hid (E_1.out.below hb)
  clear hb gG0 gG1 gG2 cE0 cE1
  obtain ⟨gG0, gG1, gG2⟩ := G_2.out
  obtain ⟨cE0, cE1⟩ := E_2.out
  go_wp2
  go_ret
  exact ⟨rfl, HB_2.out⟩

end Go.Proofs.Ytchlnkdlnfjijaa

/- Chapters 11 and 12, the reference: dealings that are alike; IsKeyGenInput. -/
namespace Go.Proofs.Ytchlnkdlnfjijaa
open Go.RowKit
set_option linter.unusedVariables false
set_option linter.unusedSimpArgs false

def alF (P Q : Int) (d0 d : DlD) : Bool := dlB P Q d.c d.s && likeD d0 d
theorem al_ref {P Q : Int} {ds : List DlD} {d0 : DlD} (hd0 : ds.headD nilD = d0) (h : inB (ds.length : Int) 1 7 = true) : alB P Q ds = ds.all (alF P Q d0) := by
  unfold alB alF
  rw [hd0, h, Bool.true_and, all_two]
theorem neq_len {a b : Nat} (h : ¬ a = b) : ((a : Int) != (b : Int)) = true := by simp; omega
theorem eq_len {a b : Nat} (h : a = b) : ((a : Int) != (b : Int)) = false := by simp [h]

set_option maxRecDepth 100000 in
set_option maxHeartbeats 3200000 in
theorem sAlike_any (P Q G : Int) (hm : Mo P Q) {B : Nat} {v : Value} {ds : List DlD} (hl : ds.length ≤ 1048576) (hr : nDs ds ≤ 1048576) {w : World} (hz : InDs B w v ds) :
    Calls Try.prog 84 #[gv P Q G, v] w fun e w' => e = .returned (.bool (alB P Q ds)) ∧ Below w.heap.size w w' := by
  obtain ⟨la, lc, rfl⟩ := hz.shape
  have hmf : ∀ (fn : Fn) (first cap : Array Value) (w : World), (Instr.makeFunc fn first cap).run Try.prog w = .ok (.func fn first cap) w := fun _ _ _ _ => rfl
  have G_0 := Lib.hid (gr_atS w w.heap.size rfl P Q G 24)
  have HB_0 := Lib.hid (show Below w.heap.size w (w.alloc (.cells #[.int .i64 P, .int .i64 Q, .int .i64 G] 24)) from ba _ _)
  have L_0 := Lib.hid (hz.below HB_0.out)
  cases h9 : inB (ds.length : Int) 1 7
  · have E1 := Lib.hid (show alB P Q ds = false by simp [alB, h9])
    have K0 := Lib.hid h9
    rw [E1.out]
    clear h9
    go_enter Try.func84, Try.ntmps84
    go_wp2_with fail
    refine (l1In_any _ _ _ _).mono ?_
    rw [K0.out]
    rintro e w' ⟨rfl, rfl⟩
    go_wp2
    go_ret
    exact ⟨rfl, HB_0.out⟩
  have hin := inB_true.1 h9
  obtain ⟨lb, lo, x, y, d0, rfl, hlb, hx, hy, hi, hj, hd⟩ := L_0.out.at (k := 0) (by omega)
  obtain ⟨a1, a2, rfl⟩ := hi.shape
  obtain ⟨b1, b2, rfl⟩ := hj.shape
  have hd0 : ds.headD nilD = d0 := by rw [show ds = d0 :: ds.drop 1 from hd]; rfl
  have E_0 := Lib.hid (show DC _ lb lo (.slice a1 d0.c.length a2) (.slice b1 d0.s.length b2) from ⟨by simpa using hx, by simpa using hy⟩)
  rw [al_ref hd0 h9]
  have K0 := Lib.hid h9
  have hin1 := hin.1
  have hin2 := hin.2
  have hpos : 0 < ds.length := by omega
  clear h9 hx hy hi hj hd hd0 hz hin
  go_enter Try.func84, Try.ntmps84
  go_wp2_with fail
  refine (l1In_any _ _ _ _).mono ?_
  rw [K0.out]
  rintro e w' ⟨rfl, rfl⟩
  go_wp2_with fail
  go_loopw [6, 13] (fun _ K wr => ∃ k : Nat, k ≤ ds.length ∧ K = .int .i64 k ∧ ds.all (alF P Q d0) = (ds.drop k).all (alF P Q d0) ∧ Below (w.alloc (.cells #[.int .i64 P, .int .i64 Q, .int .i64 G] 24)).heap.size (w.alloc (.cells #[.int .i64 P, .int .i64 Q, .int .i64 G] 24)) wr) (fun _ K _ => ds.length - (intOf K).toNat)
  case atStart => exact ⟨0, Nat.zero_le _, rfl, by simp, Below.refl _ _⟩
  case round =>
    obtain ⟨k, hk, rfl, he, hbel⟩ := hrel
    by_cases hkn : k < ds.length
    · obtain ⟨b, off, x, y, d, hbo, hb, hx, hy, hi, hj, hd⟩ := (L_0.out.below hbel).at (k := k) hkn
      obtain ⟨p1, p2, rfl⟩ := hi.shape
      obtain ⟨r1, r2, rfl⟩ := hj.shape
      simp only [Option.some.injEq, Addr.mk.injEq, and_true] at hbo
      obtain ⟨rfl, rfl⟩ := hbo
      have HS := Lib.hid (allD_step (f := alF P Q d0) hd he)
      have hdn : d.c.length + d.s.length ≤ 1048576 := by
        have := nDs_drop ds k
        rw [hd, nDs_cons] at this
        unfold DlD.n at this
        omega
      have hal := ba wr (.cells #[.slice p1 d.c.length p2, .slice r1 d.s.length r2] 42)
      have HB_x := Lib.hid (bt (bt HB_0.out hbel) hal)
      have HBx0 := Lib.hid (bt hbel hal)
      have G_x := Lib.hid ((G_0.out.below hbel).below hal)
      have E_x := Lib.hid ((E_0.out.below hbel).below hal)
      have D_x := Lib.hid (v2_at wr wr.heap.size rfl (.slice p1 d.c.length p2) (.slice r1 d.s.length r2) 42)
      have CI_x := Lib.hid (hi.below hal)
      have SI_x := Lib.hid (hj.below hal)
      have hbelH := Lib.hid hbel
      clear he hd hi hj hal hbel
      cases hi' : dlB P Q d.c d.s
      · have HI := Lib.hid hi'
        have HF := Lib.hid (show alF P Q d0 d = false by unfold alF; rw [hi', Bool.false_and])
        clear hi'
        go_wp2_with fail
        generalize hWx : wr.alloc (.cells #[.slice p1 d.c.length p2, .slice r1 d.s.length r2] 42) = wx at *
        clear hWx
        refine wp_region_held_drew (S := (fun w' => (w'.cell? ⟨w.heap.size, 0, none⟩ = some (.int .i64 P) ∧ w'.cell? ⟨w.heap.size, 1, none⟩ = some (.int .i64 Q) ∧ w'.cell? ⟨w.heap.size, 2, none⟩ = some (.int .i64 G)) ∧ (w'.cell? ⟨wr.heap.size, 0, none⟩ = some (.slice p1 d.c.length p2) ∧ w'.cell? ⟨wr.heap.size, 1, none⟩ = some (.slice r1 d.s.length r2)) ∧ (w'.cell? ⟨lb, lo, none⟩ = some (.slice a1 d0.c.length a2) ∧ w'.cell? ⟨lb, lo + 1, none⟩ = some (.slice b1 d0.s.length b2)))) (by kernel_rfl) (by first | exact ⟨G_x.out, ⟨D_x.out.1, D_x.out.2.1⟩, E_x.out⟩ | (dsimp only; exact ⟨G_x.out, ⟨D_x.out.1, D_x.out.2.1⟩, E_x.out⟩)) (fun hHeld => ?_)
        refine wpAnyH_take (i := 0) (v := ?_) rfl (by kernel_rfl) (by kernel_rfl) (by kernel_rfl) (fun _ _ _ h => h) (Or.inl ⟨by kernel_rfl, ?_⟩) (by assumption) ?_
        rotate_left 1
        · intro w hSw
          try dsimp only at hSw
          go_simp
          try with_reducible rfl
        try simp only [Act.put, List.getElem_toArray, List.getElem_cons_succ, List.getElem_cons_zero, List.setIfInBounds_toArray, List.set_cons_zero, List.set_cons_succ]
        refine wpAnyH_take (i := 1) (v := ?_) rfl (by kernel_rfl) (by kernel_rfl) (by kernel_rfl) (fun _ _ _ h => h) (Or.inl ⟨by kernel_rfl, ?_⟩) (by assumption) ?_
        rotate_left 1
        · intro w hSw
          try dsimp only at hSw
          go_simp
          try with_reducible rfl
        try simp only [Act.put, List.getElem_toArray, List.getElem_cons_succ, List.getElem_cons_zero, List.setIfInBounds_toArray, List.set_cons_zero, List.set_cons_succ]
        refine wpAnyH_ready (rs := [2]) (by kernel_rfl) (by simp) ?_
        refine AllReadyH.cons rfl (fun K hK => ?_) AllReadyH.nil
        go_simp
        have hbd : Below wx.heap.size wx wx.drew := (Below.refl _ wx).drew
        have C_d := Lib.hid (CI_x.out.below hbd)
        have T_d := Lib.hid (SI_x.out.below hbd)
        go_at_call 122
        refine (sDealing_any P Q G hm p1 r1 p2 r2 d.c d.s (by omega) (by omega) (inI_ints C_d.out) (inI_ints T_d.out)).mono ?_
        rw [HI.out]
        rintro e' wf ⟨rfl, hbf0⟩
        have hbf := bt hbd hbf0
        clear hbd hbf0 C_d T_d
        have G_s := Lib.hid (G_x.out.below hbf)
        have D_s := Lib.hid (D_x.out.below hbf)
        have E_s := Lib.hid (E_x.out.below hbf)
        have HB_s := Lib.hid (bt HB_x.out hbf)
        have HBO := Lib.hid (bt HBx0.out hbf)
        clear hbf
        refine hK.out _ _ (by first | exact ⟨G_s.out, ⟨D_s.out.1, D_s.out.2.1⟩, E_s.out⟩ | (dsimp only; exact ⟨G_s.out, ⟨D_s.out.1, D_s.out.2.1⟩, E_s.out⟩)) (fun hHeld => ?_)
        clear hK K
        try simp only [Act.put, List.getElem_toArray, List.getElem_cons_succ, List.getElem_cons_zero, List.setIfInBounds_toArray, List.set_cons_zero, List.set_cons_succ]
        refine wpAnyH_take (i := 3) (v := ?_) rfl (by kernel_rfl) (by kernel_rfl) (by kernel_rfl) (fun _ _ _ h => h) (Or.inl ⟨by kernel_rfl, ?_⟩) (by assumption) ?_
        rotate_left 1
        · intro w hSw
          try dsimp only at hSw
          go_simp
          try with_reducible rfl
        try simp only [Act.put, List.getElem_toArray, List.getElem_cons_succ, List.getElem_cons_zero, List.setIfInBounds_toArray, List.set_cons_zero, List.set_cons_succ]
        refine wpAnyH_take (i := 4) (v := ?_) rfl (by kernel_rfl) (by kernel_rfl) (by kernel_rfl) (fun _ _ _ h => h) (Or.inl ⟨by kernel_rfl, ?_⟩) (by assumption) ?_
        rotate_left 1
        · intro w hSw
          try dsimp only at hSw
          go_simp
          try with_reducible rfl
        try simp only [Act.put, List.getElem_toArray, List.getElem_cons_succ, List.getElem_cons_zero, List.setIfInBounds_toArray, List.set_cons_zero, List.set_cons_succ]
        refine wpAnyH_take (i := 5) (v := undef) rfl (by kernel_rfl) (by kernel_rfl) (by kernel_rfl) (fun _ _ _ h => h) (Or.inr ⟨by kernel_rfl, rfl⟩) (by assumption) ?_
        try simp only [Act.put, List.getElem_toArray, List.getElem_cons_succ, List.getElem_cons_zero, List.setIfInBounds_toArray, List.set_cons_zero, List.set_cons_succ]
        refine wpAnyH_take (i := 6) (v := undef) rfl (by kernel_rfl) (by kernel_rfl) (by kernel_rfl) (fun _ _ _ h => h) (Or.inr ⟨by kernel_rfl, rfl⟩) (by assumption) ?_
        try simp only [Act.put, List.getElem_toArray, List.getElem_cons_succ, List.getElem_cons_zero, List.setIfInBounds_toArray, List.set_cons_zero, List.set_cons_succ]
        refine wpAnyH_take (i := 7) (v := undef) rfl (by kernel_rfl) (by kernel_rfl) (by kernel_rfl) (fun _ _ _ h => h) (Or.inr ⟨by kernel_rfl, rfl⟩) (by assumption) ?_
        try simp only [Act.put, List.getElem_toArray, List.getElem_cons_succ, List.getElem_cons_zero, List.setIfInBounds_toArray, List.set_cons_zero, List.set_cons_succ]
        refine wpAnyH_take (i := 8) (v := undef) rfl (by kernel_rfl) (by kernel_rfl) (by kernel_rfl) (fun _ _ _ h => h) (Or.inr ⟨by kernel_rfl, rfl⟩) (by assumption) ?_
        try simp only [Act.put, List.getElem_toArray, List.getElem_cons_succ, List.getElem_cons_zero, List.setIfInBounds_toArray, List.set_cons_zero, List.set_cons_succ]
        refine wpAnyH_take (i := 9) (v := undef) rfl (by kernel_rfl) (by kernel_rfl) (by kernel_rfl) (fun _ _ _ h => h) (Or.inr ⟨by kernel_rfl, rfl⟩) (by assumption) ?_
        try simp only [Act.put, List.getElem_toArray, List.getElem_cons_succ, List.getElem_cons_zero, List.setIfInBounds_toArray, List.set_cons_zero, List.set_cons_succ]
        refine wpAnyH_take (i := 10) (v := undef) rfl (by kernel_rfl) (by kernel_rfl) (by kernel_rfl) (fun _ _ _ h => h) (Or.inr ⟨by kernel_rfl, rfl⟩) (by assumption) ?_
        try simp only [Act.put, List.getElem_toArray, List.getElem_cons_succ, List.getElem_cons_zero, List.setIfInBounds_toArray, List.set_cons_zero, List.set_cons_succ]
        refine wpAnyH_take (i := 11) (v := undef) rfl (by kernel_rfl) (by kernel_rfl) (by kernel_rfl) (fun _ _ _ h => h) (Or.inr ⟨by kernel_rfl, rfl⟩) (by assumption) ?_
        try simp only [Act.put, List.getElem_toArray, List.getElem_cons_succ, List.getElem_cons_zero, List.setIfInBounds_toArray, List.set_cons_zero, List.set_cons_succ]
        refine wpAnyH_take (i := 12) (v := undef) rfl (by kernel_rfl) (by kernel_rfl) (by kernel_rfl) (fun _ _ _ h => h) (Or.inr ⟨by kernel_rfl, rfl⟩) (by assumption) ?_
        try simp only [Act.put, List.getElem_toArray, List.getElem_cons_succ, List.getElem_cons_zero, List.setIfInBounds_toArray, List.set_cons_zero, List.set_cons_succ]
        refine wpAnyH_take (i := 13) (v := undef) rfl (by kernel_rfl) (by kernel_rfl) (by kernel_rfl) (fun _ _ _ h => h) (Or.inr ⟨by kernel_rfl, rfl⟩) (by assumption) ?_
        try simp only [Act.put, List.getElem_toArray, List.getElem_cons_succ, List.getElem_cons_zero, List.setIfInBounds_toArray, List.set_cons_zero, List.set_cons_succ]
        refine wpAnyH_take (i := 14) (v := ?_) rfl (by kernel_rfl) (by kernel_rfl) (by kernel_rfl) (fun _ _ _ h => h) (Or.inl ⟨by kernel_rfl, ?_⟩) (by assumption) ?_
        rotate_left 1
        · intro w hSw
          try dsimp only at hSw
          go_simp
          try with_reducible rfl
        try simp only [Act.put, List.getElem_toArray, List.getElem_cons_succ, List.getElem_cons_zero, List.setIfInBounds_toArray, List.set_cons_zero, List.set_cons_succ]
        refine wpAnyH_take (i := 15) (v := ?_) rfl (by kernel_rfl) (by kernel_rfl) (by kernel_rfl) (fun _ _ _ h => h) (Or.inl ⟨by kernel_rfl, ?_⟩) (by assumption) ?_
        rotate_left 1
        · intro w hSw
          try dsimp only at hSw
          go_simp
          try with_reducible rfl
        try simp only [Act.put, List.getElem_toArray, List.getElem_cons_succ, List.getElem_cons_zero, List.setIfInBounds_toArray, List.set_cons_zero, List.set_cons_succ]
        refine wpAnyH_take (i := 16) (v := undef) rfl (by kernel_rfl) (by kernel_rfl) (by kernel_rfl) (fun _ _ _ h => h) (Or.inr ⟨by kernel_rfl, rfl⟩) (by assumption) ?_
        try simp only [Act.put, List.getElem_toArray, List.getElem_cons_succ, List.getElem_cons_zero, List.setIfInBounds_toArray, List.set_cons_zero, List.set_cons_succ]
        refine wpAnyH_take (i := 17) (v := undef) rfl (by kernel_rfl) (by kernel_rfl) (by kernel_rfl) (fun _ _ _ h => h) (Or.inr ⟨by kernel_rfl, rfl⟩) (by assumption) ?_
        try simp only [Act.put, List.getElem_toArray, List.getElem_cons_succ, List.getElem_cons_zero, List.setIfInBounds_toArray, List.set_cons_zero, List.set_cons_succ]
        refine wpAnyH_take (i := 18) (v := undef) rfl (by kernel_rfl) (by kernel_rfl) (by kernel_rfl) (fun _ _ _ h => h) (Or.inr ⟨by kernel_rfl, rfl⟩) (by assumption) ?_
        try simp only [Act.put, List.getElem_toArray, List.getElem_cons_succ, List.getElem_cons_zero, List.setIfInBounds_toArray, List.set_cons_zero, List.set_cons_succ]
        refine wpAnyH_take (i := 19) (v := undef) rfl (by kernel_rfl) (by kernel_rfl) (by kernel_rfl) (fun _ _ _ h => h) (Or.inr ⟨by kernel_rfl, rfl⟩) (by assumption) ?_
        try simp only [Act.put, List.getElem_toArray, List.getElem_cons_succ, List.getElem_cons_zero, List.setIfInBounds_toArray, List.set_cons_zero, List.set_cons_succ]
        refine wpAnyH_take (i := 20) (v := undef) rfl (by kernel_rfl) (by kernel_rfl) (by kernel_rfl) (fun _ _ _ h => h) (Or.inr ⟨by kernel_rfl, rfl⟩) (by assumption) ?_
        try simp only [Act.put, List.getElem_toArray, List.getElem_cons_succ, List.getElem_cons_zero, List.setIfInBounds_toArray, List.set_cons_zero, List.set_cons_succ]
        refine wpAnyH_take (i := 21) (v := undef) rfl (by kernel_rfl) (by kernel_rfl) (by kernel_rfl) (fun _ _ _ h => h) (Or.inr ⟨by kernel_rfl, rfl⟩) (by assumption) ?_
        try simp only [Act.put, List.getElem_toArray, List.getElem_cons_succ, List.getElem_cons_zero, List.setIfInBounds_toArray, List.set_cons_zero, List.set_cons_succ]
        refine wpAnyH_take (i := 22) (v := undef) rfl (by kernel_rfl) (by kernel_rfl) (by kernel_rfl) (fun _ _ _ h => h) (Or.inr ⟨by kernel_rfl, rfl⟩) (by assumption) ?_
        try simp only [Act.put, List.getElem_toArray, List.getElem_cons_succ, List.getElem_cons_zero, List.setIfInBounds_toArray, List.set_cons_zero, List.set_cons_succ]
        refine wpAnyH_take (i := 23) (v := undef) rfl (by kernel_rfl) (by kernel_rfl) (by kernel_rfl) (fun _ _ _ h => h) (Or.inr ⟨by kernel_rfl, rfl⟩) (by assumption) ?_
        try simp only [Act.put, List.getElem_toArray, List.getElem_cons_succ, List.getElem_cons_zero, List.setIfInBounds_toArray, List.set_cons_zero, List.set_cons_succ]
        refine wpAnyH_take (i := 24) (v := undef) rfl (by kernel_rfl) (by kernel_rfl) (by kernel_rfl) (fun _ _ _ h => h) (Or.inr ⟨by kernel_rfl, rfl⟩) (by assumption) ?_
        try simp only [Act.put, List.getElem_toArray, List.getElem_cons_succ, List.getElem_cons_zero, List.setIfInBounds_toArray, List.set_cons_zero, List.set_cons_succ]
        refine wpAnyH_take (i := 25) (v := ?_) rfl (by kernel_rfl) (by kernel_rfl) (by kernel_rfl) (fun _ _ _ h => h) (Or.inl ⟨by kernel_rfl, ?_⟩) (by assumption) ?_
        rotate_left 1
        · intro w hSw
          try dsimp only at hSw
          go_simp
          try with_reducible rfl
        try simp only [Act.put, List.getElem_toArray, List.getElem_cons_succ, List.getElem_cons_zero, List.setIfInBounds_toArray, List.set_cons_zero, List.set_cons_succ]
        refine wpAnyH_done (by kernel_rfl) ?_ _
        clear hHeld
        go_wp2
        go_ret
        exact ⟨by rw [HS.out.2 HF.out]; rfl, HB_s.out⟩
      · by_cases hc : d.c.length = d0.c.length
        · have hq1 := eq_len hc
          by_cases hs : d.s.length = d0.s.length
          · have hq2 := eq_len hs
            have HI := Lib.hid hi'
            have HF := Lib.hid (show alF P Q d0 d = true by unfold alF likeD; rw [hi', decide_eq_true hc.symm, decide_eq_true hs.symm]; rfl)
            clear hi' hc hs
            go_wp2_with fail
            generalize hWx : wr.alloc (.cells #[.slice p1 d.c.length p2, .slice r1 d.s.length r2] 42) = wx at *
            clear hWx
            refine wp_region_held_drew (S := (fun w' => (w'.cell? ⟨w.heap.size, 0, none⟩ = some (.int .i64 P) ∧ w'.cell? ⟨w.heap.size, 1, none⟩ = some (.int .i64 Q) ∧ w'.cell? ⟨w.heap.size, 2, none⟩ = some (.int .i64 G)) ∧ (w'.cell? ⟨wr.heap.size, 0, none⟩ = some (.slice p1 d.c.length p2) ∧ w'.cell? ⟨wr.heap.size, 1, none⟩ = some (.slice r1 d.s.length r2)) ∧ (w'.cell? ⟨lb, lo, none⟩ = some (.slice a1 d0.c.length a2) ∧ w'.cell? ⟨lb, lo + 1, none⟩ = some (.slice b1 d0.s.length b2)))) (by kernel_rfl) (by first | exact ⟨G_x.out, ⟨D_x.out.1, D_x.out.2.1⟩, E_x.out⟩ | (dsimp only; exact ⟨G_x.out, ⟨D_x.out.1, D_x.out.2.1⟩, E_x.out⟩)) (fun hHeld => ?_)
            refine wpAnyH_take (i := 0) (v := ?_) rfl (by kernel_rfl) (by kernel_rfl) (by kernel_rfl) (fun _ _ _ h => h) (Or.inl ⟨by kernel_rfl, ?_⟩) (by assumption) ?_
            rotate_left 1
            · intro w hSw
              try dsimp only at hSw
              go_simp
              try with_reducible rfl
            try simp only [Act.put, List.getElem_toArray, List.getElem_cons_succ, List.getElem_cons_zero, List.setIfInBounds_toArray, List.set_cons_zero, List.set_cons_succ]
            refine wpAnyH_take (i := 1) (v := ?_) rfl (by kernel_rfl) (by kernel_rfl) (by kernel_rfl) (fun _ _ _ h => h) (Or.inl ⟨by kernel_rfl, ?_⟩) (by assumption) ?_
            rotate_left 1
            · intro w hSw
              try dsimp only at hSw
              go_simp
              try with_reducible rfl
            try simp only [Act.put, List.getElem_toArray, List.getElem_cons_succ, List.getElem_cons_zero, List.setIfInBounds_toArray, List.set_cons_zero, List.set_cons_succ]
            refine wpAnyH_ready (rs := [2]) (by kernel_rfl) (by simp) ?_
            refine AllReadyH.cons rfl (fun K hK => ?_) AllReadyH.nil
            go_simp
            have hbd : Below wx.heap.size wx wx.drew := (Below.refl _ wx).drew
            have C_d := Lib.hid (CI_x.out.below hbd)
            have T_d := Lib.hid (SI_x.out.below hbd)
            go_at_call 122
            refine (sDealing_any P Q G hm p1 r1 p2 r2 d.c d.s (by omega) (by omega) (inI_ints C_d.out) (inI_ints T_d.out)).mono ?_
            rw [HI.out]
            rintro e' wf ⟨rfl, hbf0⟩
            have hbf := bt hbd hbf0
            clear hbd hbf0 C_d T_d
            have G_s := Lib.hid (G_x.out.below hbf)
            have D_s := Lib.hid (D_x.out.below hbf)
            have E_s := Lib.hid (E_x.out.below hbf)
            have HB_s := Lib.hid (bt HB_x.out hbf)
            have HBO := Lib.hid (bt HBx0.out hbf)
            clear hbf
            refine hK.out _ _ (by first | exact ⟨G_s.out, ⟨D_s.out.1, D_s.out.2.1⟩, E_s.out⟩ | (dsimp only; exact ⟨G_s.out, ⟨D_s.out.1, D_s.out.2.1⟩, E_s.out⟩)) (fun hHeld => ?_)
            clear hK K
            try simp only [Act.put, List.getElem_toArray, List.getElem_cons_succ, List.getElem_cons_zero, List.setIfInBounds_toArray, List.set_cons_zero, List.set_cons_succ]
            refine wpAnyH_take (i := 3) (v := ?_) rfl (by kernel_rfl) (by kernel_rfl) (by kernel_rfl) (fun _ _ _ h => h) (Or.inl ⟨by kernel_rfl, ?_⟩) (by assumption) ?_
            rotate_left 1
            · intro w hSw
              try dsimp only at hSw
              go_simp
              try with_reducible rfl
            try simp only [Act.put, List.getElem_toArray, List.getElem_cons_succ, List.getElem_cons_zero, List.setIfInBounds_toArray, List.set_cons_zero, List.set_cons_succ]
            refine wpAnyH_take (i := 4) (v := ?_) rfl (by kernel_rfl) (by kernel_rfl) (by kernel_rfl) (fun _ _ _ h => h) (Or.inl ⟨by kernel_rfl, ?_⟩) (by assumption) ?_
            rotate_left 1
            · intro w hSw
              try dsimp only at hSw
              go_simp
              try with_reducible rfl
            try simp only [Act.put, List.getElem_toArray, List.getElem_cons_succ, List.getElem_cons_zero, List.setIfInBounds_toArray, List.set_cons_zero, List.set_cons_succ]
            refine wpAnyH_take (i := 5) (v := ?_) rfl (by kernel_rfl) (by kernel_rfl) (by kernel_rfl) (fun _ _ _ h => h) (Or.inl ⟨by kernel_rfl, ?_⟩) (by assumption) ?_
            rotate_left 1
            · intro w hSw
              try dsimp only at hSw
              go_simp
              try with_reducible rfl
            try simp only [Act.put, List.getElem_toArray, List.getElem_cons_succ, List.getElem_cons_zero, List.setIfInBounds_toArray, List.set_cons_zero, List.set_cons_succ]
            refine wpAnyH_take (i := 6) (v := ?_) rfl (by kernel_rfl) (by kernel_rfl) (by kernel_rfl) (fun _ _ _ h => h) (Or.inl ⟨by kernel_rfl, ?_⟩) (by assumption) ?_
            rotate_left 1
            · intro w hSw
              try dsimp only at hSw
              go_simp
              try with_reducible rfl
            try simp only [Act.put, List.getElem_toArray, List.getElem_cons_succ, List.getElem_cons_zero, List.setIfInBounds_toArray, List.set_cons_zero, List.set_cons_succ]
            refine wpAnyH_take (i := 7) (v := ?_) rfl (by kernel_rfl) (by kernel_rfl) (by kernel_rfl) (fun _ _ _ h => h) (Or.inl ⟨by kernel_rfl, ?_⟩) (by assumption) ?_
            rotate_left 1
            · intro w hSw
              try dsimp only at hSw
              go_simp
              try with_reducible rfl
            try simp only [Act.put, List.getElem_toArray, List.getElem_cons_succ, List.getElem_cons_zero, List.setIfInBounds_toArray, List.set_cons_zero, List.set_cons_succ]
            refine wpAnyH_take (i := 8) (v := ?_) rfl (by kernel_rfl) (by kernel_rfl) (by kernel_rfl) (fun _ _ _ h => h) (Or.inl ⟨by kernel_rfl, ?_⟩) (by assumption) ?_
            rotate_left 1
            · intro w hSw
              try dsimp only at hSw
              go_simp
              try with_reducible rfl
            try simp only [Act.put, List.getElem_toArray, List.getElem_cons_succ, List.getElem_cons_zero, List.setIfInBounds_toArray, List.set_cons_zero, List.set_cons_succ]
            refine wpAnyH_take (i := 9) (v := ?_) rfl (by kernel_rfl) (by kernel_rfl) (by kernel_rfl) (fun _ _ _ h => h) (Or.inl ⟨by kernel_rfl, ?_⟩) (by assumption) ?_
            rotate_left 1
            · intro w hSw
              try dsimp only at hSw
              go_simp
              try with_reducible rfl
            try simp only [Act.put, List.getElem_toArray, List.getElem_cons_succ, List.getElem_cons_zero, List.setIfInBounds_toArray, List.set_cons_zero, List.set_cons_succ]
            refine wpAnyH_take (i := 10) (v := ?_) rfl (by kernel_rfl) (by kernel_rfl) (by kernel_rfl) (fun _ _ _ h => h) (Or.inl ⟨by kernel_rfl, ?_⟩) (by assumption) ?_
            rotate_left 1
            · intro w hSw
              try dsimp only at hSw
              go_simp
              try with_reducible rfl
            try simp only [Act.put, List.getElem_toArray, List.getElem_cons_succ, List.getElem_cons_zero, List.setIfInBounds_toArray, List.set_cons_zero, List.set_cons_succ]
            refine wpAnyH_take (i := 11) (v := ?_) rfl (by kernel_rfl) (by kernel_rfl) (by kernel_rfl) (fun _ _ _ h => h) (Or.inl ⟨by kernel_rfl, ?_⟩) (by assumption) ?_
            rotate_left 1
            · intro w hSw
              try dsimp only at hSw
              go_simp
              try with_reducible rfl
            try simp only [Act.put, List.getElem_toArray, List.getElem_cons_succ, List.getElem_cons_zero, List.setIfInBounds_toArray, List.set_cons_zero, List.set_cons_succ]
            refine wpAnyH_take (i := 12) (v := ?_) rfl (by kernel_rfl) (by kernel_rfl) (by kernel_rfl) (fun _ _ _ h => h) (Or.inl ⟨by kernel_rfl, ?_⟩) (by assumption) ?_
            rotate_left 1
            · intro w hSw
              try dsimp only at hSw
              go_simp
              try with_reducible rfl
            try simp only [Act.put, List.getElem_toArray, List.getElem_cons_succ, List.getElem_cons_zero, List.setIfInBounds_toArray, List.set_cons_zero, List.set_cons_succ]
            refine wpAnyH_take (i := 13) (v := ?_) rfl (by kernel_rfl) (by kernel_rfl) (by kernel_rfl) (fun _ _ _ h => h) (Or.inl ⟨by kernel_rfl, ?_⟩) (by assumption) ?_
            rotate_left 1
            · intro w hSw
              try dsimp only at hSw
              go_simp
              try with_reducible rfl
            try simp only [Act.put, List.getElem_toArray, List.getElem_cons_succ, List.getElem_cons_zero, List.setIfInBounds_toArray, List.set_cons_zero, List.set_cons_succ]
            refine wpAnyH_take (i := 14) (v := ?_) rfl (by kernel_rfl) (by kernel_rfl) (by kernel_rfl) (fun _ _ _ h => h) (Or.inl ⟨by kernel_rfl, ?_⟩) (by assumption) ?_
            rotate_left 1
            · intro w hSw
              try dsimp only at hSw
              go_simp
              try with_reducible rfl
            try simp only [Act.put, List.getElem_toArray, List.getElem_cons_succ, List.getElem_cons_zero, List.setIfInBounds_toArray, List.set_cons_zero, List.set_cons_succ]
            refine wpAnyH_take (i := 15) (v := ?_) rfl (by kernel_rfl) (by kernel_rfl) (by kernel_rfl) (fun _ _ _ h => h) (Or.inl ⟨by kernel_rfl, ?_⟩) (by assumption) ?_
            rotate_left 1
            · intro w hSw
              try dsimp only at hSw
              go_simp
              try with_reducible rfl
            try simp only [Act.put, List.getElem_toArray, List.getElem_cons_succ, List.getElem_cons_zero, List.setIfInBounds_toArray, List.set_cons_zero, List.set_cons_succ]
            refine wpAnyH_take (i := 16) (v := ?_) rfl (by kernel_rfl) (by kernel_rfl) (by kernel_rfl) (fun _ _ _ h => h) (Or.inl ⟨by kernel_rfl, ?_⟩) (by assumption) ?_
            rotate_left 1
            · intro w hSw
              try dsimp only at hSw
              go_simp
              try with_reducible rfl
            try simp only [Act.put, List.getElem_toArray, List.getElem_cons_succ, List.getElem_cons_zero, List.setIfInBounds_toArray, List.set_cons_zero, List.set_cons_succ]
            refine wpAnyH_take (i := 17) (v := ?_) rfl (by kernel_rfl) (by kernel_rfl) (by kernel_rfl) (fun _ _ _ h => h) (Or.inl ⟨by kernel_rfl, ?_⟩) (by assumption) ?_
            rotate_left 1
            · intro w hSw
              try dsimp only at hSw
              go_simp
              try with_reducible rfl
            try simp only [Act.put, List.getElem_toArray, List.getElem_cons_succ, List.getElem_cons_zero, List.setIfInBounds_toArray, List.set_cons_zero, List.set_cons_succ]
            refine wpAnyH_take (i := 18) (v := ?_) rfl (by kernel_rfl) (by kernel_rfl) (by kernel_rfl) (fun _ _ _ h => h) (Or.inl ⟨by kernel_rfl, ?_⟩) (by assumption) ?_
            rotate_left 1
            · intro w hSw
              try dsimp only at hSw
              go_simp
              try with_reducible rfl
            try simp only [Act.put, List.getElem_toArray, List.getElem_cons_succ, List.getElem_cons_zero, List.setIfInBounds_toArray, List.set_cons_zero, List.set_cons_succ]
            refine wpAnyH_take (i := 19) (v := ?_) rfl (by kernel_rfl) (by kernel_rfl) (by kernel_rfl) (fun _ _ _ h => h) (Or.inl ⟨by kernel_rfl, ?_⟩) (by assumption) ?_
            rotate_left 1
            · intro w hSw
              try dsimp only at hSw
              go_simp
              try with_reducible rfl
            try simp only [Act.put, List.getElem_toArray, List.getElem_cons_succ, List.getElem_cons_zero, List.setIfInBounds_toArray, List.set_cons_zero, List.set_cons_succ]
            refine wpAnyH_take (i := 20) (v := ?_) rfl (by kernel_rfl) (by kernel_rfl) (by kernel_rfl) (fun _ _ _ h => h) (Or.inl ⟨by kernel_rfl, ?_⟩) (by assumption) ?_
            rotate_left 1
            · intro w hSw
              try dsimp only at hSw
              go_simp
              try with_reducible rfl
            try simp only [Act.put, List.getElem_toArray, List.getElem_cons_succ, List.getElem_cons_zero, List.setIfInBounds_toArray, List.set_cons_zero, List.set_cons_succ]
            refine wpAnyH_take (i := 21) (v := ?_) rfl (by kernel_rfl) (by kernel_rfl) (by kernel_rfl) (fun _ _ _ h => h) (Or.inl ⟨by kernel_rfl, ?_⟩) (by assumption) ?_
            rotate_left 1
            · intro w hSw
              try dsimp only at hSw
              go_simp
              try with_reducible rfl
            try simp only [Act.put, List.getElem_toArray, List.getElem_cons_succ, List.getElem_cons_zero, List.setIfInBounds_toArray, List.set_cons_zero, List.set_cons_succ]
            refine wpAnyH_take (i := 22) (v := ?_) rfl (by kernel_rfl) (by kernel_rfl) (by kernel_rfl) (fun _ _ _ h => h) (Or.inl ⟨by kernel_rfl, ?_⟩) (by assumption) ?_
            rotate_left 1
            · intro w hSw
              try dsimp only at hSw
              go_simp
              try with_reducible rfl
            try simp only [Act.put, List.getElem_toArray, List.getElem_cons_succ, List.getElem_cons_zero, List.setIfInBounds_toArray, List.set_cons_zero, List.set_cons_succ]
            refine wpAnyH_take (i := 23) (v := ?_) rfl (by kernel_rfl) (by kernel_rfl) (by kernel_rfl) (fun _ _ _ h => h) (Or.inl ⟨by kernel_rfl, ?_⟩) (by assumption) ?_
            rotate_left 1
            · intro w hSw
              try dsimp only at hSw
              go_simp
              try with_reducible rfl
            try simp only [Act.put, List.getElem_toArray, List.getElem_cons_succ, List.getElem_cons_zero, List.setIfInBounds_toArray, List.set_cons_zero, List.set_cons_succ]
            refine wpAnyH_take (i := 24) (v := ?_) rfl (by kernel_rfl) (by kernel_rfl) (by kernel_rfl) (fun _ _ _ h => h) (Or.inl ⟨by kernel_rfl, ?_⟩) (by assumption) ?_
            rotate_left 1
            · intro w hSw
              try dsimp only at hSw
              go_simp
              try with_reducible rfl
            try simp only [Act.put, List.getElem_toArray, List.getElem_cons_succ, List.getElem_cons_zero, List.setIfInBounds_toArray, List.set_cons_zero, List.set_cons_succ]
            refine wpAnyH_take (i := 25) (v := ?_) rfl (by kernel_rfl) (by kernel_rfl) (by kernel_rfl) (fun _ _ _ h => h) (Or.inl ⟨by kernel_rfl, ?_⟩) (by assumption) ?_
            rotate_left 1
            · intro w hSw
              try dsimp only at hSw
              go_simp
              try with_reducible rfl
            try simp only [Act.put, List.getElem_toArray, List.getElem_cons_succ, List.getElem_cons_zero, List.setIfInBounds_toArray, List.set_cons_zero, List.set_cons_succ]
            refine wpAnyH_done (by kernel_rfl) ?_ _
            clear hHeld
            go_wp2
            go_roundw
            case rel => exact ⟨k + 1, by omega, by go_num, HS.out.1 HF.out, HBO.out⟩
            case measure => simp only [intOf]; omega
          · have hq2 := neq_len hs
            have HI := Lib.hid hi'
            have HF := Lib.hid (show alF P Q d0 d = false by unfold alF likeD; rw [decide_eq_false (show ¬ d0.s.length = d.s.length from fun h => hs h.symm), Bool.and_false, Bool.and_false])
            clear hi' hc hs
            go_wp2_with fail
            generalize hWx : wr.alloc (.cells #[.slice p1 d.c.length p2, .slice r1 d.s.length r2] 42) = wx at *
            clear hWx
            refine wp_region_held_drew (S := (fun w' => (w'.cell? ⟨w.heap.size, 0, none⟩ = some (.int .i64 P) ∧ w'.cell? ⟨w.heap.size, 1, none⟩ = some (.int .i64 Q) ∧ w'.cell? ⟨w.heap.size, 2, none⟩ = some (.int .i64 G)) ∧ (w'.cell? ⟨wr.heap.size, 0, none⟩ = some (.slice p1 d.c.length p2) ∧ w'.cell? ⟨wr.heap.size, 1, none⟩ = some (.slice r1 d.s.length r2)) ∧ (w'.cell? ⟨lb, lo, none⟩ = some (.slice a1 d0.c.length a2) ∧ w'.cell? ⟨lb, lo + 1, none⟩ = some (.slice b1 d0.s.length b2)))) (by kernel_rfl) (by first | exact ⟨G_x.out, ⟨D_x.out.1, D_x.out.2.1⟩, E_x.out⟩ | (dsimp only; exact ⟨G_x.out, ⟨D_x.out.1, D_x.out.2.1⟩, E_x.out⟩)) (fun hHeld => ?_)
            refine wpAnyH_take (i := 0) (v := ?_) rfl (by kernel_rfl) (by kernel_rfl) (by kernel_rfl) (fun _ _ _ h => h) (Or.inl ⟨by kernel_rfl, ?_⟩) (by assumption) ?_
            rotate_left 1
            · intro w hSw
              try dsimp only at hSw
              go_simp
              try with_reducible rfl
            try simp only [Act.put, List.getElem_toArray, List.getElem_cons_succ, List.getElem_cons_zero, List.setIfInBounds_toArray, List.set_cons_zero, List.set_cons_succ]
            refine wpAnyH_take (i := 1) (v := ?_) rfl (by kernel_rfl) (by kernel_rfl) (by kernel_rfl) (fun _ _ _ h => h) (Or.inl ⟨by kernel_rfl, ?_⟩) (by assumption) ?_
            rotate_left 1
            · intro w hSw
              try dsimp only at hSw
              go_simp
              try with_reducible rfl
            try simp only [Act.put, List.getElem_toArray, List.getElem_cons_succ, List.getElem_cons_zero, List.setIfInBounds_toArray, List.set_cons_zero, List.set_cons_succ]
            refine wpAnyH_ready (rs := [2]) (by kernel_rfl) (by simp) ?_
            refine AllReadyH.cons rfl (fun K hK => ?_) AllReadyH.nil
            go_simp
            have hbd : Below wx.heap.size wx wx.drew := (Below.refl _ wx).drew
            have C_d := Lib.hid (CI_x.out.below hbd)
            have T_d := Lib.hid (SI_x.out.below hbd)
            go_at_call 122
            refine (sDealing_any P Q G hm p1 r1 p2 r2 d.c d.s (by omega) (by omega) (inI_ints C_d.out) (inI_ints T_d.out)).mono ?_
            rw [HI.out]
            rintro e' wf ⟨rfl, hbf0⟩
            have hbf := bt hbd hbf0
            clear hbd hbf0 C_d T_d
            have G_s := Lib.hid (G_x.out.below hbf)
            have D_s := Lib.hid (D_x.out.below hbf)
            have E_s := Lib.hid (E_x.out.below hbf)
            have HB_s := Lib.hid (bt HB_x.out hbf)
            have HBO := Lib.hid (bt HBx0.out hbf)
            clear hbf
            refine hK.out _ _ (by first | exact ⟨G_s.out, ⟨D_s.out.1, D_s.out.2.1⟩, E_s.out⟩ | (dsimp only; exact ⟨G_s.out, ⟨D_s.out.1, D_s.out.2.1⟩, E_s.out⟩)) (fun hHeld => ?_)
            clear hK K
            try simp only [Act.put, List.getElem_toArray, List.getElem_cons_succ, List.getElem_cons_zero, List.setIfInBounds_toArray, List.set_cons_zero, List.set_cons_succ]
            refine wpAnyH_take (i := 3) (v := ?_) rfl (by kernel_rfl) (by kernel_rfl) (by kernel_rfl) (fun _ _ _ h => h) (Or.inl ⟨by kernel_rfl, ?_⟩) (by assumption) ?_
            rotate_left 1
            · intro w hSw
              try dsimp only at hSw
              go_simp
              try with_reducible rfl
            try simp only [Act.put, List.getElem_toArray, List.getElem_cons_succ, List.getElem_cons_zero, List.setIfInBounds_toArray, List.set_cons_zero, List.set_cons_succ]
            refine wpAnyH_take (i := 4) (v := ?_) rfl (by kernel_rfl) (by kernel_rfl) (by kernel_rfl) (fun _ _ _ h => h) (Or.inl ⟨by kernel_rfl, ?_⟩) (by assumption) ?_
            rotate_left 1
            · intro w hSw
              try dsimp only at hSw
              go_simp
              try with_reducible rfl
            try simp only [Act.put, List.getElem_toArray, List.getElem_cons_succ, List.getElem_cons_zero, List.setIfInBounds_toArray, List.set_cons_zero, List.set_cons_succ]
            refine wpAnyH_take (i := 5) (v := ?_) rfl (by kernel_rfl) (by kernel_rfl) (by kernel_rfl) (fun _ _ _ h => h) (Or.inl ⟨by kernel_rfl, ?_⟩) (by assumption) ?_
            rotate_left 1
            · intro w hSw
              try dsimp only at hSw
              go_simp
              try with_reducible rfl
            try simp only [Act.put, List.getElem_toArray, List.getElem_cons_succ, List.getElem_cons_zero, List.setIfInBounds_toArray, List.set_cons_zero, List.set_cons_succ]
            refine wpAnyH_take (i := 6) (v := ?_) rfl (by kernel_rfl) (by kernel_rfl) (by kernel_rfl) (fun _ _ _ h => h) (Or.inl ⟨by kernel_rfl, ?_⟩) (by assumption) ?_
            rotate_left 1
            · intro w hSw
              try dsimp only at hSw
              go_simp
              try with_reducible rfl
            try simp only [Act.put, List.getElem_toArray, List.getElem_cons_succ, List.getElem_cons_zero, List.setIfInBounds_toArray, List.set_cons_zero, List.set_cons_succ]
            refine wpAnyH_take (i := 7) (v := ?_) rfl (by kernel_rfl) (by kernel_rfl) (by kernel_rfl) (fun _ _ _ h => h) (Or.inl ⟨by kernel_rfl, ?_⟩) (by assumption) ?_
            rotate_left 1
            · intro w hSw
              try dsimp only at hSw
              go_simp
              try with_reducible rfl
            try simp only [Act.put, List.getElem_toArray, List.getElem_cons_succ, List.getElem_cons_zero, List.setIfInBounds_toArray, List.set_cons_zero, List.set_cons_succ]
            refine wpAnyH_take (i := 8) (v := ?_) rfl (by kernel_rfl) (by kernel_rfl) (by kernel_rfl) (fun _ _ _ h => h) (Or.inl ⟨by kernel_rfl, ?_⟩) (by assumption) ?_
            rotate_left 1
            · intro w hSw
              try dsimp only at hSw
              go_simp
              try with_reducible rfl
            try simp only [Act.put, List.getElem_toArray, List.getElem_cons_succ, List.getElem_cons_zero, List.setIfInBounds_toArray, List.set_cons_zero, List.set_cons_succ]
            refine wpAnyH_take (i := 9) (v := ?_) rfl (by kernel_rfl) (by kernel_rfl) (by kernel_rfl) (fun _ _ _ h => h) (Or.inl ⟨by kernel_rfl, ?_⟩) (by assumption) ?_
            rotate_left 1
            · intro w hSw
              try dsimp only at hSw
              go_simp
              try with_reducible rfl
            try simp only [Act.put, List.getElem_toArray, List.getElem_cons_succ, List.getElem_cons_zero, List.setIfInBounds_toArray, List.set_cons_zero, List.set_cons_succ]
            refine wpAnyH_take (i := 10) (v := ?_) rfl (by kernel_rfl) (by kernel_rfl) (by kernel_rfl) (fun _ _ _ h => h) (Or.inl ⟨by kernel_rfl, ?_⟩) (by assumption) ?_
            rotate_left 1
            · intro w hSw
              try dsimp only at hSw
              go_simp
              try with_reducible rfl
            try simp only [Act.put, List.getElem_toArray, List.getElem_cons_succ, List.getElem_cons_zero, List.setIfInBounds_toArray, List.set_cons_zero, List.set_cons_succ]
            refine wpAnyH_take (i := 11) (v := ?_) rfl (by kernel_rfl) (by kernel_rfl) (by kernel_rfl) (fun _ _ _ h => h) (Or.inl ⟨by kernel_rfl, ?_⟩) (by assumption) ?_
            rotate_left 1
            · intro w hSw
              try dsimp only at hSw
              go_simp
              try with_reducible rfl
            try simp only [Act.put, List.getElem_toArray, List.getElem_cons_succ, List.getElem_cons_zero, List.setIfInBounds_toArray, List.set_cons_zero, List.set_cons_succ]
            refine wpAnyH_take (i := 12) (v := ?_) rfl (by kernel_rfl) (by kernel_rfl) (by kernel_rfl) (fun _ _ _ h => h) (Or.inl ⟨by kernel_rfl, ?_⟩) (by assumption) ?_
            rotate_left 1
            · intro w hSw
              try dsimp only at hSw
              go_simp
              try with_reducible rfl
            try simp only [Act.put, List.getElem_toArray, List.getElem_cons_succ, List.getElem_cons_zero, List.setIfInBounds_toArray, List.set_cons_zero, List.set_cons_succ]
            refine wpAnyH_take (i := 13) (v := ?_) rfl (by kernel_rfl) (by kernel_rfl) (by kernel_rfl) (fun _ _ _ h => h) (Or.inl ⟨by kernel_rfl, ?_⟩) (by assumption) ?_
            rotate_left 1
            · intro w hSw
              try dsimp only at hSw
              go_simp
              try with_reducible rfl
            try simp only [Act.put, List.getElem_toArray, List.getElem_cons_succ, List.getElem_cons_zero, List.setIfInBounds_toArray, List.set_cons_zero, List.set_cons_succ]
            refine wpAnyH_take (i := 14) (v := ?_) rfl (by kernel_rfl) (by kernel_rfl) (by kernel_rfl) (fun _ _ _ h => h) (Or.inl ⟨by kernel_rfl, ?_⟩) (by assumption) ?_
            rotate_left 1
            · intro w hSw
              try dsimp only at hSw
              go_simp
              try with_reducible rfl
            try simp only [Act.put, List.getElem_toArray, List.getElem_cons_succ, List.getElem_cons_zero, List.setIfInBounds_toArray, List.set_cons_zero, List.set_cons_succ]
            refine wpAnyH_take (i := 15) (v := ?_) rfl (by kernel_rfl) (by kernel_rfl) (by kernel_rfl) (fun _ _ _ h => h) (Or.inl ⟨by kernel_rfl, ?_⟩) (by assumption) ?_
            rotate_left 1
            · intro w hSw
              try dsimp only at hSw
              go_simp
              try with_reducible rfl
            try simp only [Act.put, List.getElem_toArray, List.getElem_cons_succ, List.getElem_cons_zero, List.setIfInBounds_toArray, List.set_cons_zero, List.set_cons_succ]
            refine wpAnyH_take (i := 16) (v := ?_) rfl (by kernel_rfl) (by kernel_rfl) (by kernel_rfl) (fun _ _ _ h => h) (Or.inl ⟨by kernel_rfl, ?_⟩) (by assumption) ?_
            rotate_left 1
            · intro w hSw
              try dsimp only at hSw
              go_simp
              try with_reducible rfl
            try simp only [Act.put, List.getElem_toArray, List.getElem_cons_succ, List.getElem_cons_zero, List.setIfInBounds_toArray, List.set_cons_zero, List.set_cons_succ]
            refine wpAnyH_take (i := 17) (v := ?_) rfl (by kernel_rfl) (by kernel_rfl) (by kernel_rfl) (fun _ _ _ h => h) (Or.inl ⟨by kernel_rfl, ?_⟩) (by assumption) ?_
            rotate_left 1
            · intro w hSw
              try dsimp only at hSw
              go_simp
              try with_reducible rfl
            try simp only [Act.put, List.getElem_toArray, List.getElem_cons_succ, List.getElem_cons_zero, List.setIfInBounds_toArray, List.set_cons_zero, List.set_cons_succ]
            refine wpAnyH_take (i := 18) (v := ?_) rfl (by kernel_rfl) (by kernel_rfl) (by kernel_rfl) (fun _ _ _ h => h) (Or.inl ⟨by kernel_rfl, ?_⟩) (by assumption) ?_
            rotate_left 1
            · intro w hSw
              try dsimp only at hSw
              go_simp
              try with_reducible rfl
            try simp only [Act.put, List.getElem_toArray, List.getElem_cons_succ, List.getElem_cons_zero, List.setIfInBounds_toArray, List.set_cons_zero, List.set_cons_succ]
            refine wpAnyH_take (i := 19) (v := ?_) rfl (by kernel_rfl) (by kernel_rfl) (by kernel_rfl) (fun _ _ _ h => h) (Or.inl ⟨by kernel_rfl, ?_⟩) (by assumption) ?_
            rotate_left 1
            · intro w hSw
              try dsimp only at hSw
              go_simp
              try with_reducible rfl
            try simp only [Act.put, List.getElem_toArray, List.getElem_cons_succ, List.getElem_cons_zero, List.setIfInBounds_toArray, List.set_cons_zero, List.set_cons_succ]
            refine wpAnyH_take (i := 20) (v := ?_) rfl (by kernel_rfl) (by kernel_rfl) (by kernel_rfl) (fun _ _ _ h => h) (Or.inl ⟨by kernel_rfl, ?_⟩) (by assumption) ?_
            rotate_left 1
            · intro w hSw
              try dsimp only at hSw
              go_simp
              try with_reducible rfl
            try simp only [Act.put, List.getElem_toArray, List.getElem_cons_succ, List.getElem_cons_zero, List.setIfInBounds_toArray, List.set_cons_zero, List.set_cons_succ]
            refine wpAnyH_take (i := 21) (v := ?_) rfl (by kernel_rfl) (by kernel_rfl) (by kernel_rfl) (fun _ _ _ h => h) (Or.inl ⟨by kernel_rfl, ?_⟩) (by assumption) ?_
            rotate_left 1
            · intro w hSw
              try dsimp only at hSw
              go_simp
              try with_reducible rfl
            try simp only [Act.put, List.getElem_toArray, List.getElem_cons_succ, List.getElem_cons_zero, List.setIfInBounds_toArray, List.set_cons_zero, List.set_cons_succ]
            refine wpAnyH_take (i := 22) (v := ?_) rfl (by kernel_rfl) (by kernel_rfl) (by kernel_rfl) (fun _ _ _ h => h) (Or.inl ⟨by kernel_rfl, ?_⟩) (by assumption) ?_
            rotate_left 1
            · intro w hSw
              try dsimp only at hSw
              go_simp
              try with_reducible rfl
            try simp only [Act.put, List.getElem_toArray, List.getElem_cons_succ, List.getElem_cons_zero, List.setIfInBounds_toArray, List.set_cons_zero, List.set_cons_succ]
            refine wpAnyH_take (i := 23) (v := ?_) rfl (by kernel_rfl) (by kernel_rfl) (by kernel_rfl) (fun _ _ _ h => h) (Or.inl ⟨by kernel_rfl, ?_⟩) (by assumption) ?_
            rotate_left 1
            · intro w hSw
              try dsimp only at hSw
              go_simp
              try with_reducible rfl
            try simp only [Act.put, List.getElem_toArray, List.getElem_cons_succ, List.getElem_cons_zero, List.setIfInBounds_toArray, List.set_cons_zero, List.set_cons_succ]
            refine wpAnyH_take (i := 24) (v := ?_) rfl (by kernel_rfl) (by kernel_rfl) (by kernel_rfl) (fun _ _ _ h => h) (Or.inl ⟨by kernel_rfl, ?_⟩) (by assumption) ?_
            rotate_left 1
            · intro w hSw
              try dsimp only at hSw
              go_simp
              try with_reducible rfl
            try simp only [Act.put, List.getElem_toArray, List.getElem_cons_succ, List.getElem_cons_zero, List.setIfInBounds_toArray, List.set_cons_zero, List.set_cons_succ]
            refine wpAnyH_take (i := 25) (v := ?_) rfl (by kernel_rfl) (by kernel_rfl) (by kernel_rfl) (fun _ _ _ h => h) (Or.inl ⟨by kernel_rfl, ?_⟩) (by assumption) ?_
            rotate_left 1
            · intro w hSw
              try dsimp only at hSw
              go_simp
              try with_reducible rfl
            try simp only [Act.put, List.getElem_toArray, List.getElem_cons_succ, List.getElem_cons_zero, List.setIfInBounds_toArray, List.set_cons_zero, List.set_cons_succ]
            refine wpAnyH_done (by kernel_rfl) ?_ _
            clear hHeld
            go_wp2
            go_ret
            exact ⟨by rw [HS.out.2 HF.out]; rfl, HB_s.out⟩
        · have hq1 := neq_len hc
          have HI := Lib.hid hi'
          have HF := Lib.hid (show alF P Q d0 d = false by unfold alF likeD; rw [decide_eq_false (show ¬ d0.c.length = d.c.length from fun h => hc h.symm), Bool.false_and, Bool.and_false])
          clear hi' hc
          go_wp2_with fail
          generalize hWx : wr.alloc (.cells #[.slice p1 d.c.length p2, .slice r1 d.s.length r2] 42) = wx at *
          clear hWx
          refine wp_region_held_drew (S := (fun w' => (w'.cell? ⟨w.heap.size, 0, none⟩ = some (.int .i64 P) ∧ w'.cell? ⟨w.heap.size, 1, none⟩ = some (.int .i64 Q) ∧ w'.cell? ⟨w.heap.size, 2, none⟩ = some (.int .i64 G)) ∧ (w'.cell? ⟨wr.heap.size, 0, none⟩ = some (.slice p1 d.c.length p2) ∧ w'.cell? ⟨wr.heap.size, 1, none⟩ = some (.slice r1 d.s.length r2)) ∧ (w'.cell? ⟨lb, lo, none⟩ = some (.slice a1 d0.c.length a2) ∧ w'.cell? ⟨lb, lo + 1, none⟩ = some (.slice b1 d0.s.length b2)))) (by kernel_rfl) (by first | exact ⟨G_x.out, ⟨D_x.out.1, D_x.out.2.1⟩, E_x.out⟩ | (dsimp only; exact ⟨G_x.out, ⟨D_x.out.1, D_x.out.2.1⟩, E_x.out⟩)) (fun hHeld => ?_)
          refine wpAnyH_take (i := 0) (v := ?_) rfl (by kernel_rfl) (by kernel_rfl) (by kernel_rfl) (fun _ _ _ h => h) (Or.inl ⟨by kernel_rfl, ?_⟩) (by assumption) ?_
          rotate_left 1
          · intro w hSw
            try dsimp only at hSw
            go_simp
            try with_reducible rfl
          try simp only [Act.put, List.getElem_toArray, List.getElem_cons_succ, List.getElem_cons_zero, List.setIfInBounds_toArray, List.set_cons_zero, List.set_cons_succ]
          refine wpAnyH_take (i := 1) (v := ?_) rfl (by kernel_rfl) (by kernel_rfl) (by kernel_rfl) (fun _ _ _ h => h) (Or.inl ⟨by kernel_rfl, ?_⟩) (by assumption) ?_
          rotate_left 1
          · intro w hSw
            try dsimp only at hSw
            go_simp
            try with_reducible rfl
          try simp only [Act.put, List.getElem_toArray, List.getElem_cons_succ, List.getElem_cons_zero, List.setIfInBounds_toArray, List.set_cons_zero, List.set_cons_succ]
          refine wpAnyH_ready (rs := [2]) (by kernel_rfl) (by simp) ?_
          refine AllReadyH.cons rfl (fun K hK => ?_) AllReadyH.nil
          go_simp
          have hbd : Below wx.heap.size wx wx.drew := (Below.refl _ wx).drew
          have C_d := Lib.hid (CI_x.out.below hbd)
          have T_d := Lib.hid (SI_x.out.below hbd)
          go_at_call 122
          refine (sDealing_any P Q G hm p1 r1 p2 r2 d.c d.s (by omega) (by omega) (inI_ints C_d.out) (inI_ints T_d.out)).mono ?_
          rw [HI.out]
          rintro e' wf ⟨rfl, hbf0⟩
          have hbf := bt hbd hbf0
          clear hbd hbf0 C_d T_d
          have G_s := Lib.hid (G_x.out.below hbf)
          have D_s := Lib.hid (D_x.out.below hbf)
          have E_s := Lib.hid (E_x.out.below hbf)
          have HB_s := Lib.hid (bt HB_x.out hbf)
          have HBO := Lib.hid (bt HBx0.out hbf)
          clear hbf
          refine hK.out _ _ (by first | exact ⟨G_s.out, ⟨D_s.out.1, D_s.out.2.1⟩, E_s.out⟩ | (dsimp only; exact ⟨G_s.out, ⟨D_s.out.1, D_s.out.2.1⟩, E_s.out⟩)) (fun hHeld => ?_)
          clear hK K
          try simp only [Act.put, List.getElem_toArray, List.getElem_cons_succ, List.getElem_cons_zero, List.setIfInBounds_toArray, List.set_cons_zero, List.set_cons_succ]
          refine wpAnyH_take (i := 3) (v := ?_) rfl (by kernel_rfl) (by kernel_rfl) (by kernel_rfl) (fun _ _ _ h => h) (Or.inl ⟨by kernel_rfl, ?_⟩) (by assumption) ?_
          rotate_left 1
          · intro w hSw
            try dsimp only at hSw
            go_simp
            try with_reducible rfl
          try simp only [Act.put, List.getElem_toArray, List.getElem_cons_succ, List.getElem_cons_zero, List.setIfInBounds_toArray, List.set_cons_zero, List.set_cons_succ]
          refine wpAnyH_take (i := 4) (v := ?_) rfl (by kernel_rfl) (by kernel_rfl) (by kernel_rfl) (fun _ _ _ h => h) (Or.inl ⟨by kernel_rfl, ?_⟩) (by assumption) ?_
          rotate_left 1
          · intro w hSw
            try dsimp only at hSw
            go_simp
            try with_reducible rfl
          try simp only [Act.put, List.getElem_toArray, List.getElem_cons_succ, List.getElem_cons_zero, List.setIfInBounds_toArray, List.set_cons_zero, List.set_cons_succ]
          refine wpAnyH_take (i := 5) (v := ?_) rfl (by kernel_rfl) (by kernel_rfl) (by kernel_rfl) (fun _ _ _ h => h) (Or.inl ⟨by kernel_rfl, ?_⟩) (by assumption) ?_
          rotate_left 1
          · intro w hSw
            try dsimp only at hSw
            go_simp
            try with_reducible rfl
          try simp only [Act.put, List.getElem_toArray, List.getElem_cons_succ, List.getElem_cons_zero, List.setIfInBounds_toArray, List.set_cons_zero, List.set_cons_succ]
          refine wpAnyH_take (i := 6) (v := ?_) rfl (by kernel_rfl) (by kernel_rfl) (by kernel_rfl) (fun _ _ _ h => h) (Or.inl ⟨by kernel_rfl, ?_⟩) (by assumption) ?_
          rotate_left 1
          · intro w hSw
            try dsimp only at hSw
            go_simp
            try with_reducible rfl
          try simp only [Act.put, List.getElem_toArray, List.getElem_cons_succ, List.getElem_cons_zero, List.setIfInBounds_toArray, List.set_cons_zero, List.set_cons_succ]
          refine wpAnyH_take (i := 7) (v := ?_) rfl (by kernel_rfl) (by kernel_rfl) (by kernel_rfl) (fun _ _ _ h => h) (Or.inl ⟨by kernel_rfl, ?_⟩) (by assumption) ?_
          rotate_left 1
          · intro w hSw
            try dsimp only at hSw
            go_simp
            try with_reducible rfl
          try simp only [Act.put, List.getElem_toArray, List.getElem_cons_succ, List.getElem_cons_zero, List.setIfInBounds_toArray, List.set_cons_zero, List.set_cons_succ]
          refine wpAnyH_take (i := 8) (v := ?_) rfl (by kernel_rfl) (by kernel_rfl) (by kernel_rfl) (fun _ _ _ h => h) (Or.inl ⟨by kernel_rfl, ?_⟩) (by assumption) ?_
          rotate_left 1
          · intro w hSw
            try dsimp only at hSw
            go_simp
            try with_reducible rfl
          try simp only [Act.put, List.getElem_toArray, List.getElem_cons_succ, List.getElem_cons_zero, List.setIfInBounds_toArray, List.set_cons_zero, List.set_cons_succ]
          refine wpAnyH_take (i := 9) (v := ?_) rfl (by kernel_rfl) (by kernel_rfl) (by kernel_rfl) (fun _ _ _ h => h) (Or.inl ⟨by kernel_rfl, ?_⟩) (by assumption) ?_
          rotate_left 1
          · intro w hSw
            try dsimp only at hSw
            go_simp
            try with_reducible rfl
          try simp only [Act.put, List.getElem_toArray, List.getElem_cons_succ, List.getElem_cons_zero, List.setIfInBounds_toArray, List.set_cons_zero, List.set_cons_succ]
          refine wpAnyH_take (i := 10) (v := ?_) rfl (by kernel_rfl) (by kernel_rfl) (by kernel_rfl) (fun _ _ _ h => h) (Or.inl ⟨by kernel_rfl, ?_⟩) (by assumption) ?_
          rotate_left 1
          · intro w hSw
            try dsimp only at hSw
            go_simp
            try with_reducible rfl
          try simp only [Act.put, List.getElem_toArray, List.getElem_cons_succ, List.getElem_cons_zero, List.setIfInBounds_toArray, List.set_cons_zero, List.set_cons_succ]
          refine wpAnyH_take (i := 11) (v := ?_) rfl (by kernel_rfl) (by kernel_rfl) (by kernel_rfl) (fun _ _ _ h => h) (Or.inl ⟨by kernel_rfl, ?_⟩) (by assumption) ?_
          rotate_left 1
          · intro w hSw
            try dsimp only at hSw
            go_simp
            try with_reducible rfl
          try simp only [Act.put, List.getElem_toArray, List.getElem_cons_succ, List.getElem_cons_zero, List.setIfInBounds_toArray, List.set_cons_zero, List.set_cons_succ]
          refine wpAnyH_take (i := 12) (v := ?_) rfl (by kernel_rfl) (by kernel_rfl) (by kernel_rfl) (fun _ _ _ h => h) (Or.inl ⟨by kernel_rfl, ?_⟩) (by assumption) ?_
          rotate_left 1
          · intro w hSw
            try dsimp only at hSw
            go_simp
            try with_reducible rfl
          try simp only [Act.put, List.getElem_toArray, List.getElem_cons_succ, List.getElem_cons_zero, List.setIfInBounds_toArray, List.set_cons_zero, List.set_cons_succ]
          refine wpAnyH_take (i := 13) (v := ?_) rfl (by kernel_rfl) (by kernel_rfl) (by kernel_rfl) (fun _ _ _ h => h) (Or.inl ⟨by kernel_rfl, ?_⟩) (by assumption) ?_
          rotate_left 1
          · intro w hSw
            try dsimp only at hSw
            go_simp
            try with_reducible rfl
          try simp only [Act.put, List.getElem_toArray, List.getElem_cons_succ, List.getElem_cons_zero, List.setIfInBounds_toArray, List.set_cons_zero, List.set_cons_succ]
          refine wpAnyH_take (i := 14) (v := ?_) rfl (by kernel_rfl) (by kernel_rfl) (by kernel_rfl) (fun _ _ _ h => h) (Or.inl ⟨by kernel_rfl, ?_⟩) (by assumption) ?_
          rotate_left 1
          · intro w hSw
            try dsimp only at hSw
            go_simp
            try with_reducible rfl
          try simp only [Act.put, List.getElem_toArray, List.getElem_cons_succ, List.getElem_cons_zero, List.setIfInBounds_toArray, List.set_cons_zero, List.set_cons_succ]
          refine wpAnyH_take (i := 15) (v := ?_) rfl (by kernel_rfl) (by kernel_rfl) (by kernel_rfl) (fun _ _ _ h => h) (Or.inl ⟨by kernel_rfl, ?_⟩) (by assumption) ?_
          rotate_left 1
          · intro w hSw
            try dsimp only at hSw
            go_simp
            try with_reducible rfl
          try simp only [Act.put, List.getElem_toArray, List.getElem_cons_succ, List.getElem_cons_zero, List.setIfInBounds_toArray, List.set_cons_zero, List.set_cons_succ]
          refine wpAnyH_take (i := 16) (v := undef) rfl (by kernel_rfl) (by kernel_rfl) (by kernel_rfl) (fun _ _ _ h => h) (Or.inr ⟨by kernel_rfl, rfl⟩) (by assumption) ?_
          try simp only [Act.put, List.getElem_toArray, List.getElem_cons_succ, List.getElem_cons_zero, List.setIfInBounds_toArray, List.set_cons_zero, List.set_cons_succ]
          refine wpAnyH_take (i := 17) (v := undef) rfl (by kernel_rfl) (by kernel_rfl) (by kernel_rfl) (fun _ _ _ h => h) (Or.inr ⟨by kernel_rfl, rfl⟩) (by assumption) ?_
          try simp only [Act.put, List.getElem_toArray, List.getElem_cons_succ, List.getElem_cons_zero, List.setIfInBounds_toArray, List.set_cons_zero, List.set_cons_succ]
          refine wpAnyH_take (i := 18) (v := undef) rfl (by kernel_rfl) (by kernel_rfl) (by kernel_rfl) (fun _ _ _ h => h) (Or.inr ⟨by kernel_rfl, rfl⟩) (by assumption) ?_
          try simp only [Act.put, List.getElem_toArray, List.getElem_cons_succ, List.getElem_cons_zero, List.setIfInBounds_toArray, List.set_cons_zero, List.set_cons_succ]
          refine wpAnyH_take (i := 19) (v := undef) rfl (by kernel_rfl) (by kernel_rfl) (by kernel_rfl) (fun _ _ _ h => h) (Or.inr ⟨by kernel_rfl, rfl⟩) (by assumption) ?_
          try simp only [Act.put, List.getElem_toArray, List.getElem_cons_succ, List.getElem_cons_zero, List.setIfInBounds_toArray, List.set_cons_zero, List.set_cons_succ]
          refine wpAnyH_take (i := 20) (v := undef) rfl (by kernel_rfl) (by kernel_rfl) (by kernel_rfl) (fun _ _ _ h => h) (Or.inr ⟨by kernel_rfl, rfl⟩) (by assumption) ?_
          try simp only [Act.put, List.getElem_toArray, List.getElem_cons_succ, List.getElem_cons_zero, List.setIfInBounds_toArray, List.set_cons_zero, List.set_cons_succ]
          refine wpAnyH_take (i := 21) (v := undef) rfl (by kernel_rfl) (by kernel_rfl) (by kernel_rfl) (fun _ _ _ h => h) (Or.inr ⟨by kernel_rfl, rfl⟩) (by assumption) ?_
          try simp only [Act.put, List.getElem_toArray, List.getElem_cons_succ, List.getElem_cons_zero, List.setIfInBounds_toArray, List.set_cons_zero, List.set_cons_succ]
          refine wpAnyH_take (i := 22) (v := undef) rfl (by kernel_rfl) (by kernel_rfl) (by kernel_rfl) (fun _ _ _ h => h) (Or.inr ⟨by kernel_rfl, rfl⟩) (by assumption) ?_
          try simp only [Act.put, List.getElem_toArray, List.getElem_cons_succ, List.getElem_cons_zero, List.setIfInBounds_toArray, List.set_cons_zero, List.set_cons_succ]
          refine wpAnyH_take (i := 23) (v := undef) rfl (by kernel_rfl) (by kernel_rfl) (by kernel_rfl) (fun _ _ _ h => h) (Or.inr ⟨by kernel_rfl, rfl⟩) (by assumption) ?_
          try simp only [Act.put, List.getElem_toArray, List.getElem_cons_succ, List.getElem_cons_zero, List.setIfInBounds_toArray, List.set_cons_zero, List.set_cons_succ]
          refine wpAnyH_take (i := 24) (v := undef) rfl (by kernel_rfl) (by kernel_rfl) (by kernel_rfl) (fun _ _ _ h => h) (Or.inr ⟨by kernel_rfl, rfl⟩) (by assumption) ?_
          try simp only [Act.put, List.getElem_toArray, List.getElem_cons_succ, List.getElem_cons_zero, List.setIfInBounds_toArray, List.set_cons_zero, List.set_cons_succ]
          refine wpAnyH_take (i := 25) (v := ?_) rfl (by kernel_rfl) (by kernel_rfl) (by kernel_rfl) (fun _ _ _ h => h) (Or.inl ⟨by kernel_rfl, ?_⟩) (by assumption) ?_
          rotate_left 1
          · intro w hSw
            try dsimp only at hSw
            go_simp
            try with_reducible rfl
          try simp only [Act.put, List.getElem_toArray, List.getElem_cons_succ, List.getElem_cons_zero, List.setIfInBounds_toArray, List.set_cons_zero, List.set_cons_succ]
          refine wpAnyH_done (by kernel_rfl) ?_ _
          clear hHeld
          go_wp2
          go_ret
          exact ⟨by rw [HS.out.2 HF.out]; rfl, HB_s.out⟩
    · have HE := Lib.hid he
      have HB := Lib.hid (bt HB_0.out hbel)
      clear he hbel
      go_wp2
      go_ret
      refine ⟨?_, HB.out⟩
      rw [HE.out, List.drop_of_length_le (by omega)]; rfl

set_option maxRecDepth 100000 in
set_option maxHeartbeats 3200000 in
theorem kgInput_any (P Q G : Int) {B : Nat} {v : Value} {ds : List DlD} (hl : ds.length ≤ 1048576) (hr : nDs ds ≤ 1048576) {w : World} (hz : InDs B w v ds) :
    Calls Try.prog 91 #[gv P Q G, v] w fun e w' => e = .returned (.bool (kiB P Q G ds)) ∧ Below w.heap.size w w' := by
  obtain ⟨la, lc, rfl⟩ := hz.shape
  have hmf : ∀ (fn : Fn) (first cap : Array Value) (w : World), (Instr.makeFunc fn first cap).run Try.prog w = .ok (.func fn first cap) w := fun _ _ _ _ => rfl
  have G_0 := Lib.hid (gr_atS w w.heap.size rfl P Q G 24)
  have HB_0 := Lib.hid (show Below w.heap.size w (w.alloc (.cells #[.int .i64 P, .int .i64 Q, .int .i64 G] 24)) from ba _ _)
  have L_0 := Lib.hid (hz.below HB_0.out)
  by_cases h9 : ds.length = 0
  · have ha9 : alB P Q ds = false := by simp [alB, inB_false.2 (show (ds.length : Int) < 1 ∨ 7 < (ds.length : Int) by omega)]
    have HA9 := Lib.hid ha9
    clear h9 ha9
    cases h0 : trB P Q G
    · have K0 := Lib.hid (show trB P Q G = false from h0)
      have E1 := Lib.hid (show kiB P Q G ds = false by simp [kiB, h0])
      rw [E1.out]
      clear h0
      obtain ⟨gG0, gG1, gG2⟩ := G_0.out
      go_enter Try.func91, Try.ntmps91
      go_wp2_with fail
      refine (sGroup_any P Q G _).mono ?_
      rw [K0.out]
      rintro e v1 ⟨rfl, hb⟩
      have HB_1 := Lib.hid (bt HB_0.out hb)
      have G_1 := Lib.hid (G_0.out.below hb)
      have L_1 := Lib.hid (L_0.out.below hb)
      clear hb gG0 gG1 gG2
      obtain ⟨gG0, gG1, gG2⟩ := G_1.out
      go_wp2
      go_ret
      exact ⟨rfl, HB_1.out⟩
    have K0 := Lib.hid (show trB P Q G = true from h0)
    have hmo := (trB_of h0).2.1
    cases h1 : alB P Q ds
    · have K1 := Lib.hid (show alB P Q ds = false from h1)
      have E1 := Lib.hid (show kiB P Q G ds = false by simp [kiB, h1])
      rw [E1.out]
      clear h0 h1
      obtain ⟨gG0, gG1, gG2⟩ := G_0.out
      go_enter Try.func91, Try.ntmps91
      go_wp2_with fail
      refine (sGroup_any P Q G _).mono ?_
      rw [K0.out]
      rintro e v1 ⟨rfl, hb⟩
      have HB_1 := Lib.hid (bt HB_0.out hb)
      have G_1 := Lib.hid (G_0.out.below hb)
      have L_1 := Lib.hid (L_0.out.below hb)
      clear hb gG0 gG1 gG2
      obtain ⟨gG0, gG1, gG2⟩ := G_1.out
      go_wp2_with fail
      refine (sAlike_any P Q G hmo hl hr L_1.out).mono ?_
      rw [K1.out]
      rintro e v2 ⟨rfl, hb⟩
      have HB_2 := Lib.hid (bt HB_1.out hb)
      have G_2 := Lib.hid (G_1.out.below hb)
      have L_2 := Lib.hid (L_1.out.below hb)
      clear hb gG0 gG1 gG2
      obtain ⟨gG0, gG1, gG2⟩ := G_2.out
      go_wp2
      go_ret
      exact ⟨rfl, HB_2.out⟩
    have K1 := Lib.hid (show alB P Q ds = true from h1)
    exact absurd (HA9.out.symm.trans h1) (by simp)
  have hq9 : ¬ ((1 : Int) > (ds.length : Int)) := by omega
  have hq8 : (1 : Int) ≤ (ds.length : Int) := by omega
  have h10 : 1 ≤ ds.length := by omega
  obtain ⟨lb, lo, x, y, d0, rfl, hlb, hx, hy, hi, hj, hd⟩ := L_0.out.at (k := 0) (by omega)
  obtain ⟨a1, a2, rfl⟩ := hi.shape
  obtain ⟨b1, b2, rfl⟩ := hj.shape
  have hd0 : ds.headD nilD = d0 := by rw [show ds = d0 :: ds.drop 1 from hd]; rfl
  have E_0 := Lib.hid (show DC _ lb lo (.slice a1 d0.c.length a2) (.slice b1 d0.s.length b2) from ⟨by simpa using hx, by simpa using hy⟩)
  clear hx hy hi hj hd h9 hz
  cases h0 : trB P Q G
  · have K0 := Lib.hid (show trB P Q G = false from h0)
    have E1 := Lib.hid (show kiB P Q G ds = false by simp [kiB, h0])
    rw [E1.out]
    clear h0
    obtain ⟨gG0, gG1, gG2⟩ := G_0.out
    obtain ⟨cE0, cE1⟩ := E_0.out
    go_enter Try.func91, Try.ntmps91
    go_wp2_with fail
    refine (sGroup_any P Q G _).mono ?_
    rw [K0.out]
    rintro e v1 ⟨rfl, hb⟩
    have HB_1 := Lib.hid (bt HB_0.out hb)
    have G_1 := Lib.hid (G_0.out.below hb)
    have L_1 := Lib.hid (L_0.out.below hb)
    have E_1 := Lib.hid (E_0.out.below hb)
    clear hb gG0 gG1 gG2 cE0 cE1
    obtain ⟨gG0, gG1, gG2⟩ := G_1.out
    obtain ⟨cE0, cE1⟩ := E_1.out
    go_wp2
    go_ret
    exact ⟨rfl, HB_1.out⟩
  have K0 := Lib.hid (show trB P Q G = true from h0)
  have hmo := (trB_of h0).2.1
  cases h1 : alB P Q ds
  · have K1 := Lib.hid (show alB P Q ds = false from h1)
    have E1 := Lib.hid (show kiB P Q G ds = false by simp [kiB, h1])
    rw [E1.out]
    clear h0 h1
    obtain ⟨gG0, gG1, gG2⟩ := G_0.out
    obtain ⟨cE0, cE1⟩ := E_0.out
    go_enter Try.func91, Try.ntmps91
    go_wp2_with fail
    refine (sGroup_any P Q G _).mono ?_
    rw [K0.out]
    rintro e v1 ⟨rfl, hb⟩
    have HB_1 := Lib.hid (bt HB_0.out hb)
    have G_1 := Lib.hid (G_0.out.below hb)
    have L_1 := Lib.hid (L_0.out.below hb)
    have E_1 := Lib.hid (E_0.out.below hb)
    clear hb gG0 gG1 gG2 cE0 cE1
    obtain ⟨gG0, gG1, gG2⟩ := G_1.out
    obtain ⟨cE0, cE1⟩ := E_1.out
    go_wp2_with fail
    refine (sAlike_any P Q G hmo hl hr L_1.out).mono ?_
    rw [K1.out]
    rintro e v2 ⟨rfl, hb⟩
    have HB_2 := Lib.hid (bt HB_1.out hb)
    have G_2 := Lib.hid (G_1.out.below hb)
    have L_2 := Lib.hid (L_1.out.below hb)
    have E_2 := Lib.hid (E_1.out.below hb)
    clear hb gG0 gG1 gG2 cE0 cE1
    obtain ⟨gG0, gG1, gG2⟩ := G_2.out
    obtain ⟨cE0, cE1⟩ := E_2.out
    go_wp2
    go_ret
    exact ⟨rfl, HB_2.out⟩
  have K1 := Lib.hid (show alB P Q ds = true from h1)
  have E1 := Lib.hid (ki_on h0 h1 hd0)
  rw [E1.out]
  clear h0 h1
  obtain ⟨gG0, gG1, gG2⟩ := G_0.out
  obtain ⟨cE0, cE1⟩ := E_0.out
  go_enter Try.func91, Try.ntmps91
  go_wp2_with fail
  refine (sGroup_any P Q G _).mono ?_
  rw [K0.out]
  rintro e v1 ⟨rfl, hb⟩
  have HB_1 := Lib.hid (bt HB_0.out hb)
  have G_1 := Lib.hid (G_0.out.below hb)
  have L_1 := Lib.hid (L_0.out.below hb)
  have E_1 := Lib.hid (E_0.out.below hb)
  clear hb gG0 gG1 gG2 cE0 cE1
  obtain ⟨gG0, gG1, gG2⟩ := G_1.out
  obtain ⟨cE0, cE1⟩ := E_1.out
  go_wp2_with fail
  refine (sAlike_any P Q G hmo hl hr L_1.out).mono ?_
  rw [K1.out]
  rintro e v2 ⟨rfl, hb⟩
  have HB_2 := Lib.hid (bt HB_1.out hb)
  have G_2 := Lib.hid (G_1.out.below hb)
  have L_2 := Lib.hid (L_1.out.below hb)
  have E_2 := Lib.hid (E_1.out.below hb)
  clear hb gG0 gG1 gG2 cE0 cE1
  obtain ⟨gG0, gG1, gG2⟩ := G_2.out
  obtain ⟨cE0, cE1⟩ := E_2.out
  go_wp2
  go_ret
  exact ⟨rfl, HB_2.out⟩

set_option maxRecDepth 100000 in
set_option maxHeartbeats 3200000 in
theorem sIsKeyGenInput_any (P Q G : Int) {B : Nat} {v : Value} {ds : List DlD} (hl : ds.length ≤ 1048576) (hr : nDs ds ≤ 1048576) {w : World} (hz : InDs B w v ds) :
    Calls Try.prog 34 #[gv P Q G, v] w fun e w' => e = .returned (.bool (kiB P Q G ds)) ∧ Below w.heap.size w w' := by
  have G_0 := Lib.hid (gr_atS w w.heap.size rfl P Q G 24)
  have HB_0 := Lib.hid (show Below w.heap.size w (w.alloc (.cells #[.int .i64 P, .int .i64 Q, .int .i64 G] 24)) from ba _ _)
  have L_0 := Lib.hid (hz.below HB_0.out)
  clear hz
  obtain ⟨gG0, gG1, gG2⟩ := G_0.out
  go_enter Try.func34, Try.ntmps34
  go_wp2_with fail
  refine (kgInput_any P Q G hl hr L_0.out).mono ?_
  rintro e v1 ⟨rfl, hb⟩
  have HB_1 := Lib.hid (bt HB_0.out hb)
  clear hb gG0 gG1 gG2
  go_wp2
  go_ret
  exact ⟨rfl, HB_1.out⟩

end Go.Proofs.Ytchlnkdlnfjijaa

