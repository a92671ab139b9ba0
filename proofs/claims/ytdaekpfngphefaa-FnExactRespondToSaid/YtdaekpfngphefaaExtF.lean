/- Simulators and extractors: what the functions answer, in plain words. -/
import Derived.Test.YtdaekpfngphefaaSigV
import Derived.Test.YtdaekpfngphefaaG5
namespace Go.Proofs.Ytdaekpfngphefaa
open Go.RowKit
set_option linter.unusedVariables false
set_option linter.unusedSimpArgs false

/-! ### RespondTo -/
def rtB (P Q G s c e : Int) : Bool := goodB P Q G && allIn [s, c, e] 0 (Q - 1)
def rtV (P Q G s c e : Int) : Int := if rtB P Q G s c e then (c + e * s) % Q else 0
theorem rt_off {P Q G s c e : Int} (h : rtB P Q G s c e = false) : rtV P Q G s c e = 0 := by simp [rtV, h]
theorem rt_on {P Q G s c e : Int} (h : rtB P Q G s c e = true) : rtV P Q G s c e = (c + e * s) % Q := by simp [rtV, h]
theorem in_three {Q s c e : Int} (h : allIn [s, c, e] 0 (Q - 1) = true) : (0 ≤ s ∧ s < Q) ∧ (0 ≤ c ∧ c < Q) ∧ (0 ≤ e ∧ e < Q) := by
  have h' : ∀ z ∈ [s, c, e], 0 ≤ z ∧ z < Q := fun z hz => by
    unfold allIn at h; rw [List.all_eq_true] at h; have := inB_true.1 (h z hz); omega
  exact ⟨h' s (by simp), h' c (by simp), h' e (by simp)⟩
theorem in_two {Q c e : Int} (h : allIn [c, e] 0 (Q - 1) = true) : (0 ≤ c ∧ c < Q) ∧ (0 ≤ e ∧ e < Q) := by
  have h' : ∀ z ∈ [c, e], 0 ≤ z ∧ z < Q := fun z hz => by
    unfold allIn at h; rw [List.all_eq_true] at h; have := inB_true.1 (h z hz); omega
  exact ⟨h' c (by simp), h' e (by simp)⟩
theorem el_two {P Q a b : Int} (h : allEl P Q [a, b] = true) : elB P Q a = true ∧ elB P Q b = true := by
  rw [allEl_two, Bool.and_eq_true] at h; exact h
theorem exs_three (Q s c e : Int) : exsB Q [s, c, e] = allIn [s, c, e] 0 (Q - 1) := by simp [exsB, allIn, exB]
theorem exs_two (Q c e : Int) : exsB Q [c, e] = allIn [c, e] 0 (Q - 1) := by simp [exsB, allIn, exB]
theorem els_two (P Q a b : Int) : elsB P Q [a, b] = allEl P Q [a, b] := by simp [elsB]
theorem els_four (P Q a b c d : Int) : elsB P Q [a, b, c, d] = allEl P Q [a, b, c, d] := by simp [elsB]

/-! ### Transcripts -/
def trB (P Q c e z : Int) : Bool := elB P Q c && (exB Q e && exB Q z)
theorem trB_true {P Q c e z : Int} : trB P Q c e z = true ↔ elB P Q c = true ∧ (0 ≤ e ∧ e < Q) ∧ 0 ≤ z ∧ z < Q := by
  simp [trB, exB_true]
theorem tr_two (P Q c e z : Int) : trB P Q c e z = (elB P Q c && allIn [e, z] 0 (Q - 1)) := by simp [trB, allIn, exB]
def accW (P b y c e z : Int) : Bool := decide (Num.pow b z P = c * Num.pow y e P % P)
def iaB (P Q G b y c e z : Int) : Bool := goodB P Q G && (allEl P Q [b, y] && trB P Q c e z)
def iaV (P Q G b y c e z : Int) : Bool := iaB P Q G b y c e z && accW P b y c e z
theorem iaB_true {P Q G b y c e z : Int} : iaB P Q G b y c e z = true ↔ goodB P Q G = true ∧ allEl P Q [b, y] = true ∧ trB P Q c e z = true := by simp [iaB]
theorem ia_off {P Q G b y c e z : Int} (h : iaB P Q G b y c e z = false) : iaV P Q G b y c e z = false := by simp [iaV, h]
theorem ia_on {P Q G b y c e z : Int} (h : iaB P Q G b y c e z = true) : iaV P Q G b y c e z = accW P b y c e z := by simp [iaV, h]
/-- The only commit that fits a challenge and a response. -/
def simW (P Q b y e z : Int) : Int := decW P Q y (Num.pow b z P) e
theorem acc_sim {P Q G b y c e z : Int} (hg : goodB P Q G = true) (hb : elB P Q b = true) (hy : elB P Q y = true) (hc : elB P Q c = true) (he : 0 ≤ e) : decide (c = simW P Q b y e z) = accW P b y c e z := by
  have h := goodB_true.1 hg
  have hp := pow_lt b z P (by omega)
  have hr := el_rng hc
  unfold accW simW
  rw [Bool.eq_iff_iff, decide_eq_true_eq, decide_eq_true_eq, ← dec_iff hg hy he hp.1 hp.2 hr.1 hr.2]
  exact ⟨fun h => h.symm, fun h => h.symm⟩
theorem sim_el {P Q G b y e z : Int} (hg : goodB P Q G = true) (hb : elB P Q b = true) (hy : elB P Q y = true) (he : 0 ≤ e) (hz : 0 ≤ z) : elB P Q (simW P Q b y e z) = true :=
  dec_el hg hy (el_pow hg hb hz) he
theorem sim_neg {P Q G b y e z : Int} (hg : goodB P Q G = true) (hb : elB P Q b = true) (hy : elB P Q y = true) (he : 0 ≤ e ∧ e < Q) (hz : 0 ≤ z) : simW P Q b y e z = Num.pow b z P * Num.pow y ((-e) % Q) P % P :=
  dec_neg hg (el_pow hg hb hz) hy he

/-! ### SimulateKnowledge -/
def skB (P Q G b y e z : Int) : Bool := goodB P Q G && (allEl P Q [b, y] && allIn [e, z] 0 (Q - 1))
def skC (P Q G b y e z : Int) : Int := if skB P Q G b y e z then simW P Q b y e z else 0
def skE (P Q G b y e z : Int) : Int := if skB P Q G b y e z then e else 0
def skZ (P Q G b y e z : Int) : Int := if skB P Q G b y e z then z else 0
theorem sk_off {P Q G b y e z : Int} (h : skB P Q G b y e z = false) : skC P Q G b y e z = 0 ∧ skE P Q G b y e z = 0 ∧ skZ P Q G b y e z = 0 := by simp [skC, skE, skZ, h]
theorem sk_on {P Q G b y e z : Int} (h : skB P Q G b y e z = true) : skC P Q G b y e z = simW P Q b y e z ∧ skE P Q G b y e z = e ∧ skZ P Q G b y e z = z := by simp [skC, skE, skZ, h]

/-! ### SimulateEqual -/
def seB (P Q G a b c d e z : Int) : Bool := goodB P Q G && (allEl P Q [a, b, c, d] && allIn [e, z] 0 (Q - 1))
def seA (P Q G a b c d e z : Int) : Int := if seB P Q G a b c d e z then simW P Q a b e z else 0
def seC (P Q G a b c d e z : Int) : Int := if seB P Q G a b c d e z then simW P Q c d e z else 0
theorem se_off {P Q G a b c d e z : Int} (h : seB P Q G a b c d e z = false) : seA P Q G a b c d e z = 0 ∧ seC P Q G a b c d e z = 0 := by simp [seA, seC, h]
theorem se_on {P Q G a b c d e z : Int} (h : seB P Q G a b c d e z = true) : seA P Q G a b c d e z = simW P Q a b e z ∧ seC P Q G a b c d e z = simW P Q c d e z := by simp [seA, seC, h]
theorem el_four {P Q a b c d : Int} (h : allEl P Q [a, b, c, d] = true) : elB P Q a = true ∧ elB P Q b = true ∧ elB P Q c = true ∧ elB P Q d = true := by
  simpa [allEl] using h

/-! ### ExtractKnowledge -/
def slope (Q z1 z2 e1 e2 : Int) : Int := (z1 - z2) % Q * Num.inv ((e1 - e2) % Q) Q % Q
def ekB (P Q G b y c1 e1 z1 c2 e2 z2 : Int) : Bool := iaV P Q G b y c1 e1 z1 && (iaV P Q G b y c2 e2 z2 && (decide (c1 = c2) && !decide (e1 = e2)))
def ekV (P Q G b y c1 e1 z1 c2 e2 z2 : Int) : Int := if ekB P Q G b y c1 e1 z1 c2 e2 z2 then slope Q z1 z2 e1 e2 else 0
theorem ek_off {P Q G b y c1 e1 z1 c2 e2 z2 : Int} (h : ekB P Q G b y c1 e1 z1 c2 e2 z2 = false) : ekV P Q G b y c1 e1 z1 c2 e2 z2 = 0 := by simp [ekV, h]
theorem ek_on {P Q G b y c1 e1 z1 c2 e2 z2 : Int} (h : ekB P Q G b y c1 e1 z1 c2 e2 z2 = true) : ekV P Q G b y c1 e1 z1 c2 e2 z2 = slope Q z1 z2 e1 e2 := by simp [ekV, h]
/-- The difference of two exponents that are not the same has an inverse. -/
theorem diff_inv {P Q G e1 e2 : Int} (hg : goodB P Q G = true) (h1 : 0 ≤ e1 ∧ e1 < Q) (h2 : 0 ≤ e2 ∧ e2 < Q) (hne : ¬ e1 = e2) : Num.invOk ((e1 - e2) % Q) Q = true ∧ (0 < (e1 - e2) % Q ∧ (e1 - e2) % Q < Q) ∧ 0 ≤ Num.inv ((e1 - e2) % Q) Q ∧ Num.inv ((e1 - e2) % Q) Q < Q := by
  obtain ⟨p, q, g, rfl, rfl, rfl, _, hq, _, _, _, _, _, _, _⟩ := good_nat hg
  have hq2 := hq.1
  have h3 : (e1 - e2) % (q : Int) = if e1 < e2 then e1 - e2 + q else e1 - e2 := by
    split
    · rw [← Int.add_emod_right, Int.emod_eq_of_lt (by omega) (by omega)]
    · rw [Int.emod_eq_of_lt (by omega) (by omega)]
  have h4 : 0 < (e1 - e2) % (q : Int) ∧ (e1 - e2) % (q : Int) < q := by rw [h3]; split <;> omega
  obtain ⟨d, hd⟩ := Int.eq_ofNat_of_zero_le (show 0 ≤ (e1 - e2) % (q : Int) by omega)
  rw [hd] at h4 ⊢
  have hok := Num.invOk_prime hq (x := d) (by omega) (by omega)
  refine ⟨hok, h4, ?_⟩
  have hr := Num.eg_bd q q d 0 1 (Num.bd_start (by omega))
  unfold Num.inv
  rw [hok]
  unfold Num.invRaw
  rw [Int.toNat_natCast, Int.toNat_natCast]
  simp only [if_true]
  split <;> omega
theorem slope_ninv {Q z1 z2 e1 e2 : Int} (hok : Num.invOk ((e1 - e2) % Q) Q = true) : (z1 - z2) % Q * Num.ninv ((e1 - e2) % Q) Q % Q = slope Q z1 z2 e1 e2 := by
  unfold slope; rw [Num.inv_ninv, hok, if_pos rfl]

end Go.Proofs.Ytdaekpfngphefaa

/- Simulators and extractors: the program's functions. -/
namespace Go.Proofs.Ytdaekpfngphefaa
open Go.RowKit
set_option linter.unusedVariables false
set_option linter.unusedSimpArgs false

theorem v4_at (w : World) (b : Nat) (hb : w.heap.size = b) (a c d f : Int) (t : TypeId) : V4 (w.alloc (.cells #[.int .i64 a, .int .i64 c, .int .i64 d, .int .i64 f] t)) b a c d f := by
  subst hb; exact v4_new w a c d f t
theorem own3_drop {w w' : World} {b : Nat} {x y z : Int} (h : Own3 w b x y z) (hb : Below w.drew.heap.size w.drew w') : Own3 w' b x y z := Own3.below (w := w.drew) h hb
theorem gr_three {w : World} {b c : Nat} {P Q G : Int} (h : GR w b P Q G) (hne : c ≠ b) (x y z : Value) : GR (((w.setCell ⟨c, 0, none⟩ x).setCell ⟨c, 1, none⟩ y).setCell ⟨c, 2, none⟩ z) b P Q G := by
  have one : ∀ {w : World} {i : Nat} {v : Value}, GR w b P Q G → GR (w.setCell ⟨c, i, none⟩ v) b P Q G := by
    intro w i v h
    obtain ⟨c0, c1, c2⟩ := h
    refine ⟨?_, ?_, ?_⟩
    · rw [World.cell?_setCell_other _ _ _ _ (fun e => hne (congrArg Addr.block e))]; exact c0
    · rw [World.cell?_setCell_other _ _ _ _ (fun e => hne (congrArg Addr.block e))]; exact c1
    · rw [World.cell?_setCell_other _ _ _ _ (fun e => hne (congrArg Addr.block e))]; exact c2
  exact one (one (one h))
theorem set_below3 {w W : World} (h : Below w.heap.size w W) (b : Nat) (hb : w.heap.size ≤ b) (u v x : Value) : Below w.heap.size w (((W.setCell ⟨b, 0, none⟩ u).setCell ⟨b, 1, none⟩ v).setCell ⟨b, 2, none⟩ x) :=
  ((h.setCell hb _).setCell hb _).setCell hb _

set_option maxRecDepth 100000 in
set_option maxHeartbeats 3200000 in
theorem respond_any (P Q G s c e : Int) (hq : 2 ≤ Q ∧ Q ≤ 2000000000) (hs : 0 ≤ s ∧ s < Q) (hc : 0 ≤ c ∧ c < Q) (he : 0 ≤ e ∧ e < Q) (w : World) :
    Calls Try.prog 85 #[gv P Q G, .int .i64 s, .int .i64 c, .int .i64 e] w (EqOut (.int .i64 ((c + e * s) % Q)) w) := by
  obtain ⟨p0, p1⟩ := prod_bd (a := e) (z := s) he.1 (by omega) hs.1 (by omega)
  go_enter Try.func85, Try.ntmps85
  go_wp2
  go_ret
  exact ⟨rfl, ba _ _⟩

set_option maxRecDepth 100000 in
set_option maxHeartbeats 3200000 in
theorem respondTo_any (P Q G s c e : Int) (w : World) :
    Calls Try.prog 52 #[gv P Q G, .int .i64 s, .int .i64 c, .int .i64 e] w (EqOut (.tuple #[.int .i64 (rtV P Q G s c e), .bool (rtB P Q G s c e)]) w) := by
  have G_0 := Lib.hid (gr_at w (w.heap.size) (by simp) P Q G 32)
  have HB_0 := Lib.hid (show Below w.heap.size w (w.alloc (.cells #[.int .i64 P, .int .i64 Q, .int .i64 G] 32)) from ba _ _)
  cases h0 : goodB P Q G
  · have K0 := Lib.hid (show goodB P Q G = false from h0)
    have E1 := Lib.hid (show rtB P Q G s c e = false by simp [rtB, h0])
    rw [E1.out, rt_off E1.out]
    clear h0
    obtain ⟨gG0, gG1, gG2⟩ := G_0.out
    go_enter Try.func52, Try.ntmps52
    go_wp2_with fail
    refine (isValidGroup_any P Q G _).mono ?_
    rw [K0.out]
    rintro e v1 ⟨rfl, hb⟩
    have HB_1 := Lib.hid (bt HB_0.out hb)
    have G_1 := Lib.hid (G_0.out.below hb)
    clear hb gG0 gG1 gG2
    obtain ⟨gG0, gG1, gG2⟩ := G_1.out
    go_wp2
    go_ret2
    exact ⟨rfl, HB_1.out⟩
  have K0 := Lib.hid (show goodB P Q G = true from h0)
  have hmo := good_mo h0
  have hgr := good_rng h0
  have hgd := h0
  cases h1 : allIn [s, c, e] 0 (Q - 1)
  · have K1 := Lib.hid (show exsB Q [s, c, e] = false from (exs_three Q s c e).trans h1)
    have E1 := Lib.hid (show rtB P Q G s c e = false by simp [rtB, h0, h1])
    rw [E1.out, rt_off E1.out]
    clear h0 h1
    obtain ⟨gG0, gG1, gG2⟩ := G_0.out
    go_enter Try.func52, Try.ntmps52
    go_wp2_with fail
    refine (isValidGroup_any P Q G _).mono ?_
    rw [K0.out]
    rintro e v1 ⟨rfl, hb⟩
    have HB_1 := Lib.hid (bt HB_0.out hb)
    have G_1 := Lib.hid (G_0.out.below hb)
    clear hb gG0 gG1 gG2
    obtain ⟨gG0, gG1, gG2⟩ := G_1.out
    go_wp2_with fail
    refine (areExponents_any P Q G _ 3 3 [s, c, e] rfl (by decide) _ (ints_lit v1 [s, c, e] 3)).mono ?_
    rw [K1.out]
    rintro e v2 ⟨rfl, hb0⟩
    have hb := bt (ba v1 _) hb0
    clear hb0
    have HB_2 := Lib.hid (bt HB_1.out hb)
    have G_2 := Lib.hid (G_1.out.below hb)
    clear hb gG0 gG1 gG2
    obtain ⟨gG0, gG1, gG2⟩ := G_2.out
    go_wp2
    go_ret2
    exact ⟨rfl, HB_2.out⟩
  have K1 := Lib.hid (show exsB Q [s, c, e] = true from (exs_three Q s c e).trans h1)
  obtain ⟨hs, hc, he⟩ := in_three h1
  have E1 := Lib.hid (show rtB P Q G s c e = true by simp [rtB, h0, h1])
  rw [E1.out, rt_on E1.out]
  obtain ⟨p0, p1⟩ := prod_bd (a := e) (z := s) he.1 (by omega) hs.1 (by omega)
  clear h0 h1 hgd
  obtain ⟨gG0, gG1, gG2⟩ := G_0.out
  go_enter Try.func52, Try.ntmps52
  go_wp2_with fail
  refine (isValidGroup_any P Q G _).mono ?_
  rw [K0.out]
  rintro e v1 ⟨rfl, hb⟩
  have HB_1 := Lib.hid (bt HB_0.out hb)
  have G_1 := Lib.hid (G_0.out.below hb)
  clear hb gG0 gG1 gG2
  obtain ⟨gG0, gG1, gG2⟩ := G_1.out
  go_wp2_with fail
  refine (areExponents_any P Q G _ 3 3 [s, c, e] rfl (by decide) _ (ints_lit v1 [s, c, e] 3)).mono ?_
  rw [K1.out]
  rintro e v2 ⟨rfl, hb0⟩
  have hb := bt (ba v1 _) hb0
  clear hb0
  have HB_2 := Lib.hid (bt HB_1.out hb)
  have G_2 := Lib.hid (G_1.out.below hb)
  clear hb gG0 gG1 gG2
  obtain ⟨gG0, gG1, gG2⟩ := G_2.out
  go_wp2_with fail
  refine (respond_any P Q G s c e hgr.2.1 hs hc he _).mono ?_
  rintro e v9 ⟨rfl, hb⟩
  have HB_9 := Lib.hid (bt HB_2.out hb)
  clear hb
  go_wp2
  go_ret2
  exact ⟨rfl, HB_9.out⟩

set_option maxRecDepth 100000 in
set_option maxHeartbeats 3200000 in
theorem simulate_any (P Q G b y e z : Int) (hg : goodB P Q G = true) (hb : elB P Q b = true) (hy : elB P Q y = true) (he : 0 ≤ e ∧ e < Q) (hz : 0 ≤ z ∧ z < Q) (w : World) :
    Calls Try.prog 92 #[gv P Q G, .int .i64 b, .int .i64 y, .int .i64 e, .int .i64 z] w (EqOut (gv (simW P Q b y e z) e z) w) := by
  have hmo := good_mo hg
  have hgr := good_rng hg
  have hP : 2 ≤ P ∧ P ≤ 2000000000 := hmo.1
  have hQ9 : Q ≤ 2000000000 := hgr.2.1.2
  have HA := Lib.hid (el_rng hb)
  have HY := Lib.hid (el_rng hy)
  have hpe := inv_el hg (el_pow hg hy he.1)
  have hir := pow_lt (Num.pow y e P) (Q - 1) P hP.1
  have HOK := Lib.hid (show Num.invOk (Num.pow y e P) P = true ∧ 0 ≤ Num.inv (Num.pow y e P) P ∧ Num.inv (Num.pow y e P) P < P ∧ Num.inv (Num.pow y e P) P = Num.pow (Num.pow y e P) (Q - 1) P from ⟨hpe.1, by rw [hpe.2]; exact hir.1, by rw [hpe.2]; exact hir.2, hpe.2⟩)
  obtain ⟨x0, x1⟩ := pow_lt b z P hP.1
  obtain ⟨y0, y1⟩ := pow_lt y e P hP.1
  generalize hp1 : Num.pow b z P = p1 at x0 x1
  generalize hp2 : Num.pow y e P = p2 at y0 y1 HOK
  have P1 := Lib.hid hp1
  have P2 := Lib.hid hp2
  have EV := Lib.hid (show p1 * Num.inv p2 P % P = simW P Q b y e z by unfold simW decW; rw [hp1, hp2, HOK.out.2.2.2])
  clear hpe hir hg hmo hgr hp1 hp2 hb hy
  have G_0 := Lib.hid ((gr_at w (w.heap.size) (by simp) P Q G 32).below (ba (w.alloc (.cells #[.int .i64 P, .int .i64 Q, .int .i64 G] 32)) (.cells #[.int .i64 0, .int .i64 0, .int .i64 0] 77)))
  have R_0 := Lib.hid (show Own3 ((w.alloc (.cells #[.int .i64 P, .int .i64 Q, .int .i64 G] 32)).alloc (.cells #[.int .i64 0, .int .i64 0, .int .i64 0] 77)) (w.heap.size + 1) 0 0 0 from by have h := own3_new (w.alloc (.cells #[.int .i64 P, .int .i64 Q, .int .i64 G] 32)) 0 0 0 77; rwa [show (w.alloc (.cells #[.int .i64 P, .int .i64 Q, .int .i64 G] 32)).heap.size = w.heap.size + 1 by simp] at h)
  have HB_0 := Lib.hid (show Below w.heap.size w ((w.alloc (.cells #[.int .i64 P, .int .i64 Q, .int .i64 G] 32)).alloc (.cells #[.int .i64 0, .int .i64 0, .int .i64 0] 77)) from bt (ba _ _) (ba _ _))
  obtain ⟨g0, g1, g2⟩ := G_0.out
  go_enter Try.func92, Try.ntmps92
  go_wp2_with fail
  go_region_held3 (fun w' => w'.cell? ⟨w.heap.size, 0, none⟩ = some (.int .i64 P) ∧ w'.cell? ⟨w.heap.size, 1, none⟩ = some (.int .i64 Q) ∧ w'.cell? ⟨w.heap.size, 2, none⟩ = some (.int .i64 G)) (first | with_reducible exact ⟨s0, s1, s2⟩ | with_reducible exact ⟨t0, t1, t2⟩ | with_reducible exact ⟨g0, g1, g2⟩ | exact gr_three Gq.out (by omega) _ _ _ | exact ⟨g0, g1, g2⟩) ((first
    | (go_at_call 84; (with_reducible refine (power_any P Q G b z HA.out.1 (by have := HA.out.2; omega) hz.1 (by omega) hP.1 hP.2 _).mono ?_); rw [P1.out]; rintro e' vp ⟨rfl, hp⟩; have HBp := Lib.hid (bt_drop HB_0.out hp); have Gp := Lib.hid (gr_drop G_0.out hp); have Rp := Lib.hid (own3_drop R_0.out hp); obtain ⟨s0, s1, s2⟩ := Gp.out; clear hp)
    | (go_at_call 84; (with_reducible refine (power_any P Q G y e HY.out.1 (by have := HY.out.2; omega) he.1 (by omega) hP.1 hP.2 _).mono ?_); rw [P2.out]; rintro e' vq ⟨rfl, hp⟩; have HBq := Lib.hid (bt HBp.out hp); have Gq := Lib.hid (Gp.out.below hp); obtain ⟨t0, t1, t2⟩ := Gq.out; obtain ⟨⟨d0, d1, d2⟩, df⟩ := Rp.out.below hp; have df0 := df 0; have df1 := df 1; have df2 := df 2; clear hp df)
    | (go_at_call 116; refine (ediv_any P p1 p2 hP.1 hP.2 x0 x1 y0 y1 HOK.out.1 HOK.out.2.1 HOK.out.2.2.1 _).mono ?_; rw [EV.out]; rintro e' _ ⟨rfl, rfl⟩)
    | fail))
  all_goals (
    go_wp2
    (try simp only [Exit.inBlock, Exit.then])
    refine bodyPost_ret (v := gv (simW P Q b y e z) e z) ?_ rfl ⟨rfl, ?_⟩
    · rw [results_cell_one rfl]; go_simp
    · first | exact set_below3 HBq.out _ (by omega) _ _ _ | exact set_below3 HBq.out.drew _ (by omega) _ _ _)

set_option maxRecDepth 100000 in
set_option maxHeartbeats 3200000 in
theorem hasTranscript_any (P Q G c e z : Int) (hmo : Mo P Q) (w : World) :
    Calls Try.prog 89 #[gv P Q G, gv c e z] w (EqOut (.bool (trB P Q c e z)) w) := by
  have G_0 := Lib.hid ((gr_at w (w.heap.size) (by simp) P Q G 32).below (ba (w.alloc (.cells #[.int .i64 P, .int .i64 Q, .int .i64 G] 32)) (.cells #[.int .i64 c, .int .i64 e, .int .i64 z] 77)))
  have T_0 := Lib.hid (gr_at (w.alloc (.cells #[.int .i64 P, .int .i64 Q, .int .i64 G] 32)) (w.heap.size + 1) (by simp) c e z 77)
  have HB_0 := Lib.hid (show Below w.heap.size w ((w.alloc (.cells #[.int .i64 P, .int .i64 Q, .int .i64 G] 32)).alloc (.cells #[.int .i64 c, .int .i64 e, .int .i64 z] 77)) from bt (ba _ _) (ba _ _))
  cases h0 : elB P Q c
  · have K0 := Lib.hid (show elB P Q c = false from h0)
    have E1 := Lib.hid (show trB P Q c e z = false by simp [trB, h0])
    rw [E1.out]
    clear h0
    obtain ⟨gG0, gG1, gG2⟩ := G_0.out
    obtain ⟨gT0, gT1, gT2⟩ := T_0.out
    go_enter Try.func89, Try.ntmps89
    go_wp2_with fail
    refine (hasElement_any P Q G c hmo _).mono ?_
    rw [K0.out]
    rintro e v1 ⟨rfl, hb⟩
    have HB_1 := Lib.hid (bt HB_0.out hb)
    have G_1 := Lib.hid (G_0.out.below hb)
    have T_1 := Lib.hid (T_0.out.below hb)
    clear hb gG0 gG1 gG2 gT0 gT1 gT2
    obtain ⟨gG0, gG1, gG2⟩ := G_1.out
    obtain ⟨gT0, gT1, gT2⟩ := T_1.out
    go_wp2
    go_ret
    exact ⟨rfl, HB_1.out⟩
  have K0 := Lib.hid (show elB P Q c = true from h0)
  cases h1 : exB Q e
  · have K1 := Lib.hid (show exB Q e = false from h1)
    have E1 := Lib.hid (show trB P Q c e z = false by simp [trB, h0, h1])
    rw [E1.out]
    clear h0 h1
    obtain ⟨gG0, gG1, gG2⟩ := G_0.out
    obtain ⟨gT0, gT1, gT2⟩ := T_0.out
    go_enter Try.func89, Try.ntmps89
    go_wp2_with fail
    refine (hasElement_any P Q G c hmo _).mono ?_
    rw [K0.out]
    rintro e v1 ⟨rfl, hb⟩
    have HB_1 := Lib.hid (bt HB_0.out hb)
    have G_1 := Lib.hid (G_0.out.below hb)
    have T_1 := Lib.hid (T_0.out.below hb)
    clear hb gG0 gG1 gG2 gT0 gT1 gT2
    obtain ⟨gG0, gG1, gG2⟩ := G_1.out
    obtain ⟨gT0, gT1, gT2⟩ := T_1.out
    go_wp2_with fail
    refine (hasExponent_any P Q G e _).mono ?_
    rw [K1.out]
    rintro e v2 ⟨rfl, hb⟩
    have HB_2 := Lib.hid (bt HB_1.out hb)
    have G_2 := Lib.hid (G_1.out.below hb)
    have T_2 := Lib.hid (T_1.out.below hb)
    clear hb gG0 gG1 gG2 gT0 gT1 gT2
    obtain ⟨gG0, gG1, gG2⟩ := G_2.out
    obtain ⟨gT0, gT1, gT2⟩ := T_2.out
    go_wp2
    go_ret
    exact ⟨rfl, HB_2.out⟩
  have K1 := Lib.hid (show exB Q e = true from h1)
  cases h2 : exB Q z
  · have K2 := Lib.hid (show exB Q z = false from h2)
    have E1 := Lib.hid (show trB P Q c e z = false by simp [trB, h0, h1, h2])
    rw [E1.out]
    clear h0 h1 h2
    obtain ⟨gG0, gG1, gG2⟩ := G_0.out
    obtain ⟨gT0, gT1, gT2⟩ := T_0.out
    go_enter Try.func89, Try.ntmps89
    go_wp2_with fail
    refine (hasElement_any P Q G c hmo _).mono ?_
    rw [K0.out]
    rintro e v1 ⟨rfl, hb⟩
    have HB_1 := Lib.hid (bt HB_0.out hb)
    have G_1 := Lib.hid (G_0.out.below hb)
    have T_1 := Lib.hid (T_0.out.below hb)
    clear hb gG0 gG1 gG2 gT0 gT1 gT2
    obtain ⟨gG0, gG1, gG2⟩ := G_1.out
    obtain ⟨gT0, gT1, gT2⟩ := T_1.out
    go_wp2_with fail
    refine (hasExponent_any P Q G e _).mono ?_
    rw [K1.out]
    rintro e v2 ⟨rfl, hb⟩
    have HB_2 := Lib.hid (bt HB_1.out hb)
    have G_2 := Lib.hid (G_1.out.below hb)
    have T_2 := Lib.hid (T_1.out.below hb)
    clear hb gG0 gG1 gG2 gT0 gT1 gT2
    obtain ⟨gG0, gG1, gG2⟩ := G_2.out
    obtain ⟨gT0, gT1, gT2⟩ := T_2.out
    go_wp2_with fail
    refine (hasExponent_any P Q G z _).mono ?_
    rw [K2.out]
    rintro e v3 ⟨rfl, hb⟩
    have HB_3 := Lib.hid (bt HB_2.out hb)
    have G_3 := Lib.hid (G_2.out.below hb)
    have T_3 := Lib.hid (T_2.out.below hb)
    clear hb gG0 gG1 gG2 gT0 gT1 gT2
    obtain ⟨gG0, gG1, gG2⟩ := G_3.out
    obtain ⟨gT0, gT1, gT2⟩ := T_3.out
    go_wp2
    go_ret
    exact ⟨rfl, HB_3.out⟩
  have K2 := Lib.hid (show exB Q z = true from h2)
  have E1 := Lib.hid (show trB P Q c e z = true by simp [trB, h0, h1, h2])
  rw [E1.out]
  clear h0 h1 h2
  obtain ⟨gG0, gG1, gG2⟩ := G_0.out
  obtain ⟨gT0, gT1, gT2⟩ := T_0.out
  go_enter Try.func89, Try.ntmps89
  go_wp2_with fail
  refine (hasElement_any P Q G c hmo _).mono ?_
  rw [K0.out]
  rintro e v1 ⟨rfl, hb⟩
  have HB_1 := Lib.hid (bt HB_0.out hb)
  have G_1 := Lib.hid (G_0.out.below hb)
  have T_1 := Lib.hid (T_0.out.below hb)
  clear hb gG0 gG1 gG2 gT0 gT1 gT2
  obtain ⟨gG0, gG1, gG2⟩ := G_1.out
  obtain ⟨gT0, gT1, gT2⟩ := T_1.out
  go_wp2_with fail
  refine (hasExponent_any P Q G e _).mono ?_
  rw [K1.out]
  rintro e v2 ⟨rfl, hb⟩
  have HB_2 := Lib.hid (bt HB_1.out hb)
  have G_2 := Lib.hid (G_1.out.below hb)
  have T_2 := Lib.hid (T_1.out.below hb)
  clear hb gG0 gG1 gG2 gT0 gT1 gT2
  obtain ⟨gG0, gG1, gG2⟩ := G_2.out
  obtain ⟨gT0, gT1, gT2⟩ := T_2.out
  go_wp2_with fail
  refine (hasExponent_any P Q G z _).mono ?_
  rw [K2.out]
  rintro e v3 ⟨rfl, hb⟩
  have HB_3 := Lib.hid (bt HB_2.out hb)
  have G_3 := Lib.hid (G_2.out.below hb)
  have T_3 := Lib.hid (T_2.out.below hb)
  clear hb gG0 gG1 gG2 gT0 gT1 gT2
  obtain ⟨gG0, gG1, gG2⟩ := G_3.out
  obtain ⟨gT0, gT1, gT2⟩ := T_3.out
  go_wp2
  go_ret
  exact ⟨rfl, HB_3.out⟩

theorem simulate_agg (P Q G b y e z : Int) (hg : goodB P Q G = true) (hb : elB P Q b = true) (hy : elB P Q y = true) (he : 0 ≤ e ∧ e < Q) (hz : 0 ≤ z ∧ z < Q) (w : World) :
    Calls Try.prog 92 #[gv P Q G, .int .i64 b, .int .i64 y, .int .i64 e, .int .i64 z] w fun e' w' => e' = .returned (.agg #[.int .i64 (simW P Q b y e z), .int .i64 e, .int .i64 z]) ∧ Below w.heap.size w w' := simulate_any P Q G b y e z hg hb hy he hz w

set_option maxRecDepth 100000 in
set_option maxHeartbeats 3200000 in
theorem accepts_any (P Q G b y c e z : Int) (hg : goodB P Q G = true) (hb : elB P Q b = true) (hy : elB P Q y = true) (hc : elB P Q c = true) (he : 0 ≤ e ∧ e < Q) (hz : 0 ≤ z ∧ z < Q) (w : World) :
    Calls Try.prog 90 #[gv P Q G, .int .i64 b, .int .i64 y, gv c e z] w (EqOut (.bool (accW P b y c e z)) w) := by
  have ES := Lib.hid (acc_sim (z := z) hg hb hy hc he.1)
  have HS := Lib.hid (simulate_any P Q G b y e z hg hb hy he hz)
  clear hg hb hy hc he hz
  rw [← ES.out]
  generalize hk : simW P Q b y e z = k at ES HS
  clear hk
  have G_0 := Lib.hid ((gr_at w (w.heap.size) (by simp) P Q G 32).below (ba (w.alloc (.cells #[.int .i64 P, .int .i64 Q, .int .i64 G] 32)) (.cells #[.int .i64 c, .int .i64 e, .int .i64 z] 77)))
  have T_0 := Lib.hid (gr_at (w.alloc (.cells #[.int .i64 P, .int .i64 Q, .int .i64 G] 32)) (w.heap.size + 1) (by simp) c e z 77)
  have HB_0 := Lib.hid (show Below w.heap.size w ((w.alloc (.cells #[.int .i64 P, .int .i64 Q, .int .i64 G] 32)).alloc (.cells #[.int .i64 c, .int .i64 e, .int .i64 z] 77)) from bt (ba _ _) (ba _ _))
  obtain ⟨g0, g1, g2⟩ := G_0.out
  obtain ⟨t0, t1, t2⟩ := T_0.out
  clear ES
  by_cases hck : c = k
  · subst hck
    rw [decide_eq_true rfl]
    go_enter Try.func90, Try.ntmps90
    go_wp2_with fail
    go_region_held3 (fun w' => (w'.cell? ⟨w.heap.size, 0, none⟩ = some (.int .i64 P) ∧ w'.cell? ⟨w.heap.size, 1, none⟩ = some (.int .i64 Q) ∧ w'.cell? ⟨w.heap.size, 2, none⟩ = some (.int .i64 G)) ∧ w'.cell? ⟨w.heap.size + 1, 0, none⟩ = some (.int .i64 c) ∧ w'.cell? ⟨w.heap.size + 1, 1, none⟩ = some (.int .i64 e) ∧ w'.cell? ⟨w.heap.size + 1, 2, none⟩ = some (.int .i64 z)) (first | with_reducible exact ⟨⟨s0, s1, s2⟩, r0, r1, r2⟩ | exact ⟨⟨g0, g1, g2⟩, t0, t1, t2⟩) ((first
      | (go_at_call 92; refine (HS.out _).mono ?_; rintro e' vp ⟨rfl, hp⟩; have HBp := Lib.hid (bt_drop HB_0.out hp); obtain ⟨s0, s1, s2⟩ := gr_drop G_0.out hp; obtain ⟨r0, r1, r2⟩ := gr_drop T_0.out hp; clear hp)
      | fail))
    all_goals (
      go_wp2
      go_ret
      exact ⟨by simp, HBp.out⟩)
  · rw [decide_eq_false hck]
    have hck1 : (c == k) = false := by simpa using hck
    go_enter Try.func90, Try.ntmps90
    go_wp2_with fail
    go_region_held3 (fun w' => (w'.cell? ⟨w.heap.size, 0, none⟩ = some (.int .i64 P) ∧ w'.cell? ⟨w.heap.size, 1, none⟩ = some (.int .i64 Q) ∧ w'.cell? ⟨w.heap.size, 2, none⟩ = some (.int .i64 G)) ∧ w'.cell? ⟨w.heap.size + 1, 0, none⟩ = some (.int .i64 c) ∧ w'.cell? ⟨w.heap.size + 1, 1, none⟩ = some (.int .i64 e) ∧ w'.cell? ⟨w.heap.size + 1, 2, none⟩ = some (.int .i64 z)) (first | with_reducible exact ⟨⟨s0, s1, s2⟩, r0, r1, r2⟩ | exact ⟨⟨g0, g1, g2⟩, t0, t1, t2⟩) ((first
      | (go_at_call 92; refine (HS.out _).mono ?_; rintro e' vp ⟨rfl, hp⟩; have HBp := Lib.hid (bt_drop HB_0.out hp); obtain ⟨s0, s1, s2⟩ := gr_drop G_0.out hp; obtain ⟨r0, r1, r2⟩ := gr_drop T_0.out hp; clear hp)
      | fail))
    all_goals (
      go_wp2
      go_ret
      exact ⟨by simp [hck], HBp.out⟩)

set_option maxRecDepth 100000 in
set_option maxHeartbeats 3200000 in
theorem isAccepting_any (P Q G b y c e z : Int) (w : World) :
    Calls Try.prog 55 #[gv P Q G, .int .i64 b, .int .i64 y, gv c e z] w (EqOut (.tuple #[.bool (iaV P Q G b y c e z), .bool (iaB P Q G b y c e z)]) w) := by
  have G_0 := Lib.hid ((gr_at w (w.heap.size) (by simp) P Q G 32).below (ba (w.alloc (.cells #[.int .i64 P, .int .i64 Q, .int .i64 G] 32)) (.cells #[.int .i64 c, .int .i64 e, .int .i64 z] 77)))
  have T_0 := Lib.hid (gr_at (w.alloc (.cells #[.int .i64 P, .int .i64 Q, .int .i64 G] 32)) (w.heap.size + 1) (by simp) c e z 77)
  have HB_0 := Lib.hid (show Below w.heap.size w ((w.alloc (.cells #[.int .i64 P, .int .i64 Q, .int .i64 G] 32)).alloc (.cells #[.int .i64 c, .int .i64 e, .int .i64 z] 77)) from bt (ba _ _) (ba _ _))
  cases h0 : goodB P Q G
  · have K0 := Lib.hid (show goodB P Q G = false from h0)
    have E1 := Lib.hid (show iaB P Q G b y c e z = false by simp [iaB, h0])
    rw [E1.out, ia_off E1.out]
    clear h0
    obtain ⟨gG0, gG1, gG2⟩ := G_0.out
    obtain ⟨gT0, gT1, gT2⟩ := T_0.out
    go_enter Try.func55, Try.ntmps55
    go_wp2_with fail
    refine (isValidGroup_any P Q G _).mono ?_
    rw [K0.out]
    rintro e v1 ⟨rfl, hb⟩
    have HB_1 := Lib.hid (bt HB_0.out hb)
    have G_1 := Lib.hid (G_0.out.below hb)
    have T_1 := Lib.hid (T_0.out.below hb)
    clear hb gG0 gG1 gG2 gT0 gT1 gT2
    obtain ⟨gG0, gG1, gG2⟩ := G_1.out
    obtain ⟨gT0, gT1, gT2⟩ := T_1.out
    go_wp2
    go_ret2
    exact ⟨rfl, HB_1.out⟩
  have K0 := Lib.hid (show goodB P Q G = true from h0)
  have hmo := good_mo h0
  have hgr := good_rng h0
  have hgd := h0
  cases h1 : allEl P Q [b, y]
  · have K1 := Lib.hid (show elsB P Q [b, y] = false from (els_two P Q b y).trans h1)
    have E1 := Lib.hid (show iaB P Q G b y c e z = false by simp [iaB, h0, h1])
    rw [E1.out, ia_off E1.out]
    clear h0 h1
    obtain ⟨gG0, gG1, gG2⟩ := G_0.out
    obtain ⟨gT0, gT1, gT2⟩ := T_0.out
    go_enter Try.func55, Try.ntmps55
    go_wp2_with fail
    refine (isValidGroup_any P Q G _).mono ?_
    rw [K0.out]
    rintro e v1 ⟨rfl, hb⟩
    have HB_1 := Lib.hid (bt HB_0.out hb)
    have G_1 := Lib.hid (G_0.out.below hb)
    have T_1 := Lib.hid (T_0.out.below hb)
    clear hb gG0 gG1 gG2 gT0 gT1 gT2
    obtain ⟨gG0, gG1, gG2⟩ := G_1.out
    obtain ⟨gT0, gT1, gT2⟩ := T_1.out
    go_wp2_with fail
    refine (areElements_any P Q G hmo _ 2 2 [b, y] rfl (by decide) _ (ints_lit v1 [b, y] 3)).mono ?_
    rw [K1.out]
    rintro e v2 ⟨rfl, hb0⟩
    have hb := bt (ba v1 _) hb0
    clear hb0
    have HB_2 := Lib.hid (bt HB_1.out hb)
    have G_2 := Lib.hid (G_1.out.below hb)
    have T_2 := Lib.hid (T_1.out.below hb)
    clear hb gG0 gG1 gG2 gT0 gT1 gT2
    obtain ⟨gG0, gG1, gG2⟩ := G_2.out
    obtain ⟨gT0, gT1, gT2⟩ := T_2.out
    go_wp2
    go_ret2
    exact ⟨rfl, HB_2.out⟩
  have K1 := Lib.hid (show elsB P Q [b, y] = true from (els_two P Q b y).trans h1)
  obtain ⟨hb1, hy1⟩ := el_two h1
  cases h2 : trB P Q c e z
  · have K2 := Lib.hid (show trB P Q c e z = false from h2)
    have E1 := Lib.hid (show iaB P Q G b y c e z = false by simp [iaB, h0, h1, h2])
    rw [E1.out, ia_off E1.out]
    clear h0 h1 h2
    obtain ⟨gG0, gG1, gG2⟩ := G_0.out
    obtain ⟨gT0, gT1, gT2⟩ := T_0.out
    go_enter Try.func55, Try.ntmps55
    go_wp2_with fail
    refine (isValidGroup_any P Q G _).mono ?_
    rw [K0.out]
    rintro e v1 ⟨rfl, hb⟩
    have HB_1 := Lib.hid (bt HB_0.out hb)
    have G_1 := Lib.hid (G_0.out.below hb)
    have T_1 := Lib.hid (T_0.out.below hb)
    clear hb gG0 gG1 gG2 gT0 gT1 gT2
    obtain ⟨gG0, gG1, gG2⟩ := G_1.out
    obtain ⟨gT0, gT1, gT2⟩ := T_1.out
    go_wp2_with fail
    refine (areElements_any P Q G hmo _ 2 2 [b, y] rfl (by decide) _ (ints_lit v1 [b, y] 3)).mono ?_
    rw [K1.out]
    rintro e v2 ⟨rfl, hb0⟩
    have hb := bt (ba v1 _) hb0
    clear hb0
    have HB_2 := Lib.hid (bt HB_1.out hb)
    have G_2 := Lib.hid (G_1.out.below hb)
    have T_2 := Lib.hid (T_1.out.below hb)
    clear hb gG0 gG1 gG2 gT0 gT1 gT2
    obtain ⟨gG0, gG1, gG2⟩ := G_2.out
    obtain ⟨gT0, gT1, gT2⟩ := T_2.out
    go_wp2_with fail
    refine (hasTranscript_any P Q G c e z hmo _).mono ?_
    rw [K2.out]
    rintro e v3 ⟨rfl, hb⟩
    have HB_3 := Lib.hid (bt HB_2.out hb)
    have G_3 := Lib.hid (G_2.out.below hb)
    have T_3 := Lib.hid (T_2.out.below hb)
    clear hb gG0 gG1 gG2 gT0 gT1 gT2
    obtain ⟨gG0, gG1, gG2⟩ := G_3.out
    obtain ⟨gT0, gT1, gT2⟩ := T_3.out
    go_wp2
    go_ret2
    exact ⟨rfl, HB_3.out⟩
  have K2 := Lib.hid (show trB P Q c e z = true from h2)
  obtain ⟨hc1, he1, hz1⟩ := trB_true.1 h2
  have E1 := Lib.hid (show iaB P Q G b y c e z = true by simp [iaB, h0, h1, h2])
  rw [E1.out, ia_on E1.out]
  clear h0 h1 h2
  obtain ⟨gG0, gG1, gG2⟩ := G_0.out
  obtain ⟨gT0, gT1, gT2⟩ := T_0.out
  go_enter Try.func55, Try.ntmps55
  go_wp2_with fail
  refine (isValidGroup_any P Q G _).mono ?_
  rw [K0.out]
  rintro e v1 ⟨rfl, hb⟩
  have HB_1 := Lib.hid (bt HB_0.out hb)
  have G_1 := Lib.hid (G_0.out.below hb)
  have T_1 := Lib.hid (T_0.out.below hb)
  clear hb gG0 gG1 gG2 gT0 gT1 gT2
  obtain ⟨gG0, gG1, gG2⟩ := G_1.out
  obtain ⟨gT0, gT1, gT2⟩ := T_1.out
  go_wp2_with fail
  refine (areElements_any P Q G hmo _ 2 2 [b, y] rfl (by decide) _ (ints_lit v1 [b, y] 3)).mono ?_
  rw [K1.out]
  rintro e v2 ⟨rfl, hb0⟩
  have hb := bt (ba v1 _) hb0
  clear hb0
  have HB_2 := Lib.hid (bt HB_1.out hb)
  have G_2 := Lib.hid (G_1.out.below hb)
  have T_2 := Lib.hid (T_1.out.below hb)
  clear hb gG0 gG1 gG2 gT0 gT1 gT2
  obtain ⟨gG0, gG1, gG2⟩ := G_2.out
  obtain ⟨gT0, gT1, gT2⟩ := T_2.out
  go_wp2_with fail
  refine (hasTranscript_any P Q G c e z hmo _).mono ?_
  rw [K2.out]
  rintro e v3 ⟨rfl, hb⟩
  have HB_3 := Lib.hid (bt HB_2.out hb)
  have G_3 := Lib.hid (G_2.out.below hb)
  have T_3 := Lib.hid (T_2.out.below hb)
  clear hb gG0 gG1 gG2 gT0 gT1 gT2
  obtain ⟨gG0, gG1, gG2⟩ := G_3.out
  obtain ⟨gT0, gT1, gT2⟩ := T_3.out
  go_wp2_with fail
  refine (accepts_any P Q G b y c e z hgd hb1 hy1 hc1 he1 hz1 _).mono ?_
  rintro e' v9 ⟨rfl, hb9⟩
  have HB_9 := Lib.hid (bt HB_3.out hb9)
  clear hb9
  go_wp2
  go_ret2
  exact ⟨rfl, HB_9.out⟩

set_option maxRecDepth 100000 in
set_option maxHeartbeats 3200000 in
theorem simulateKnowledge_any (P Q G b y e z : Int) (w : World) :
    Calls Try.prog 57 #[gv P Q G, .int .i64 b, .int .i64 y, .int .i64 e, .int .i64 z] w (EqOut (.tuple #[gv (skC P Q G b y e z) (skE P Q G b y e z) (skZ P Q G b y e z), .bool (skB P Q G b y e z)]) w) := by
  have G_0 := Lib.hid ((gr_at w (w.heap.size) (by simp) P Q G 32).below (ba (w.alloc (.cells #[.int .i64 P, .int .i64 Q, .int .i64 G] 32)) (.cells #[.int .i64 0, .int .i64 0, .int .i64 0] 77)))
  have R_0 := Lib.hid (show Own3 ((w.alloc (.cells #[.int .i64 P, .int .i64 Q, .int .i64 G] 32)).alloc (.cells #[.int .i64 0, .int .i64 0, .int .i64 0] 77)) (w.heap.size + 1) 0 0 0 from by have h := own3_new (w.alloc (.cells #[.int .i64 P, .int .i64 Q, .int .i64 G] 32)) 0 0 0 77; rwa [show (w.alloc (.cells #[.int .i64 P, .int .i64 Q, .int .i64 G] 32)).heap.size = w.heap.size + 1 by simp] at h)
  have HB_0 := Lib.hid (show Below w.heap.size w ((w.alloc (.cells #[.int .i64 P, .int .i64 Q, .int .i64 G] 32)).alloc (.cells #[.int .i64 0, .int .i64 0, .int .i64 0] 77)) from bt (ba _ _) (ba _ _))
  cases h0 : goodB P Q G
  · have K0 := Lib.hid (show goodB P Q G = false from h0)
    have E1 := Lib.hid (show skB P Q G b y e z = false by simp [skB, h0])
    obtain ⟨E2, E3, E4⟩ := sk_off E1.out
    rw [E1.out, E2, E3, E4]
    clear E2 E3 E4
    clear h0
    obtain ⟨⟨rR0, rR1, rR2⟩, rfR⟩ := R_0.out
    have rfR0 := rfR 0
    have rfR1 := rfR 1
    have rfR2 := rfR 2
    obtain ⟨gG0, gG1, gG2⟩ := G_0.out
    go_enter Try.func57, Try.ntmps57
    go_wp2_with fail
    refine (isValidGroup_any P Q G _).mono ?_
    rw [K0.out]
    rintro e v1 ⟨rfl, hb⟩
    have HB_1 := Lib.hid (bt HB_0.out hb)
    have G_1 := Lib.hid (G_0.out.below hb)
    have R_1 := Lib.hid (R_0.out.below hb)
    clear hb gG0 gG1 gG2 rR0 rR1 rR2 rfR rfR0 rfR1 rfR2
    obtain ⟨⟨rR0, rR1, rR2⟩, rfR⟩ := R_1.out
    have rfR0 := rfR 0
    have rfR1 := rfR 1
    have rfR2 := rfR 2
    obtain ⟨gG0, gG1, gG2⟩ := G_1.out
    go_wp2
    (try simp only [Exit.inBlock, Exit.then])
    refine bodyPost_ret (v := .tuple #[gv 0 0 0, .bool false]) ?_ rfl ⟨rfl, ?_⟩
    · rw [results_cell_tmp rfl]; go_simp
    · first | exact HB_1.out | exact set_below3 HB_1.out (w.heap.size + 1) (by omega) _ _ _
  have K0 := Lib.hid (show goodB P Q G = true from h0)
  have hmo := good_mo h0
  have hgr := good_rng h0
  have hgd := h0
  cases h1 : allEl P Q [b, y]
  · have K1 := Lib.hid (show elsB P Q [b, y] = false from (els_two P Q b y).trans h1)
    have E1 := Lib.hid (show skB P Q G b y e z = false by simp [skB, h0, h1])
    obtain ⟨E2, E3, E4⟩ := sk_off E1.out
    rw [E1.out, E2, E3, E4]
    clear E2 E3 E4
    clear h0 h1
    obtain ⟨⟨rR0, rR1, rR2⟩, rfR⟩ := R_0.out
    have rfR0 := rfR 0
    have rfR1 := rfR 1
    have rfR2 := rfR 2
    obtain ⟨gG0, gG1, gG2⟩ := G_0.out
    go_enter Try.func57, Try.ntmps57
    go_wp2_with fail
    refine (isValidGroup_any P Q G _).mono ?_
    rw [K0.out]
    rintro e v1 ⟨rfl, hb⟩
    have HB_1 := Lib.hid (bt HB_0.out hb)
    have G_1 := Lib.hid (G_0.out.below hb)
    have R_1 := Lib.hid (R_0.out.below hb)
    clear hb gG0 gG1 gG2 rR0 rR1 rR2 rfR rfR0 rfR1 rfR2
    obtain ⟨⟨rR0, rR1, rR2⟩, rfR⟩ := R_1.out
    have rfR0 := rfR 0
    have rfR1 := rfR 1
    have rfR2 := rfR 2
    obtain ⟨gG0, gG1, gG2⟩ := G_1.out
    go_wp2_with fail
    refine (areElements_any P Q G hmo _ 2 2 [b, y] rfl (by decide) _ (ints_lit v1 [b, y] 3)).mono ?_
    rw [K1.out]
    rintro e v2 ⟨rfl, hb0⟩
    have hb := bt (ba v1 _) hb0
    clear hb0
    have HB_2 := Lib.hid (bt HB_1.out hb)
    have G_2 := Lib.hid (G_1.out.below hb)
    have R_2 := Lib.hid (R_1.out.below hb)
    clear hb gG0 gG1 gG2 rR0 rR1 rR2 rfR rfR0 rfR1 rfR2
    obtain ⟨⟨rR0, rR1, rR2⟩, rfR⟩ := R_2.out
    have rfR0 := rfR 0
    have rfR1 := rfR 1
    have rfR2 := rfR 2
    obtain ⟨gG0, gG1, gG2⟩ := G_2.out
    go_wp2
    (try simp only [Exit.inBlock, Exit.then])
    refine bodyPost_ret (v := .tuple #[gv 0 0 0, .bool false]) ?_ rfl ⟨rfl, ?_⟩
    · rw [results_cell_tmp rfl]; go_simp
    · first | exact HB_2.out | exact set_below3 HB_2.out (w.heap.size + 1) (by omega) _ _ _
  have K1 := Lib.hid (show elsB P Q [b, y] = true from (els_two P Q b y).trans h1)
  obtain ⟨hb1, hy1⟩ := el_two h1
  cases h2 : allIn [e, z] 0 (Q - 1)
  · have K2 := Lib.hid (show exsB Q [e, z] = false from (exs_two Q e z).trans h2)
    have E1 := Lib.hid (show skB P Q G b y e z = false by simp [skB, h0, h1, h2])
    obtain ⟨E2, E3, E4⟩ := sk_off E1.out
    rw [E1.out, E2, E3, E4]
    clear E2 E3 E4
    clear h0 h1 h2
    obtain ⟨⟨rR0, rR1, rR2⟩, rfR⟩ := R_0.out
    have rfR0 := rfR 0
    have rfR1 := rfR 1
    have rfR2 := rfR 2
    obtain ⟨gG0, gG1, gG2⟩ := G_0.out
    go_enter Try.func57, Try.ntmps57
    go_wp2_with fail
    refine (isValidGroup_any P Q G _).mono ?_
    rw [K0.out]
    rintro e v1 ⟨rfl, hb⟩
    have HB_1 := Lib.hid (bt HB_0.out hb)
    have G_1 := Lib.hid (G_0.out.below hb)
    have R_1 := Lib.hid (R_0.out.below hb)
    clear hb gG0 gG1 gG2 rR0 rR1 rR2 rfR rfR0 rfR1 rfR2
    obtain ⟨⟨rR0, rR1, rR2⟩, rfR⟩ := R_1.out
    have rfR0 := rfR 0
    have rfR1 := rfR 1
    have rfR2 := rfR 2
    obtain ⟨gG0, gG1, gG2⟩ := G_1.out
    go_wp2_with fail
    refine (areElements_any P Q G hmo _ 2 2 [b, y] rfl (by decide) _ (ints_lit v1 [b, y] 3)).mono ?_
    rw [K1.out]
    rintro e v2 ⟨rfl, hb0⟩
    have hb := bt (ba v1 _) hb0
    clear hb0
    have HB_2 := Lib.hid (bt HB_1.out hb)
    have G_2 := Lib.hid (G_1.out.below hb)
    have R_2 := Lib.hid (R_1.out.below hb)
    clear hb gG0 gG1 gG2 rR0 rR1 rR2 rfR rfR0 rfR1 rfR2
    obtain ⟨⟨rR0, rR1, rR2⟩, rfR⟩ := R_2.out
    have rfR0 := rfR 0
    have rfR1 := rfR 1
    have rfR2 := rfR 2
    obtain ⟨gG0, gG1, gG2⟩ := G_2.out
    go_wp2_with fail
    refine (areExponents_any P Q G _ 2 2 [e, z] rfl (by decide) _ (ints_lit v2 [e, z] 3)).mono ?_
    rw [K2.out]
    rintro e v3 ⟨rfl, hb0⟩
    have hb := bt (ba v2 _) hb0
    clear hb0
    have HB_3 := Lib.hid (bt HB_2.out hb)
    have G_3 := Lib.hid (G_2.out.below hb)
    have R_3 := Lib.hid (R_2.out.below hb)
    clear hb gG0 gG1 gG2 rR0 rR1 rR2 rfR rfR0 rfR1 rfR2
    obtain ⟨⟨rR0, rR1, rR2⟩, rfR⟩ := R_3.out
    have rfR0 := rfR 0
    have rfR1 := rfR 1
    have rfR2 := rfR 2
    obtain ⟨gG0, gG1, gG2⟩ := G_3.out
    go_wp2
    (try simp only [Exit.inBlock, Exit.then])
    refine bodyPost_ret (v := .tuple #[gv 0 0 0, .bool false]) ?_ rfl ⟨rfl, ?_⟩
    · rw [results_cell_tmp rfl]; go_simp
    · first | exact HB_3.out | exact set_below3 HB_3.out (w.heap.size + 1) (by omega) _ _ _
  have K2 := Lib.hid (show exsB Q [e, z] = true from (exs_two Q e z).trans h2)
  obtain ⟨he1, hz1⟩ := in_two h2
  have E1 := Lib.hid (show skB P Q G b y e z = true by simp [skB, h0, h1, h2])
  obtain ⟨E2, E3, E4⟩ := sk_on E1.out
  rw [E1.out, E2, E3, E4]
  clear E2 E3 E4 h0 h1 h2
  obtain ⟨⟨rR0, rR1, rR2⟩, rfR⟩ := R_0.out
  have rfR0 := rfR 0
  have rfR1 := rfR 1
  have rfR2 := rfR 2
  obtain ⟨gG0, gG1, gG2⟩ := G_0.out
  go_enter Try.func57, Try.ntmps57
  go_wp2_with fail
  refine (isValidGroup_any P Q G _).mono ?_
  rw [K0.out]
  rintro e v1 ⟨rfl, hb⟩
  have HB_1 := Lib.hid (bt HB_0.out hb)
  have G_1 := Lib.hid (G_0.out.below hb)
  have R_1 := Lib.hid (R_0.out.below hb)
  clear hb gG0 gG1 gG2 rR0 rR1 rR2 rfR rfR0 rfR1 rfR2
  obtain ⟨⟨rR0, rR1, rR2⟩, rfR⟩ := R_1.out
  have rfR0 := rfR 0
  have rfR1 := rfR 1
  have rfR2 := rfR 2
  obtain ⟨gG0, gG1, gG2⟩ := G_1.out
  go_wp2_with fail
  refine (areElements_any P Q G hmo _ 2 2 [b, y] rfl (by decide) _ (ints_lit v1 [b, y] 3)).mono ?_
  rw [K1.out]
  rintro e v2 ⟨rfl, hb0⟩
  have hb := bt (ba v1 _) hb0
  clear hb0
  have HB_2 := Lib.hid (bt HB_1.out hb)
  have G_2 := Lib.hid (G_1.out.below hb)
  have R_2 := Lib.hid (R_1.out.below hb)
  clear hb gG0 gG1 gG2 rR0 rR1 rR2 rfR rfR0 rfR1 rfR2
  obtain ⟨⟨rR0, rR1, rR2⟩, rfR⟩ := R_2.out
  have rfR0 := rfR 0
  have rfR1 := rfR 1
  have rfR2 := rfR 2
  obtain ⟨gG0, gG1, gG2⟩ := G_2.out
  go_wp2_with fail
  refine (areExponents_any P Q G _ 2 2 [e, z] rfl (by decide) _ (ints_lit v2 [e, z] 3)).mono ?_
  rw [K2.out]
  rintro e v3 ⟨rfl, hb0⟩
  have hb := bt (ba v2 _) hb0
  clear hb0
  have HB_3 := Lib.hid (bt HB_2.out hb)
  have G_3 := Lib.hid (G_2.out.below hb)
  have R_3 := Lib.hid (R_2.out.below hb)
  clear hb gG0 gG1 gG2 rR0 rR1 rR2 rfR rfR0 rfR1 rfR2
  obtain ⟨⟨rR0, rR1, rR2⟩, rfR⟩ := R_3.out
  have rfR0 := rfR 0
  have rfR1 := rfR 1
  have rfR2 := rfR 2
  obtain ⟨gG0, gG1, gG2⟩ := G_3.out
  go_wp2_with fail
  refine (simulate_any P Q G b y e z hgd hb1 hy1 he1 hz1 _).mono ?_
  rintro e' v9 ⟨rfl, hb9⟩
  have HB_9 := Lib.hid (bt HB_3.out hb9)
  have R_9 := Lib.hid (R_3.out.below hb9)
  clear hb9 rR0 rR1 rR2 rfR rfR0 rfR1 rfR2
  obtain ⟨⟨rR0, rR1, rR2⟩, rfR⟩ := R_9.out
  have rfR0 := rfR 0
  have rfR1 := rfR 1
  have rfR2 := rfR 2
  go_wp2
  (try simp only [Exit.inBlock, Exit.then])
  refine bodyPost_ret (v := .tuple #[gv (simW P Q b y e z) e z, .bool true]) ?_ rfl ⟨rfl, ?_⟩
  · rw [results_cell_tmp rfl]; go_simp
  · first | exact HB_9.out | exact set_below3 HB_9.out (w.heap.size + 1) (by omega) _ _ _

end Go.Proofs.Ytdaekpfngphefaa

