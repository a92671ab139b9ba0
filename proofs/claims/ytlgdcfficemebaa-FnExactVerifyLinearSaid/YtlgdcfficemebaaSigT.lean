/- Sigma proofs: IsTrueEqual of both. -/
import Derived.Test.YtlgdcfficemebaaSigR
namespace Go.Proofs.Ytlgdcfficemebaa
open Go.RowKit
set_option linter.unusedVariables false
set_option linter.unusedSimpArgs false

def isT (P a b c d x : Int) : Bool := decide (Num.pow a x P = b) && decide (Num.pow c x P = d)
def teB (P Q G a b c d x : Int) : Bool := goodB P Q G && (allEl P Q [a, b, c, d] && exB Q x)
def teV (P Q G a b c d x : Int) : Bool := teB P Q G a b c d x && isT P a b c d x
theorem exB_one (Q x : Int) : allIn [x] 0 (Q - 1) = exB Q x := by simp [allIn, exB]
theorem four_rng {P Q a b c d : Int} (hP : P ≤ 2000000000) (h : allEl P Q [a, b, c, d] = true) : (0 ≤ a ∧ a ≤ 2000000000) ∧ 0 ≤ c ∧ c ≤ 2000000000 := by
  have h1 := all_rng h a (by simp); have h2 := all_rng h c (by simp)
  exact ⟨⟨h1.1, by omega⟩, h2.1, by omega⟩
theorem sElements_any (P Q G a b c d : Int) (hm : Mo P Q) (w : World) :
    Calls Try.prog 67 #[gv P Q G, ev4 a b c d] w fun e w' => e = .returned (.bool (allEl P Q [a, b, c, d])) ∧ Below w.heap.size w w' := by
  have hal := ba (w.alloc (.cells #[.int .i64 P, .int .i64 Q, .int .i64 G] 32)) (.cells #[.int .i64 a, .int .i64 b, .int .i64 c, .int .i64 d] 47)
  have HB_0 := Lib.hid (bt (ba w (.cells #[.int .i64 P, .int .i64 Q, .int .i64 G] 32)) hal)
  have G_0 := Lib.hid (GR.below (gr_new w P Q G 32) hal)
  have hv := v4_new (w.alloc (.cells #[.int .i64 P, .int .i64 Q, .int .i64 G] 32)) a b c d 47
  rw [show (w.alloc (.cells #[.int .i64 P, .int .i64 Q, .int .i64 G] 32)).heap.size = w.heap.size + 1 by simp] at hv
  have V_0 := Lib.hid hv
  clear hal hv
  obtain ⟨g0, g1, g2⟩ := G_0.out
  obtain ⟨e0, e1, e2, e3⟩ := V_0.out
  go_enter Try.func67, Try.ntmps67
  generalize hW : (w.alloc (.cells #[.int .i64 P, .int .i64 Q, .int .i64 G] 32)).alloc (.cells #[.int .i64 a, .int .i64 b, .int .i64 c, .int .i64 d] 47) = W at *
  go_wp2_with fail
  refine (gIs_any P Q G hm _ 4 4 [a, b, c, d] rfl (by decide) _ (ints_spot W _ rfl [a, b, c, d] 3)).mono ?_
  rintro e w' ⟨rfl, hb⟩
  have HB_1 := Lib.hid (bt HB_0.out (bt (ba W _) hb))
  clear hb
  go_wp2
  go_ret
  exact ⟨rfl, HB_1.out⟩

set_option maxRecDepth 100000 in
set_option maxHeartbeats 3200000 in
theorem sTrue_any (P Q G a b c d x : Int) (hP : 2 ≤ P ∧ P ≤ 2000000000) (hQ : 2 ≤ Q ∧ Q ≤ 2000000000) (ha : 0 ≤ a ∧ a ≤ 2000000000) (hc : 0 ≤ c ∧ c ≤ 2000000000) (hx : 0 ≤ x ∧ x < Q) (w : World) :
    Calls Try.prog 83 #[gv P Q G, ev4 a b c d, .int .i64 x] w fun e w' => e = .returned (.bool (isT P a b c d x)) ∧ Below w.heap.size w w' := by
  unfold isT
  have hal := ba (w.alloc (.cells #[.int .i64 P, .int .i64 Q, .int .i64 G] 32)) (.cells #[.int .i64 a, .int .i64 b, .int .i64 c, .int .i64 d] 47)
  have HB_0 := Lib.hid (bt (ba w (.cells #[.int .i64 P, .int .i64 Q, .int .i64 G] 32)) hal)
  have G_0 := Lib.hid (GR.below (gr_new w P Q G 32) hal)
  have hv := v4_new (w.alloc (.cells #[.int .i64 P, .int .i64 Q, .int .i64 G] 32)) a b c d 47
  rw [show (w.alloc (.cells #[.int .i64 P, .int .i64 Q, .int .i64 G] 32)).heap.size = w.heap.size + 1 by simp] at hv
  have V_0 := Lib.hid hv
  clear hal hv
  generalize hp1 : Num.pow a x P = p1
  generalize hp2 : Num.pow c x P = p2
  have P1 := Lib.hid hp1
  have P2 := Lib.hid hp2
  by_cases h1 : p1 = b
  · have E1 : decide (p1 = b) = true := by simpa using h1
    have E2 : decide (p2 = d) = (p2 == d) := by simp [BEq.beq]
    rw [E1, Bool.true_and, E2]
    have h1' := h1.symm
    clear hp1 hp2 E1 E2 h1
    subst h1'
    go_enter Try.func83, Try.ntmps83
    go_wp2_with fail
    obtain ⟨g0, g1, g2⟩ := G_0.out
    obtain ⟨e0, e1, e2, e3⟩ := V_0.out
    go_region_held3 (fun w' => (w'.cell? ⟨w.heap.size, 0, none⟩ = some (.int .i64 P) ∧ w'.cell? ⟨w.heap.size, 1, none⟩ = some (.int .i64 Q) ∧ w'.cell? ⟨w.heap.size, 2, none⟩ = some (.int .i64 G)) ∧ w'.cell? ⟨w.heap.size + 1, 0, none⟩ = some (.int .i64 a) ∧ w'.cell? ⟨w.heap.size + 1, 1, none⟩ = some (.int .i64 b) ∧ w'.cell? ⟨w.heap.size + 1, 2, none⟩ = some (.int .i64 c) ∧ w'.cell? ⟨w.heap.size + 1, 3, none⟩ = some (.int .i64 d)) (first | with_reducible exact ⟨⟨s0, s1, s2⟩, t0, t1, t2, t3⟩ | with_reducible exact ⟨⟨x0, x1, x2⟩, y0, y1, y2, y3⟩ | exact ⟨⟨g0, g1, g2⟩, e0, e1, e2, e3⟩) ((first
      | (go_at_call 108; (with_reducible refine (gExp_any P Q G a x (by omega) (by omega) (by omega) (by omega) (by omega) (by omega) (by omega) (by omega) _).mono ?_); rw [P1.out]; rintro e vp ⟨rfl, hp⟩; have HBp := Lib.hid (bt HB_0.out.drew hp); have Gp := Lib.hid (GR.below (GR.drew G_0.out) hp); have Vp := Lib.hid (V4.below (V4.drew V_0.out) hp); obtain ⟨x0, x1, x2⟩ := Gp.out; obtain ⟨y0, y1, y2, y3⟩ := Vp.out; clear hp)
      | (go_at_call 108; (with_reducible refine (gExp_any P Q G c x (by omega) (by omega) (by omega) (by omega) (by omega) (by omega) (by omega) (by omega) _).mono ?_); rw [P2.out]; rintro e vq ⟨rfl, hp⟩; have HBq := Lib.hid (bt HBp.out hp); obtain ⟨s0, s1, s2⟩ := Gp.out.below hp; obtain ⟨t0, t1, t2, t3⟩ := Vp.out.below hp; clear hp)
      | fail))
    all_goals (
      go_wp2_with fail
      go_ret
      first | exact ⟨rfl, HBq.out⟩ | exact ⟨rfl, HBp.out⟩)
  · have hi1 : (p1 == b) = false := by simpa using h1
    have E1 : decide (p1 = b) = false := by simpa using h1
    rw [E1, Bool.false_and]
    clear h1 hp1 hp2 E1
    go_enter Try.func83, Try.ntmps83
    go_wp2_with fail
    obtain ⟨g0, g1, g2⟩ := G_0.out
    obtain ⟨e0, e1, e2, e3⟩ := V_0.out
    refine wp_region_held_drew (S := (fun w' => (w'.cell? ⟨w.heap.size, 0, none⟩ = some (.int .i64 P) ∧ w'.cell? ⟨w.heap.size, 1, none⟩ = some (.int .i64 Q) ∧ w'.cell? ⟨w.heap.size, 2, none⟩ = some (.int .i64 G)) ∧ w'.cell? ⟨w.heap.size + 1, 0, none⟩ = some (.int .i64 a) ∧ w'.cell? ⟨w.heap.size + 1, 1, none⟩ = some (.int .i64 b) ∧ w'.cell? ⟨w.heap.size + 1, 2, none⟩ = some (.int .i64 c) ∧ w'.cell? ⟨w.heap.size + 1, 3, none⟩ = some (.int .i64 d))) (by kernel_rfl) (by first | exact ⟨⟨G_0.out.1, G_0.out.2.1, G_0.out.2.2⟩, V_0.out.1, V_0.out.2.1, V_0.out.2.2.1, V_0.out.2.2.2⟩ | (dsimp only; exact ⟨⟨G_0.out.1, G_0.out.2.1, G_0.out.2.2⟩, V_0.out.1, V_0.out.2.1, V_0.out.2.2.1, V_0.out.2.2.2⟩)) (fun hHeld => ?_)
    refine wpAnyH_take (i := 0) (v := ?_) rfl (by kernel_rfl) (by kernel_rfl) (by kernel_rfl) (fun _ _ _ h => h) (Or.inl ⟨by kernel_rfl, ?_⟩) (by assumption) ?_
    rotate_left 1
    · intro w hSw
      try dsimp only at hSw
      go_simp
      try with_reducible rfl
    try simp only [Act.put, List.getElem_toArray, List.getElem_cons_succ, List.getElem_cons_zero, List.setIfInBounds_toArray, List.set_cons_zero, List.set_cons_succ]
    refine wpAnyH_take (i := 1) (v := ?_) rfl (by kernel_rfl) (by kernel_rfl) (by kernel_rfl) (fun _ _ _ h => h) (Or.inl ⟨by kernel_rfl, ?_⟩) (by assumption) ?_
    rotate_left 1
    · intro w hSw
      try dsimp only at hSw
      go_simp
      try with_reducible rfl
    try simp only [Act.put, List.getElem_toArray, List.getElem_cons_succ, List.getElem_cons_zero, List.setIfInBounds_toArray, List.set_cons_zero, List.set_cons_succ]
    refine wpAnyH_take (i := 2) (v := ?_) rfl (by kernel_rfl) (by kernel_rfl) (by kernel_rfl) (fun _ _ _ h => h) (Or.inl ⟨by kernel_rfl, ?_⟩) (by assumption) ?_
    rotate_left 1
    · intro w hSw
      try dsimp only at hSw
      go_simp
      try with_reducible rfl
    try simp only [Act.put, List.getElem_toArray, List.getElem_cons_succ, List.getElem_cons_zero, List.setIfInBounds_toArray, List.set_cons_zero, List.set_cons_succ]
    refine wpAnyH_take (i := 3) (v := ?_) rfl (by kernel_rfl) (by kernel_rfl) (by kernel_rfl) (fun _ _ _ h => h) (Or.inl ⟨by kernel_rfl, ?_⟩) (by assumption) ?_
    rotate_left 1
    · intro w hSw
      try dsimp only at hSw
      go_simp
      try with_reducible rfl
    try simp only [Act.put, List.getElem_toArray, List.getElem_cons_succ, List.getElem_cons_zero, List.setIfInBounds_toArray, List.set_cons_zero, List.set_cons_succ]
    refine wpAnyH_take (i := 5) (v := ?_) rfl (by kernel_rfl) (by kernel_rfl) (by kernel_rfl) (fun _ _ _ h => h) (Or.inl ⟨by kernel_rfl, ?_⟩) (by assumption) ?_
    rotate_left 1
    · intro w hSw
      try dsimp only at hSw
      go_simp
      try with_reducible rfl
    try simp only [Act.put, List.getElem_toArray, List.getElem_cons_succ, List.getElem_cons_zero, List.setIfInBounds_toArray, List.set_cons_zero, List.set_cons_succ]
    refine wpAnyH_take (i := 6) (v := ?_) rfl (by kernel_rfl) (by kernel_rfl) (by kernel_rfl) (fun _ _ _ h => h) (Or.inl ⟨by kernel_rfl, ?_⟩) (by assumption) ?_
    rotate_left 1
    · intro w hSw
      try dsimp only at hSw
      go_simp
      try with_reducible rfl
    try simp only [Act.put, List.getElem_toArray, List.getElem_cons_succ, List.getElem_cons_zero, List.setIfInBounds_toArray, List.set_cons_zero, List.set_cons_succ]
    refine wpAnyH_ready (rs := [4]) (by kernel_rfl) (by simp) ?_
    refine AllReadyH.cons rfl (fun K hK => ?_) AllReadyH.nil
    go_simp
    go_at_call 108
    refine (gExp_any P Q G a x (by omega) (by omega) (by omega) (by omega) (by omega) (by omega) (by omega) (by omega) _).mono ?_
    rw [P1.out]
    rintro e vp ⟨rfl, hp⟩
    have HBp := Lib.hid (bt HB_0.out.drew hp)
    have Gp := Lib.hid (GR.below (GR.drew G_0.out) hp)
    have Vp := Lib.hid (V4.below (V4.drew V_0.out) hp)
    clear hp
    go_wp2_with fail
    refine hK.out _ _ (by first | exact ⟨⟨Gp.out.1, Gp.out.2.1, Gp.out.2.2⟩, Vp.out.1, Vp.out.2.1, Vp.out.2.2.1, Vp.out.2.2.2⟩ | (dsimp only; exact ⟨⟨Gp.out.1, Gp.out.2.1, Gp.out.2.2⟩, Vp.out.1, Vp.out.2.1, Vp.out.2.2.1, Vp.out.2.2.2⟩)) (fun hHeld => ?_)
    clear hK K
    try simp only [Act.put, List.getElem_toArray, List.getElem_cons_succ, List.getElem_cons_zero, List.setIfInBounds_toArray, List.set_cons_zero, List.set_cons_succ]
    refine wpAnyH_take (i := 7) (v := ?_) rfl (by kernel_rfl) (by kernel_rfl) (by kernel_rfl) (fun _ _ _ h => h) (Or.inl ⟨by kernel_rfl, ?_⟩) (by assumption) ?_
    rotate_left 1
    · intro w hSw
      try dsimp only at hSw
      go_simp
      try with_reducible rfl
    try simp only [Act.put, List.getElem_toArray, List.getElem_cons_succ, List.getElem_cons_zero, List.setIfInBounds_toArray, List.set_cons_zero, List.set_cons_succ]
    refine wpAnyH_take (i := 8) (v := ?_) rfl (by kernel_rfl) (by kernel_rfl) (by kernel_rfl) (fun _ _ _ h => h) (Or.inl ⟨by kernel_rfl, ?_⟩) (by assumption) ?_
    rotate_left 1
    · intro w hSw
      try dsimp only at hSw
      go_simp
      try with_reducible rfl
    try simp only [Act.put, List.getElem_toArray, List.getElem_cons_succ, List.getElem_cons_zero, List.setIfInBounds_toArray, List.set_cons_zero, List.set_cons_succ]
    refine wpAnyH_take (i := 9) (v := undef) rfl (by kernel_rfl) (by kernel_rfl) (by kernel_rfl) (fun _ _ _ h => h) (Or.inr ⟨by kernel_rfl, rfl⟩) (by assumption) ?_
    try simp only [Act.put, List.getElem_toArray, List.getElem_cons_succ, List.getElem_cons_zero, List.setIfInBounds_toArray, List.set_cons_zero, List.set_cons_succ]
    refine wpAnyH_take (i := 10) (v := undef) rfl (by kernel_rfl) (by kernel_rfl) (by kernel_rfl) (fun _ _ _ h => h) (Or.inr ⟨by kernel_rfl, rfl⟩) (by assumption) ?_
    try simp only [Act.put, List.getElem_toArray, List.getElem_cons_succ, List.getElem_cons_zero, List.setIfInBounds_toArray, List.set_cons_zero, List.set_cons_succ]
    refine wpAnyH_take (i := 11) (v := undef) rfl (by kernel_rfl) (by kernel_rfl) (by kernel_rfl) (fun _ _ _ h => h) (Or.inr ⟨by kernel_rfl, rfl⟩) (by assumption) ?_
    try simp only [Act.put, List.getElem_toArray, List.getElem_cons_succ, List.getElem_cons_zero, List.setIfInBounds_toArray, List.set_cons_zero, List.set_cons_succ]
    refine wpAnyH_take (i := 12) (v := undef) rfl (by kernel_rfl) (by kernel_rfl) (by kernel_rfl) (fun _ _ _ h => h) (Or.inr ⟨by kernel_rfl, rfl⟩) (by assumption) ?_
    try simp only [Act.put, List.getElem_toArray, List.getElem_cons_succ, List.getElem_cons_zero, List.setIfInBounds_toArray, List.set_cons_zero, List.set_cons_succ]
    refine wpAnyH_take (i := 13) (v := undef) rfl (by kernel_rfl) (by kernel_rfl) (by kernel_rfl) (fun _ _ _ h => h) (Or.inr ⟨by kernel_rfl, rfl⟩) (by assumption) ?_
    try simp only [Act.put, List.getElem_toArray, List.getElem_cons_succ, List.getElem_cons_zero, List.setIfInBounds_toArray, List.set_cons_zero, List.set_cons_succ]
    refine wpAnyH_take (i := 14) (v := undef) rfl (by kernel_rfl) (by kernel_rfl) (by kernel_rfl) (fun _ _ _ h => h) (Or.inr ⟨by kernel_rfl, rfl⟩) (by assumption) ?_
    try simp only [Act.put, List.getElem_toArray, List.getElem_cons_succ, List.getElem_cons_zero, List.setIfInBounds_toArray, List.set_cons_zero, List.set_cons_succ]
    refine wpAnyH_take (i := 15) (v := undef) rfl (by kernel_rfl) (by kernel_rfl) (by kernel_rfl) (fun _ _ _ h => h) (Or.inr ⟨by kernel_rfl, rfl⟩) (by assumption) ?_
    try simp only [Act.put, List.getElem_toArray, List.getElem_cons_succ, List.getElem_cons_zero, List.setIfInBounds_toArray, List.set_cons_zero, List.set_cons_succ]
    refine wpAnyH_take (i := 16) (v := undef) rfl (by kernel_rfl) (by kernel_rfl) (by kernel_rfl) (fun _ _ _ h => h) (Or.inr ⟨by kernel_rfl, rfl⟩) (by assumption) ?_
    try simp only [Act.put, List.getElem_toArray, List.getElem_cons_succ, List.getElem_cons_zero, List.setIfInBounds_toArray, List.set_cons_zero, List.set_cons_succ]
    refine wpAnyH_take (i := 17) (v := ?_) rfl (by kernel_rfl) (by kernel_rfl) (by kernel_rfl) (fun _ _ _ h => h) (Or.inl ⟨by kernel_rfl, ?_⟩) (by assumption) ?_
    rotate_left 1
    · intro w hSw
      try dsimp only at hSw
      go_simp
      try with_reducible rfl
    try simp only [Act.put, List.getElem_toArray, List.getElem_cons_succ, List.getElem_cons_zero, List.setIfInBounds_toArray, List.set_cons_zero, List.set_cons_succ]
    refine wpAnyH_take (i := 18) (v := ?_) rfl (by kernel_rfl) (by kernel_rfl) (by kernel_rfl) (fun _ _ _ h => h) (Or.inl ⟨by kernel_rfl, ?_⟩) (by assumption) ?_
    rotate_left 1
    · intro w hSw
      try dsimp only at hSw
      go_simp
      try with_reducible rfl
    try simp only [Act.put, List.getElem_toArray, List.getElem_cons_succ, List.getElem_cons_zero, List.setIfInBounds_toArray, List.set_cons_zero, List.set_cons_succ]
    refine wpAnyH_done (by kernel_rfl) ?_ _
    go_wp2_with fail
    go_ret
    exact ⟨rfl, HBp.out⟩

set_option maxRecDepth 100000 in
set_option maxHeartbeats 3200000 in
theorem sIsTrueEqual_any (P Q G a b c d x : Int) (w : World) :
    Calls Try.prog 80 #[gv P Q G, ev4 a b c d, .int .i64 x] w fun e w' => e = .returned (.tuple #[.bool (teV P Q G a b c d x), .bool (teB P Q G a b c d x)]) ∧ Below w.heap.size w w' := by
  unfold teV teB
  have hal := ba (w.alloc (.cells #[.int .i64 P, .int .i64 Q, .int .i64 G] 32)) (.cells #[.int .i64 a, .int .i64 b, .int .i64 c, .int .i64 d] 47)
  have HB_0 := Lib.hid (bt (ba w (.cells #[.int .i64 P, .int .i64 Q, .int .i64 G] 32)) hal)
  have G_0 := Lib.hid (GR.below (gr_new w P Q G 32) hal)
  have hv := v4_new (w.alloc (.cells #[.int .i64 P, .int .i64 Q, .int .i64 G] 32)) a b c d 47
  rw [show (w.alloc (.cells #[.int .i64 P, .int .i64 Q, .int .i64 G] 32)).heap.size = w.heap.size + 1 by simp] at hv
  have V_0 := Lib.hid hv
  clear hal hv
  cases h0 : goodB P Q G
  · have K0 := Lib.hid h0
    rw [Bool.false_and, Bool.false_and]
    clear h0
    obtain ⟨g0, g1, g2⟩ := G_0.out
    obtain ⟨e0, e1, e2, e3⟩ := V_0.out
    go_enter Try.func80, Try.ntmps80
    go_wp2_with fail
    refine (l2Good_any P Q G _).mono ?_
    rw [K0.out]
    rintro e v1 ⟨rfl, hb⟩
    have HB_1 := Lib.hid (bt HB_0.out hb)
    have G_1 := Lib.hid (G_0.out.below hb)
    have V_1 := Lib.hid (V_0.out.below hb)
    clear hb g0 g1 g2 e0 e1 e2 e3
    obtain ⟨g0, g1, g2⟩ := G_1.out
    obtain ⟨e0, e1, e2, e3⟩ := V_1.out
    go_wp2
    go_ret2
    exact ⟨rfl, HB_1.out⟩
  have K0 := Lib.hid h0
  have hmo := good_mo h0
  have hgr := good_rng h0
  clear h0
  cases h1 : allEl P Q [a, b, c, d]
  · have K1 := Lib.hid h1
    rw [Bool.true_and, Bool.false_and, Bool.false_and]
    clear h1
    obtain ⟨g0, g1, g2⟩ := G_0.out
    obtain ⟨e0, e1, e2, e3⟩ := V_0.out
    go_enter Try.func80, Try.ntmps80
    go_wp2_with fail
    refine (l2Good_any P Q G _).mono ?_
    rw [K0.out]
    rintro e v1 ⟨rfl, hb⟩
    have HB_1 := Lib.hid (bt HB_0.out hb)
    have G_1 := Lib.hid (G_0.out.below hb)
    have V_1 := Lib.hid (V_0.out.below hb)
    clear hb g0 g1 g2 e0 e1 e2 e3
    obtain ⟨g0, g1, g2⟩ := G_1.out
    obtain ⟨e0, e1, e2, e3⟩ := V_1.out
    go_wp2_with fail
    refine (sElements_any P Q G a b c d hmo _).mono ?_
    rw [K1.out]
    rintro e v2 ⟨rfl, hb⟩
    have HB_2 := Lib.hid (bt HB_1.out hb)
    have G_2 := Lib.hid (G_1.out.below hb)
    have V_2 := Lib.hid (V_1.out.below hb)
    clear hb g0 g1 g2 e0 e1 e2 e3
    obtain ⟨g0, g1, g2⟩ := G_2.out
    obtain ⟨e0, e1, e2, e3⟩ := V_2.out
    go_wp2
    go_ret2
    exact ⟨rfl, HB_2.out⟩
  have K1 := Lib.hid h1
  obtain ⟨ha, hc⟩ := four_rng hmo.1.2 h1
  clear h1
  cases h2 : exB Q x
  · have K2 := Lib.hid ((exB_one Q x).trans h2)
    rw [Bool.true_and, Bool.true_and, Bool.false_and]
    clear h2
    obtain ⟨g0, g1, g2⟩ := G_0.out
    obtain ⟨e0, e1, e2, e3⟩ := V_0.out
    go_enter Try.func80, Try.ntmps80
    go_wp2_with fail
    refine (l2Good_any P Q G _).mono ?_
    rw [K0.out]
    rintro e v1 ⟨rfl, hb⟩
    have HB_1 := Lib.hid (bt HB_0.out hb)
    have G_1 := Lib.hid (G_0.out.below hb)
    have V_1 := Lib.hid (V_0.out.below hb)
    clear hb g0 g1 g2 e0 e1 e2 e3
    obtain ⟨g0, g1, g2⟩ := G_1.out
    obtain ⟨e0, e1, e2, e3⟩ := V_1.out
    go_wp2_with fail
    refine (sElements_any P Q G a b c d hmo _).mono ?_
    rw [K1.out]
    rintro e v2 ⟨rfl, hb⟩
    have HB_2 := Lib.hid (bt HB_1.out hb)
    have G_2 := Lib.hid (G_1.out.below hb)
    have V_2 := Lib.hid (V_1.out.below hb)
    clear hb g0 g1 g2 e0 e1 e2 e3
    obtain ⟨g0, g1, g2⟩ := G_2.out
    obtain ⟨e0, e1, e2, e3⟩ := V_2.out
    go_wp2_with fail
    refine (gExps_any P Q G ⟨by omega, by omega⟩ _ 1 1 [x] rfl (by decide) _ (ints_lit v2 [x] 3)).mono ?_
    rw [K2.out]
    rintro e v3 ⟨rfl, hb0⟩
    have hb := bt (ba v2 _) hb0
    clear hb0
    have HB_3 := Lib.hid (bt HB_2.out hb)
    have G_3 := Lib.hid (G_2.out.below hb)
    have V_3 := Lib.hid (V_2.out.below hb)
    clear hb g0 g1 g2 e0 e1 e2 e3
    obtain ⟨g0, g1, g2⟩ := G_3.out
    obtain ⟨e0, e1, e2, e3⟩ := V_3.out
    go_wp2
    go_ret2
    exact ⟨rfl, HB_3.out⟩
  have K2 := Lib.hid ((exB_one Q x).trans h2)
  have hx := exB_true.1 h2
  have hPP := hmo.1
  have hQQ := hgr.2.1
  rw [Bool.true_and, Bool.true_and, Bool.true_and]
  clear h2
  obtain ⟨g0, g1, g2⟩ := G_0.out
  obtain ⟨e0, e1, e2, e3⟩ := V_0.out
  go_enter Try.func80, Try.ntmps80
  go_wp2_with fail
  refine (l2Good_any P Q G _).mono ?_
  rw [K0.out]
  rintro e v1 ⟨rfl, hb⟩
  have HB_1 := Lib.hid (bt HB_0.out hb)
  have G_1 := Lib.hid (G_0.out.below hb)
  have V_1 := Lib.hid (V_0.out.below hb)
  clear hb g0 g1 g2 e0 e1 e2 e3
  obtain ⟨g0, g1, g2⟩ := G_1.out
  obtain ⟨e0, e1, e2, e3⟩ := V_1.out
  go_wp2_with fail
  refine (sElements_any P Q G a b c d hmo _).mono ?_
  rw [K1.out]
  rintro e v2 ⟨rfl, hb⟩
  have HB_2 := Lib.hid (bt HB_1.out hb)
  have G_2 := Lib.hid (G_1.out.below hb)
  have V_2 := Lib.hid (V_1.out.below hb)
  clear hb g0 g1 g2 e0 e1 e2 e3
  obtain ⟨g0, g1, g2⟩ := G_2.out
  obtain ⟨e0, e1, e2, e3⟩ := V_2.out
  go_wp2_with fail
  refine (gExps_any P Q G ⟨by omega, by omega⟩ _ 1 1 [x] rfl (by decide) _ (ints_lit v2 [x] 3)).mono ?_
  rw [K2.out]
  rintro e v3 ⟨rfl, hb0⟩
  have hb := bt (ba v2 _) hb0
  clear hb0
  have HB_3 := Lib.hid (bt HB_2.out hb)
  have G_3 := Lib.hid (G_2.out.below hb)
  have V_3 := Lib.hid (V_2.out.below hb)
  clear hb g0 g1 g2 e0 e1 e2 e3
  obtain ⟨g0, g1, g2⟩ := G_3.out
  obtain ⟨e0, e1, e2, e3⟩ := V_3.out
  go_wp2_with fail
  refine (sTrue_any P Q G a b c d x hPP hQQ ha hc hx _).mono ?_
  rintro e v4 ⟨rfl, hb⟩
  have HB_4 := Lib.hid (bt HB_3.out hb)
  have G_4 := Lib.hid (G_3.out.below hb)
  have V_4 := Lib.hid (V_3.out.below hb)
  clear hb g0 g1 g2 e0 e1 e2 e3
  obtain ⟨g0, g1, g2⟩ := G_4.out
  obtain ⟨e0, e1, e2, e3⟩ := V_4.out
  go_wp2
  go_ret2
  exact ⟨rfl, HB_4.out⟩

set_option maxRecDepth 100000 in
set_option maxHeartbeats 3200000 in
theorem isTrueEqual_any (P Q G a b c d x : Int) (w : World) :
    Calls Try.prog 81 #[gv P Q G, ev4 a b c d, .int .i64 x] w fun e w' => e = .returned (.tuple #[.bool (teV P Q G a b c d x), .bool (teB P Q G a b c d x)]) ∧ Below w.heap.size w w' := by
  unfold teV teB
  have hal := ba (w.alloc (.cells #[.int .i64 P, .int .i64 Q, .int .i64 G] 32)) (.cells #[.int .i64 a, .int .i64 b, .int .i64 c, .int .i64 d] 47)
  have HB_0 := Lib.hid (bt (ba w (.cells #[.int .i64 P, .int .i64 Q, .int .i64 G] 32)) hal)
  have G_0 := Lib.hid (GR.below (gr_new w P Q G 32) hal)
  have hv := v4_new (w.alloc (.cells #[.int .i64 P, .int .i64 Q, .int .i64 G] 32)) a b c d 47
  rw [show (w.alloc (.cells #[.int .i64 P, .int .i64 Q, .int .i64 G] 32)).heap.size = w.heap.size + 1 by simp] at hv
  have V_0 := Lib.hid hv
  clear hal hv
  cases h0 : goodB P Q G
  · have K0 := Lib.hid h0
    rw [Bool.false_and, Bool.false_and]
    clear h0
    obtain ⟨g0, g1, g2⟩ := G_0.out
    obtain ⟨e0, e1, e2, e3⟩ := V_0.out
    go_enter Try.func81, Try.ntmps81
    go_wp2_with fail
    refine (isValidGroup_any P Q G _).mono ?_
    rw [K0.out]
    rintro e v1 ⟨rfl, hb⟩
    have HB_1 := Lib.hid (bt HB_0.out hb)
    have G_1 := Lib.hid (G_0.out.below hb)
    have V_1 := Lib.hid (V_0.out.below hb)
    clear hb g0 g1 g2 e0 e1 e2 e3
    obtain ⟨g0, g1, g2⟩ := G_1.out
    obtain ⟨e0, e1, e2, e3⟩ := V_1.out
    go_wp2
    go_ret2
    exact ⟨rfl, HB_1.out⟩
  have K0 := Lib.hid h0
  have hmo := good_mo h0
  have hgr := good_rng h0
  clear h0
  cases h1 : allEl P Q [a, b, c, d]
  · have K1 := Lib.hid h1
    rw [Bool.true_and, Bool.false_and, Bool.false_and]
    clear h1
    obtain ⟨g0, g1, g2⟩ := G_0.out
    obtain ⟨e0, e1, e2, e3⟩ := V_0.out
    go_enter Try.func81, Try.ntmps81
    go_wp2_with fail
    refine (isValidGroup_any P Q G _).mono ?_
    rw [K0.out]
    rintro e v1 ⟨rfl, hb⟩
    have HB_1 := Lib.hid (bt HB_0.out hb)
    have G_1 := Lib.hid (G_0.out.below hb)
    have V_1 := Lib.hid (V_0.out.below hb)
    clear hb g0 g1 g2 e0 e1 e2 e3
    obtain ⟨g0, g1, g2⟩ := G_1.out
    obtain ⟨e0, e1, e2, e3⟩ := V_1.out
    go_wp2_with fail
    refine (hasEqualLog_any P Q G a b c d hmo _).mono ?_
    rw [K1.out]
    rintro e v2 ⟨rfl, hb⟩
    have HB_2 := Lib.hid (bt HB_1.out hb)
    have G_2 := Lib.hid (G_1.out.below hb)
    have V_2 := Lib.hid (V_1.out.below hb)
    clear hb g0 g1 g2 e0 e1 e2 e3
    obtain ⟨g0, g1, g2⟩ := G_2.out
    obtain ⟨e0, e1, e2, e3⟩ := V_2.out
    go_wp2
    go_ret2
    exact ⟨rfl, HB_2.out⟩
  have K1 := Lib.hid h1
  obtain ⟨ha, hc⟩ := four_rng hmo.1.2 h1
  clear h1
  cases h2 : exB Q x
  · have K2 := Lib.hid h2
    rw [Bool.true_and, Bool.true_and, Bool.false_and]
    clear h2
    obtain ⟨g0, g1, g2⟩ := G_0.out
    obtain ⟨e0, e1, e2, e3⟩ := V_0.out
    go_enter Try.func81, Try.ntmps81
    go_wp2_with fail
    refine (isValidGroup_any P Q G _).mono ?_
    rw [K0.out]
    rintro e v1 ⟨rfl, hb⟩
    have HB_1 := Lib.hid (bt HB_0.out hb)
    have G_1 := Lib.hid (G_0.out.below hb)
    have V_1 := Lib.hid (V_0.out.below hb)
    clear hb g0 g1 g2 e0 e1 e2 e3
    obtain ⟨g0, g1, g2⟩ := G_1.out
    obtain ⟨e0, e1, e2, e3⟩ := V_1.out
    go_wp2_with fail
    refine (hasEqualLog_any P Q G a b c d hmo _).mono ?_
    rw [K1.out]
    rintro e v2 ⟨rfl, hb⟩
    have HB_2 := Lib.hid (bt HB_1.out hb)
    have G_2 := Lib.hid (G_1.out.below hb)
    have V_2 := Lib.hid (V_1.out.below hb)
    clear hb g0 g1 g2 e0 e1 e2 e3
    obtain ⟨g0, g1, g2⟩ := G_2.out
    obtain ⟨e0, e1, e2, e3⟩ := V_2.out
    go_wp2_with fail
    refine (hasExponent_any P Q G x _).mono ?_
    rw [K2.out]
    rintro e v3 ⟨rfl, hb⟩
    have HB_3 := Lib.hid (bt HB_2.out hb)
    have G_3 := Lib.hid (G_2.out.below hb)
    have V_3 := Lib.hid (V_2.out.below hb)
    clear hb g0 g1 g2 e0 e1 e2 e3
    obtain ⟨g0, g1, g2⟩ := G_3.out
    obtain ⟨e0, e1, e2, e3⟩ := V_3.out
    go_wp2
    go_ret2
    exact ⟨rfl, HB_3.out⟩
  have K2 := Lib.hid h2
  have hx := exB_true.1 h2
  have hPP := hmo.1
  have hQQ := hgr.2.1
  rw [Bool.true_and, Bool.true_and, Bool.true_and]
  clear h2
  unfold isT
  generalize hp1 : Num.pow a x P = p1
  generalize hp2 : Num.pow c x P = p2
  have P1 := Lib.hid hp1
  have P2 := Lib.hid hp2
  by_cases h1 : p1 = b
  · have E1 : decide (p1 = b) = true := by simpa using h1
    have E2 : decide (p2 = d) = (p2 == d) := by simp [BEq.beq]
    rw [E1, Bool.true_and, E2]
    have h1' := h1.symm
    clear hp1 hp2 E1 E2 h1
    subst h1'
    obtain ⟨g0, g1, g2⟩ := G_0.out
    obtain ⟨e0, e1, e2, e3⟩ := V_0.out
    go_enter Try.func81, Try.ntmps81
    go_wp2_with fail
    refine (isValidGroup_any P Q G _).mono ?_
    rw [K0.out]
    rintro e v1 ⟨rfl, hb⟩
    have HB_1 := Lib.hid (bt HB_0.out hb)
    have G_1 := Lib.hid (G_0.out.below hb)
    have V_1 := Lib.hid (V_0.out.below hb)
    clear hb g0 g1 g2 e0 e1 e2 e3
    obtain ⟨g0, g1, g2⟩ := G_1.out
    obtain ⟨e0, e1, e2, e3⟩ := V_1.out
    go_wp2_with fail
    refine (hasEqualLog_any P Q G a b c d hmo _).mono ?_
    rw [K1.out]
    rintro e v2 ⟨rfl, hb⟩
    have HB_2 := Lib.hid (bt HB_1.out hb)
    have G_2 := Lib.hid (G_1.out.below hb)
    have V_2 := Lib.hid (V_1.out.below hb)
    clear hb g0 g1 g2 e0 e1 e2 e3
    obtain ⟨g0, g1, g2⟩ := G_2.out
    obtain ⟨e0, e1, e2, e3⟩ := V_2.out
    go_wp2_with fail
    refine (hasExponent_any P Q G x _).mono ?_
    rw [K2.out]
    rintro e v3 ⟨rfl, hb⟩
    have HB_3 := Lib.hid (bt HB_2.out hb)
    have G_3 := Lib.hid (G_2.out.below hb)
    have V_3 := Lib.hid (V_2.out.below hb)
    clear hb g0 g1 g2 e0 e1 e2 e3
    obtain ⟨g0, g1, g2⟩ := G_3.out
    obtain ⟨e0, e1, e2, e3⟩ := V_3.out
    go_wp2_with fail
    go_region_held3 (fun w' => (w'.cell? ⟨w.heap.size, 0, none⟩ = some (.int .i64 P) ∧ w'.cell? ⟨w.heap.size, 1, none⟩ = some (.int .i64 Q) ∧ w'.cell? ⟨w.heap.size, 2, none⟩ = some (.int .i64 G)) ∧ w'.cell? ⟨w.heap.size + 1, 0, none⟩ = some (.int .i64 a) ∧ w'.cell? ⟨w.heap.size + 1, 1, none⟩ = some (.int .i64 b) ∧ w'.cell? ⟨w.heap.size + 1, 2, none⟩ = some (.int .i64 c) ∧ w'.cell? ⟨w.heap.size + 1, 3, none⟩ = some (.int .i64 d)) (first | with_reducible exact ⟨⟨s0, s1, s2⟩, t0, t1, t2, t3⟩ | with_reducible exact ⟨⟨x0, x1, x2⟩, y0, y1, y2, y3⟩ | exact ⟨⟨g0, g1, g2⟩, e0, e1, e2, e3⟩) ((first
      | (go_at_call 129; (with_reducible refine (power_any P Q G a x (by omega) (by omega) (by omega) (by omega) (by omega) (by omega) _).mono ?_); rw [P1.out]; rintro e vp ⟨rfl, hp⟩; have HBp := Lib.hid (bt HB_3.out.drew hp); have Gp := Lib.hid (GR.below (GR.drew G_3.out) hp); have Vp := Lib.hid (V4.below (V4.drew V_3.out) hp); obtain ⟨x0, x1, x2⟩ := Gp.out; obtain ⟨y0, y1, y2, y3⟩ := Vp.out; clear hp)
      | (go_at_call 129; (with_reducible refine (power_any P Q G c x (by omega) (by omega) (by omega) (by omega) (by omega) (by omega) _).mono ?_); rw [P2.out]; rintro e vq ⟨rfl, hp⟩; have HBq := Lib.hid (bt HBp.out hp); obtain ⟨s0, s1, s2⟩ := Gp.out.below hp; obtain ⟨t0, t1, t2, t3⟩ := Vp.out.below hp; clear hp)
      | fail))
    all_goals (
      go_wp2_with fail
      go_ret2
      first | exact ⟨rfl, HBq.out⟩ | exact ⟨rfl, HBp.out⟩)
  · have hi1 : (p1 == b) = false := by simpa using h1
    have E1 : decide (p1 = b) = false := by simpa using h1
    rw [E1, Bool.false_and]
    clear h1 hp1 hp2 E1
    obtain ⟨g0, g1, g2⟩ := G_0.out
    obtain ⟨e0, e1, e2, e3⟩ := V_0.out
    go_enter Try.func81, Try.ntmps81
    go_wp2_with fail
    refine (isValidGroup_any P Q G _).mono ?_
    rw [K0.out]
    rintro e v1 ⟨rfl, hb⟩
    have HB_1 := Lib.hid (bt HB_0.out hb)
    have G_1 := Lib.hid (G_0.out.below hb)
    have V_1 := Lib.hid (V_0.out.below hb)
    clear hb g0 g1 g2 e0 e1 e2 e3
    obtain ⟨g0, g1, g2⟩ := G_1.out
    obtain ⟨e0, e1, e2, e3⟩ := V_1.out
    go_wp2_with fail
    refine (hasEqualLog_any P Q G a b c d hmo _).mono ?_
    rw [K1.out]
    rintro e v2 ⟨rfl, hb⟩
    have HB_2 := Lib.hid (bt HB_1.out hb)
    have G_2 := Lib.hid (G_1.out.below hb)
    have V_2 := Lib.hid (V_1.out.below hb)
    clear hb g0 g1 g2 e0 e1 e2 e3
    obtain ⟨g0, g1, g2⟩ := G_2.out
    obtain ⟨e0, e1, e2, e3⟩ := V_2.out
    go_wp2_with fail
    refine (hasExponent_any P Q G x _).mono ?_
    rw [K2.out]
    rintro e v3 ⟨rfl, hb⟩
    have HB_3 := Lib.hid (bt HB_2.out hb)
    have G_3 := Lib.hid (G_2.out.below hb)
    have V_3 := Lib.hid (V_2.out.below hb)
    clear hb g0 g1 g2 e0 e1 e2 e3
    obtain ⟨g0, g1, g2⟩ := G_3.out
    obtain ⟨e0, e1, e2, e3⟩ := V_3.out
    go_wp2_with fail
    refine wp_region_held_drew (S := (fun w' => (w'.cell? ⟨w.heap.size, 0, none⟩ = some (.int .i64 P) ∧ w'.cell? ⟨w.heap.size, 1, none⟩ = some (.int .i64 Q) ∧ w'.cell? ⟨w.heap.size, 2, none⟩ = some (.int .i64 G)) ∧ w'.cell? ⟨w.heap.size + 1, 0, none⟩ = some (.int .i64 a) ∧ w'.cell? ⟨w.heap.size + 1, 1, none⟩ = some (.int .i64 b) ∧ w'.cell? ⟨w.heap.size + 1, 2, none⟩ = some (.int .i64 c) ∧ w'.cell? ⟨w.heap.size + 1, 3, none⟩ = some (.int .i64 d))) (by kernel_rfl) (by first | exact ⟨⟨G_3.out.1, G_3.out.2.1, G_3.out.2.2⟩, V_3.out.1, V_3.out.2.1, V_3.out.2.2.1, V_3.out.2.2.2⟩ | (dsimp only; exact ⟨⟨G_3.out.1, G_3.out.2.1, G_3.out.2.2⟩, V_3.out.1, V_3.out.2.1, V_3.out.2.2.1, V_3.out.2.2.2⟩)) (fun hHeld => ?_)
    refine wpAnyH_take (i := 0) (v := ?_) rfl (by kernel_rfl) (by kernel_rfl) (by kernel_rfl) (fun _ _ _ h => h) (Or.inl ⟨by kernel_rfl, ?_⟩) (by assumption) ?_
    rotate_left 1
    · intro w hSw
      try dsimp only at hSw
      go_simp
      try with_reducible rfl
    try simp only [Act.put, List.getElem_toArray, List.getElem_cons_succ, List.getElem_cons_zero, List.setIfInBounds_toArray, List.set_cons_zero, List.set_cons_succ]
    refine wpAnyH_take (i := 1) (v := ?_) rfl (by kernel_rfl) (by kernel_rfl) (by kernel_rfl) (fun _ _ _ h => h) (Or.inl ⟨by kernel_rfl, ?_⟩) (by assumption) ?_
    rotate_left 1
    · intro w hSw
      try dsimp only at hSw
      go_simp
      try with_reducible rfl
    try simp only [Act.put, List.getElem_toArray, List.getElem_cons_succ, List.getElem_cons_zero, List.setIfInBounds_toArray, List.set_cons_zero, List.set_cons_succ]
    refine wpAnyH_take (i := 2) (v := ?_) rfl (by kernel_rfl) (by kernel_rfl) (by kernel_rfl) (fun _ _ _ h => h) (Or.inl ⟨by kernel_rfl, ?_⟩) (by assumption) ?_
    rotate_left 1
    · intro w hSw
      try dsimp only at hSw
      go_simp
      try with_reducible rfl
    try simp only [Act.put, List.getElem_toArray, List.getElem_cons_succ, List.getElem_cons_zero, List.setIfInBounds_toArray, List.set_cons_zero, List.set_cons_succ]
    refine wpAnyH_take (i := 3) (v := ?_) rfl (by kernel_rfl) (by kernel_rfl) (by kernel_rfl) (fun _ _ _ h => h) (Or.inl ⟨by kernel_rfl, ?_⟩) (by assumption) ?_
    rotate_left 1
    · intro w hSw
      try dsimp only at hSw
      go_simp
      try with_reducible rfl
    try simp only [Act.put, List.getElem_toArray, List.getElem_cons_succ, List.getElem_cons_zero, List.setIfInBounds_toArray, List.set_cons_zero, List.set_cons_succ]
    refine wpAnyH_take (i := 5) (v := ?_) rfl (by kernel_rfl) (by kernel_rfl) (by kernel_rfl) (fun _ _ _ h => h) (Or.inl ⟨by kernel_rfl, ?_⟩) (by assumption) ?_
    rotate_left 1
    · intro w hSw
      try dsimp only at hSw
      go_simp
      try with_reducible rfl
    try simp only [Act.put, List.getElem_toArray, List.getElem_cons_succ, List.getElem_cons_zero, List.setIfInBounds_toArray, List.set_cons_zero, List.set_cons_succ]
    refine wpAnyH_take (i := 6) (v := ?_) rfl (by kernel_rfl) (by kernel_rfl) (by kernel_rfl) (fun _ _ _ h => h) (Or.inl ⟨by kernel_rfl, ?_⟩) (by assumption) ?_
    rotate_left 1
    · intro w hSw
      try dsimp only at hSw
      go_simp
      try with_reducible rfl
    try simp only [Act.put, List.getElem_toArray, List.getElem_cons_succ, List.getElem_cons_zero, List.setIfInBounds_toArray, List.set_cons_zero, List.set_cons_succ]
    refine wpAnyH_ready (rs := [4]) (by kernel_rfl) (by simp) ?_
    refine AllReadyH.cons rfl (fun K hK => ?_) AllReadyH.nil
    go_simp
    go_at_call 129
    refine (power_any P Q G a x (by omega) (by omega) (by omega) (by omega) (by omega) (by omega) _).mono ?_
    rw [P1.out]
    rintro e vp ⟨rfl, hp⟩
    have HBp := Lib.hid (bt HB_3.out.drew hp)
    have Gp := Lib.hid (GR.below (GR.drew G_3.out) hp)
    have Vp := Lib.hid (V4.below (V4.drew V_3.out) hp)
    clear hp
    go_wp2_with fail
    refine hK.out _ _ (by first | exact ⟨⟨Gp.out.1, Gp.out.2.1, Gp.out.2.2⟩, Vp.out.1, Vp.out.2.1, Vp.out.2.2.1, Vp.out.2.2.2⟩ | (dsimp only; exact ⟨⟨Gp.out.1, Gp.out.2.1, Gp.out.2.2⟩, Vp.out.1, Vp.out.2.1, Vp.out.2.2.1, Vp.out.2.2.2⟩)) (fun hHeld => ?_)
    clear hK K
    try simp only [Act.put, List.getElem_toArray, List.getElem_cons_succ, List.getElem_cons_zero, List.setIfInBounds_toArray, List.set_cons_zero, List.set_cons_succ]
    refine wpAnyH_take (i := 7) (v := ?_) rfl (by kernel_rfl) (by kernel_rfl) (by kernel_rfl) (fun _ _ _ h => h) (Or.inl ⟨by kernel_rfl, ?_⟩) (by assumption) ?_
    rotate_left 1
    · intro w hSw
      try dsimp only at hSw
      go_simp
      try with_reducible rfl
    try simp only [Act.put, List.getElem_toArray, List.getElem_cons_succ, List.getElem_cons_zero, List.setIfInBounds_toArray, List.set_cons_zero, List.set_cons_succ]
    refine wpAnyH_take (i := 8) (v := ?_) rfl (by kernel_rfl) (by kernel_rfl) (by kernel_rfl) (fun _ _ _ h => h) (Or.inl ⟨by kernel_rfl, ?_⟩) (by assumption) ?_
    rotate_left 1
    · intro w hSw
      try dsimp only at hSw
      go_simp
      try with_reducible rfl
    try simp only [Act.put, List.getElem_toArray, List.getElem_cons_succ, List.getElem_cons_zero, List.setIfInBounds_toArray, List.set_cons_zero, List.set_cons_succ]
    refine wpAnyH_take (i := 9) (v := undef) rfl (by kernel_rfl) (by kernel_rfl) (by kernel_rfl) (fun _ _ _ h => h) (Or.inr ⟨by kernel_rfl, rfl⟩) (by assumption) ?_
    try simp only [Act.put, List.getElem_toArray, List.getElem_cons_succ, List.getElem_cons_zero, List.setIfInBounds_toArray, List.set_cons_zero, List.set_cons_succ]
    refine wpAnyH_take (i := 10) (v := undef) rfl (by kernel_rfl) (by kernel_rfl) (by kernel_rfl) (fun _ _ _ h => h) (Or.inr ⟨by kernel_rfl, rfl⟩) (by assumption) ?_
    try simp only [Act.put, List.getElem_toArray, List.getElem_cons_succ, List.getElem_cons_zero, List.setIfInBounds_toArray, List.set_cons_zero, List.set_cons_succ]
    refine wpAnyH_take (i := 11) (v := undef) rfl (by kernel_rfl) (by kernel_rfl) (by kernel_rfl) (fun _ _ _ h => h) (Or.inr ⟨by kernel_rfl, rfl⟩) (by assumption) ?_
    try simp only [Act.put, List.getElem_toArray, List.getElem_cons_succ, List.getElem_cons_zero, List.setIfInBounds_toArray, List.set_cons_zero, List.set_cons_succ]
    refine wpAnyH_take (i := 12) (v := undef) rfl (by kernel_rfl) (by kernel_rfl) (by kernel_rfl) (fun _ _ _ h => h) (Or.inr ⟨by kernel_rfl, rfl⟩) (by assumption) ?_
    try simp only [Act.put, List.getElem_toArray, List.getElem_cons_succ, List.getElem_cons_zero, List.setIfInBounds_toArray, List.set_cons_zero, List.set_cons_succ]
    refine wpAnyH_take (i := 13) (v := undef) rfl (by kernel_rfl) (by kernel_rfl) (by kernel_rfl) (fun _ _ _ h => h) (Or.inr ⟨by kernel_rfl, rfl⟩) (by assumption) ?_
    try simp only [Act.put, List.getElem_toArray, List.getElem_cons_succ, List.getElem_cons_zero, List.setIfInBounds_toArray, List.set_cons_zero, List.set_cons_succ]
    refine wpAnyH_take (i := 14) (v := undef) rfl (by kernel_rfl) (by kernel_rfl) (by kernel_rfl) (fun _ _ _ h => h) (Or.inr ⟨by kernel_rfl, rfl⟩) (by assumption) ?_
    try simp only [Act.put, List.getElem_toArray, List.getElem_cons_succ, List.getElem_cons_zero, List.setIfInBounds_toArray, List.set_cons_zero, List.set_cons_succ]
    refine wpAnyH_take (i := 15) (v := undef) rfl (by kernel_rfl) (by kernel_rfl) (by kernel_rfl) (fun _ _ _ h => h) (Or.inr ⟨by kernel_rfl, rfl⟩) (by assumption) ?_
    try simp only [Act.put, List.getElem_toArray, List.getElem_cons_succ, List.getElem_cons_zero, List.setIfInBounds_toArray, List.set_cons_zero, List.set_cons_succ]
    refine wpAnyH_take (i := 16) (v := undef) rfl (by kernel_rfl) (by kernel_rfl) (by kernel_rfl) (fun _ _ _ h => h) (Or.inr ⟨by kernel_rfl, rfl⟩) (by assumption) ?_
    try simp only [Act.put, List.getElem_toArray, List.getElem_cons_succ, List.getElem_cons_zero, List.setIfInBounds_toArray, List.set_cons_zero, List.set_cons_succ]
    refine wpAnyH_take (i := 17) (v := ?_) rfl (by kernel_rfl) (by kernel_rfl) (by kernel_rfl) (fun _ _ _ h => h) (Or.inl ⟨by kernel_rfl, ?_⟩) (by assumption) ?_
    rotate_left 1
    · intro w hSw
      try dsimp only at hSw
      go_simp
      try with_reducible rfl
    try simp only [Act.put, List.getElem_toArray, List.getElem_cons_succ, List.getElem_cons_zero, List.setIfInBounds_toArray, List.set_cons_zero, List.set_cons_succ]
    refine wpAnyH_take (i := 18) (v := ?_) rfl (by kernel_rfl) (by kernel_rfl) (by kernel_rfl) (fun _ _ _ h => h) (Or.inl ⟨by kernel_rfl, ?_⟩) (by assumption) ?_
    rotate_left 1
    · intro w hSw
      try dsimp only at hSw
      go_simp
      try with_reducible rfl
    try simp only [Act.put, List.getElem_toArray, List.getElem_cons_succ, List.getElem_cons_zero, List.setIfInBounds_toArray, List.set_cons_zero, List.set_cons_succ]
    refine wpAnyH_take (i := 19) (v := ?_) rfl (by kernel_rfl) (by kernel_rfl) (by kernel_rfl) (fun _ _ _ h => h) (Or.inl ⟨by kernel_rfl, ?_⟩) (by assumption) ?_
    rotate_left 1
    · intro w hSw
      try dsimp only at hSw
      go_simp
      try with_reducible rfl
    try simp only [Act.put, List.getElem_toArray, List.getElem_cons_succ, List.getElem_cons_zero, List.setIfInBounds_toArray, List.set_cons_zero, List.set_cons_succ]
    refine wpAnyH_done (by kernel_rfl) ?_ _
    go_wp2_with fail
    go_ret2
    exact ⟨rfl, HBp.out⟩

end Go.Proofs.Ytlgdcfficemebaa

