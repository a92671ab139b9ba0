/- Chapter 12: ProveDealer of both. -/
import Derived.Test.YtchlnkdlnfjijaaShA
import Derived.Test.YtchlnkdlnfjijaaSigN
import Derived.Deep.RegionHeld3
namespace Go.Proofs.Ytchlnkdlnfjijaa
open Go.RowKit
set_option linter.unusedVariables false
set_option linter.unusedSimpArgs false

def dealerS : ByteArray := ⟨#[100, 101, 97, 108, 101, 114]⟩
def pdC (P Q G : Int) (cs : List Int) : Bool := trB P Q G && (inB (cs.length : Int) 1 7 && allIn cs 0 (Q - 1))
def pdB (P Q G : Int) (cs : List Int) (c : Int) : Bool := pdC P Q G cs && plB P Q G dealerS [[G]] [cs.headD 0] [c]
def pdV (P Q G : Int) (cs : List Int) (c : Int) : PrD := if pdC P Q G cs then plV P Q G dealerS [[G]] [cs.headD 0] [c] else nilP
theorem pd_n (P Q G : Int) (cs : List Int) (c : Int) : (pdV P Q G cs c).n ≤ 24 := by
  unfold pdV; split
  · exact pl_n _ _ _ _ _ _ _
  · simp [nilP, PrD.n]
theorem mid_three (w : World) (b : Nat) (x y z : Value) : Mid b (b + 1) w (((w.setCell ⟨b, 0, none⟩ x).setCell ⟨b, 1, none⟩ y).setCell ⟨b, 2, none⟩ z) := ((mid_cell w b 0 x).trans (mid_cell _ b 1 y)).trans (mid_cell _ b 2 z)
def C0 (w : World) (a : Addr) (z : Int) : Prop := w.cell? a = some (.int .i64 z)
theorem C0.below {w w' : World} {a : Addr} {z : Int} (h : C0 w a z) (hb : Below w.heap.size w w') : C0 w' a z := (hb.cell (World.block_lt_of_cell? w _ h)).trans h

set_option maxRecDepth 100000 in
set_option maxHeartbeats 3200000 in
theorem proveDealer_any (P Q G c : Int) (ad : Option Addr) (cap : Nat) (cs : List Int) (hl : cs.length ≤ 1048576) {w : World} (hz : IsInts w ad cs) :
    Calls Try.prog 62 #[gv P Q G, .slice ad cs.length cap, .int .i64 c] w (AnsQ w.heap.size w (pdV P Q G cs c) (pdB P Q G cs c)) := by
  have HXF := Lib.hid (show ∀ b o, 0 < cs.length → ad = some ⟨b, o, none⟩ → b < w.heap.size + 1 ∨ w.heap.size + 1 + 1 ≤ b from by
    rcases hz with h | ⟨b1, o1, h1, h2, _⟩
    · intro b o h3; simp [h] at h3
    · intro b o _ h4; rw [h1] at h4; cases h4; exact .inl (Nat.lt_succ_of_lt h2))
  have hv := b3_new (w.alloc (.cells #[.int .i64 P, .int .i64 Q, .int .i64 G] 24)) (.slice none 0 0) (.slice none 0 0) (.slice none 0 0) 84
  rw [show (w.alloc (.cells #[.int .i64 P, .int .i64 Q, .int .i64 G] 24)).heap.size = w.heap.size + 1 by simp] at hv
  have G_0 := Lib.hid ((gr_atS w w.heap.size rfl P Q G 24).below (ba (w.alloc (.cells #[.int .i64 P, .int .i64 Q, .int .i64 G] 24)) (.cells #[.slice none 0 0, .slice none 0 0, .slice none 0 0] 84)))
  have Z_0 := Lib.hid hv
  have HB_0 := Lib.hid (show Below w.heap.size w ((w.alloc (.cells #[.int .i64 P, .int .i64 Q, .int .i64 G] 24)).alloc (.cells #[.slice none 0 0, .slice none 0 0, .slice none 0 0] 84)) from bt (ba _ _) (ba _ _))
  have C_0 := Lib.hid (LZ.below hz HB_0.out)
  clear hz hv
  cases h0 : trB P Q G
  · have K0 := Lib.hid (show trB P Q G = false from h0)
    have E0 := Lib.hid (show pdC P Q G cs = false by unfold pdC; rw [h0]; rfl)
    have E1 := Lib.hid (show pdB P Q G cs c = false by simp [pdB, E0.out])
    have E2 := Lib.hid (show pdV P Q G cs c = nilP by simp [pdV, E0.out])
    rw [E1.out, E2.out]
    clear h0
    obtain ⟨gG0, gG1, gG2⟩ := G_0.out
    obtain ⟨zZ0, zZ1, zZ2, zfZ⟩ := Z_0.out
    have zfZ0 := zfZ 0
    have zfZ1 := zfZ 1
    have zfZ2 := zfZ 2
    clear zfZ
    go_enter Try.func62, Try.ntmps62
    go_wp2_with fail
    refine (hasTrustees_any P Q G _).mono ?_
    rw [K0.out]
    rintro e v1 ⟨rfl, hb⟩
    have HB_1 := Lib.hid (bt HB_0.out hb)
    have G_1 := Lib.hid (G_0.out.below hb)
    have Z_1 := Lib.hid (Z_0.out.below hb)
    have C_1 := Lib.hid (C_0.out.below hb)
    clear hb gG0 gG1 gG2 zZ0 zZ1 zZ2 zfZ0 zfZ1 zfZ2
    obtain ⟨gG0, gG1, gG2⟩ := G_1.out
    obtain ⟨zZ0, zZ1, zZ2, zfZ⟩ := Z_1.out
    have zfZ0 := zfZ 0
    have zfZ1 := zfZ 1
    have zfZ2 := zfZ 2
    clear zfZ
    go_wp2
    (try simp only [Exit.inBlock, Exit.then])
    refine bodyPost_ret (v := .tuple #[.agg #[.slice none 0 0, .slice none 0 0, .slice none 0 0], .bool false]) ?_ rfl ?_
    · rw [results_cell_tmp rfl]; go_simp
    · have hm5 := mid_three v1 (w.heap.size + 1) (.slice none 0 0) (.slice none 0 0) (.slice none 0 0)
      exact ⟨_, _, _, rfl, owQ_nil _ _ (Nat.le_trans HB_1.out.size hm5.size), HB_1.out.trans (hm5.toBelow (by omega) HB_1.out.size)⟩
  have K0 := Lib.hid (show trB P Q G = true from h0)
  have hmo := (trB_of h0).2.1
  by_cases h1 : ¬ (cs.length ≠ 0)
  · have B1 : ((cs.length : Int) == 0) = true := by have := Decidable.not_not.1 h1; simp [this]
    have E0 := Lib.hid (show pdC P Q G cs = false by unfold pdC; rw [inB_false.2 (by omega)]; simp)
    have E1 := Lib.hid (show pdB P Q G cs c = false by simp [pdB, E0.out])
    have E2 := Lib.hid (show pdV P Q G cs c = nilP by simp [pdV, E0.out])
    rw [E1.out, E2.out]
    clear h0 h1
    obtain ⟨gG0, gG1, gG2⟩ := G_0.out
    obtain ⟨zZ0, zZ1, zZ2, zfZ⟩ := Z_0.out
    have zfZ0 := zfZ 0
    have zfZ1 := zfZ 1
    have zfZ2 := zfZ 2
    clear zfZ
    go_enter Try.func62, Try.ntmps62
    go_wp2_with fail
    refine (hasTrustees_any P Q G _).mono ?_
    rw [K0.out]
    rintro e v1 ⟨rfl, hb⟩
    have HB_1 := Lib.hid (bt HB_0.out hb)
    have G_1 := Lib.hid (G_0.out.below hb)
    have Z_1 := Lib.hid (Z_0.out.below hb)
    have C_1 := Lib.hid (C_0.out.below hb)
    clear hb gG0 gG1 gG2 zZ0 zZ1 zZ2 zfZ0 zfZ1 zfZ2
    obtain ⟨gG0, gG1, gG2⟩ := G_1.out
    obtain ⟨zZ0, zZ1, zZ2, zfZ⟩ := Z_1.out
    have zfZ0 := zfZ 0
    have zfZ1 := zfZ 1
    have zfZ2 := zfZ 2
    clear zfZ
    go_wp2
    (try simp only [Exit.inBlock, Exit.then])
    refine bodyPost_ret (v := .tuple #[.agg #[.slice none 0 0, .slice none 0 0, .slice none 0 0], .bool false]) ?_ rfl ?_
    · rw [results_cell_tmp rfl]; go_simp
    · have hm5 := mid_three v1 (w.heap.size + 1) (.slice none 0 0) (.slice none 0 0) (.slice none 0 0)
      exact ⟨_, _, _, rfl, owQ_nil _ _ (Nat.le_trans HB_1.out.size hm5.size), HB_1.out.trans (hm5.toBelow (by omega) HB_1.out.size)⟩
  replace h1 := Decidable.not_not.1 h1
  have B1 : ((cs.length : Int) == 0) = false := by simp; intro h; exact h1 (by simp [h])
  cases h2 : shsB Q cs
  · have K2 := Lib.hid (show shsB Q cs = false from h2)
    have E0 := Lib.hid (show pdC P Q G cs = false by unfold pdC; rw [show (inB (cs.length : Int) 1 7 && allIn cs 0 (Q - 1)) = false from by rw [← Bool.not_eq_true]; intro h; rw [Bool.and_eq_true] at h; have h5 := inB_true.1 h.1; have := shsB_true.2 ⟨(by omega : cs.length ≤ 7), h.2⟩; rw [this] at h2; cases h2]; simp)
    have E1 := Lib.hid (show pdB P Q G cs c = false by simp [pdB, E0.out])
    have E2 := Lib.hid (show pdV P Q G cs c = nilP by simp [pdV, E0.out])
    rw [E1.out, E2.out]
    clear h0 h1 h2
    obtain ⟨gG0, gG1, gG2⟩ := G_0.out
    obtain ⟨zZ0, zZ1, zZ2, zfZ⟩ := Z_0.out
    have zfZ0 := zfZ 0
    have zfZ1 := zfZ 1
    have zfZ2 := zfZ 2
    clear zfZ
    go_enter Try.func62, Try.ntmps62
    go_wp2_with fail
    refine (hasTrustees_any P Q G _).mono ?_
    rw [K0.out]
    rintro e v1 ⟨rfl, hb⟩
    have HB_1 := Lib.hid (bt HB_0.out hb)
    have G_1 := Lib.hid (G_0.out.below hb)
    have Z_1 := Lib.hid (Z_0.out.below hb)
    have C_1 := Lib.hid (C_0.out.below hb)
    clear hb gG0 gG1 gG2 zZ0 zZ1 zZ2 zfZ0 zfZ1 zfZ2
    obtain ⟨gG0, gG1, gG2⟩ := G_1.out
    obtain ⟨zZ0, zZ1, zZ2, zfZ⟩ := Z_1.out
    have zfZ0 := zfZ 0
    have zfZ1 := zfZ 1
    have zfZ2 := zfZ 2
    clear zfZ
    go_wp2_with fail
    refine (areShares_any P Q G ad cs.length cap cs rfl (by omega) _ C_1.out).mono ?_
    rw [K2.out]
    rintro e v2 ⟨rfl, hb⟩
    have HB_2 := Lib.hid (bt HB_1.out hb)
    have G_2 := Lib.hid (G_1.out.below hb)
    have Z_2 := Lib.hid (Z_1.out.below hb)
    have C_2 := Lib.hid (C_1.out.below hb)
    clear hb gG0 gG1 gG2 zZ0 zZ1 zZ2 zfZ0 zfZ1 zfZ2
    obtain ⟨gG0, gG1, gG2⟩ := G_2.out
    obtain ⟨zZ0, zZ1, zZ2, zfZ⟩ := Z_2.out
    have zfZ0 := zfZ 0
    have zfZ1 := zfZ 1
    have zfZ2 := zfZ 2
    clear zfZ
    go_wp2
    (try simp only [Exit.inBlock, Exit.then])
    refine bodyPost_ret (v := .tuple #[.agg #[.slice none 0 0, .slice none 0 0, .slice none 0 0], .bool false]) ?_ rfl ?_
    · rw [results_cell_tmp rfl]; go_simp
    · have hm5 := mid_three v2 (w.heap.size + 1) (.slice none 0 0) (.slice none 0 0) (.slice none 0 0)
      exact ⟨_, _, _, rfl, owQ_nil _ _ (Nat.le_trans HB_2.out.size hm5.size), HB_2.out.trans (hm5.toBelow (by omega) HB_2.out.size)⟩
  have K2 := Lib.hid (show shsB Q cs = true from h2)
  have E0 := Lib.hid (show pdC P Q G cs = true by have h9 := shsB_true.1 h2; unfold pdC; rw [h0, inB_true.2 (by omega), h9.2]; rfl)
  clear h0 h1 h2
  have hcl : 1 ≤ cs.length := by have := E0.out; unfold pdC at this; simp only [Bool.and_eq_true] at this; have := inB_true.1 this.2.1; omega
  have hpos : 0 < cs.length := hcl
  obtain ⟨gG0, gG1, gG2⟩ := G_0.out
  obtain ⟨zZ0, zZ1, zZ2, zfZ⟩ := Z_0.out
  have zfZ0 := zfZ 0
  have zfZ1 := zfZ 1
  have zfZ2 := zfZ 2
  clear zfZ
  go_enter Try.func62, Try.ntmps62
  go_wp2_with fail
  refine (hasTrustees_any P Q G _).mono ?_
  rw [K0.out]
  rintro e v1 ⟨rfl, hb⟩
  have HB_1 := Lib.hid (bt HB_0.out hb)
  have G_1 := Lib.hid (G_0.out.below hb)
  have Z_1 := Lib.hid (Z_0.out.below hb)
  have C_1 := Lib.hid (C_0.out.below hb)
  clear hb gG0 gG1 gG2 zZ0 zZ1 zZ2 zfZ0 zfZ1 zfZ2
  obtain ⟨gG0, gG1, gG2⟩ := G_1.out
  obtain ⟨zZ0, zZ1, zZ2, zfZ⟩ := Z_1.out
  have zfZ0 := zfZ 0
  have zfZ1 := zfZ 1
  have zfZ2 := zfZ 2
  clear zfZ
  go_wp2_with fail
  refine (areShares_any P Q G ad cs.length cap cs rfl (by omega) _ C_1.out).mono ?_
  rw [K2.out]
  rintro e v2 ⟨rfl, hb⟩
  have HB_2 := Lib.hid (bt HB_1.out hb)
  have G_2 := Lib.hid (G_1.out.below hb)
  have Z_2 := Lib.hid (Z_1.out.below hb)
  have C_2 := Lib.hid (C_1.out.below hb)
  clear hb gG0 gG1 gG2 zZ0 zZ1 zZ2 zfZ0 zfZ1 zfZ2
  obtain ⟨gG0, gG1, gG2⟩ := G_2.out
  obtain ⟨zZ0, zZ1, zZ2, zfZ⟩ := Z_2.out
  have zfZ0 := zfZ 0
  have zfZ1 := zfZ 1
  have zfZ2 := zfZ 2
  clear zfZ
  obtain ⟨xb, xo, x, rfl, hxb, hxx, hxd⟩ := (show IsInts v2 ad cs from C_2.out).at (k := 0) hpos
  have hx0 : cs.headD 0 = x := by rw [show cs = x :: cs.drop 1 from hxd]; rfl
  have X_x := Lib.hid (show C0 v2 ⟨xb, xo, none⟩ x from by simpa [C0] using hxx)
  have HXB := Lib.hid (show xb < w.heap.size + 1 ∨ w.heap.size + 1 + 1 ≤ xb from HXF.out xb xo hpos rfl)
  obtain ⟨p, hp⟩ : ∃ p, plV P Q G dealerS [[G]] [x] [c] = p := ⟨_, rfl⟩
  obtain ⟨ok, hk0⟩ : ∃ k, plB P Q G dealerS [[G]] [x] [c] = k := ⟨_, rfl⟩
  have HP := Lib.hid hp
  have HO := Lib.hid hk0
  have E1 := Lib.hid (show pdB P Q G cs c = ok by simp only [pdB, E0.out, hx0, hk0, Bool.true_and])
  have E2 := Lib.hid (show pdV P Q G cs c = p by simp only [pdV, E0.out, hx0, hp, if_true])
  clear hp hk0 hxd hx0
  go_wp2_with fail
  refine wp_region_held_drew (S := (fun w' => (w'.cell? ⟨w.heap.size, 0, none⟩ = some (.int .i64 P) ∧ w'.cell? ⟨w.heap.size, 1, none⟩ = some (.int .i64 Q) ∧ w'.cell? ⟨w.heap.size, 2, none⟩ = some (.int .i64 G)) ∧ w'.cell? ⟨xb, xo, none⟩ = some (.int .i64 x))) (by kernel_rfl) (by first | exact ⟨G_2.out, X_x.out⟩ | (dsimp only; exact ⟨G_2.out, X_x.out⟩)) (fun hHeld => ?_)
  refine wpAnyH_take (i := 0) (v := ?_) rfl (by kernel_rfl) (by kernel_rfl) (by kernel_rfl) (fun _ _ _ h => h) (Or.inl ⟨by kernel_rfl, ?_⟩) (by assumption) ?_
  rotate_left 1
  · intro w hSw
    try dsimp only at hSw
    go_simp
    try with_reducible rfl
  try simp only [Act.put, List.getElem_toArray, List.getElem_cons_succ, List.getElem_cons_zero, List.setIfInBounds_toArray, List.set_cons_zero, List.set_cons_succ]
  refine wpAnyH_take (i := 1) (v := ?_) rfl (by kernel_rfl) (by kernel_rfl) (by kernel_rfl) (fun _ _ _ h => h) (Or.inl ⟨by kernel_rfl, ?_⟩) (by assumption) ?_
  rotate_left 1
  · intro w hSw
    try dsimp only at hSw
    go_simp
    try with_reducible rfl
  try simp only [Act.put, List.getElem_toArray, List.getElem_cons_succ, List.getElem_cons_zero, List.setIfInBounds_toArray, List.set_cons_zero, List.set_cons_succ]
  refine wpAnyH_take (i := 2) (v := ?_) rfl (by kernel_rfl) (by kernel_rfl) (by kernel_rfl) (fun _ _ _ h => h) (Or.inl ⟨by kernel_rfl, ?_⟩) (by assumption) ?_
  rotate_left 1
  · intro w hSw
    try dsimp only at hSw
    go_simp
    try with_reducible rfl
  try simp only [Act.put, List.getElem_toArray, List.getElem_cons_succ, List.getElem_cons_zero, List.setIfInBounds_toArray, List.set_cons_zero, List.set_cons_succ]
  refine wpAnyH_take (i := 3) (v := ?_) rfl (by kernel_rfl) (by kernel_rfl) (by kernel_rfl) (fun _ _ _ h => h) (Or.inl ⟨by kernel_rfl, ?_⟩) (by assumption) ?_
  rotate_left 1
  · intro w hSw
    try dsimp only at hSw
    go_simp
    try with_reducible rfl
  try simp only [Act.put, List.getElem_toArray, List.getElem_cons_succ, List.getElem_cons_zero, List.setIfInBounds_toArray, List.set_cons_zero, List.set_cons_succ]
  refine wpAnyH_take (i := 4) (v := ?_) rfl (by kernel_rfl) (by kernel_rfl) (by kernel_rfl) (fun _ _ _ h => h) (Or.inl ⟨by kernel_rfl, ?_⟩) (by assumption) ?_
  rotate_left 1
  · intro w hSw
    try dsimp only at hSw
    go_simp
    try with_reducible rfl
  try simp only [Act.put, List.getElem_toArray, List.getElem_cons_succ, List.getElem_cons_zero, List.setIfInBounds_toArray, List.set_cons_zero, List.set_cons_succ]
  refine wpAnyH_take (i := 5) (v := ?_) rfl (by kernel_rfl) (by kernel_rfl) (by kernel_rfl) (fun _ _ _ h => h) (Or.inl ⟨by kernel_rfl, ?_⟩) (by assumption) ?_
  rotate_left 1
  · intro w hSw
    try dsimp only at hSw
    go_simp
    try with_reducible rfl
  try simp only [Act.put, List.getElem_toArray, List.getElem_cons_succ, List.getElem_cons_zero, List.setIfInBounds_toArray, List.set_cons_zero, List.set_cons_succ]
  refine wpAnyH_take (i := 6) (v := ?_) rfl (by kernel_rfl) (by kernel_rfl) (by kernel_rfl) (fun _ _ _ h => h) (Or.inl ⟨by kernel_rfl, ?_⟩) (by assumption) ?_
  rotate_left 1
  · intro w hSw
    try dsimp only at hSw
    go_simp
    try with_reducible rfl
  try simp only [Act.put, List.getElem_toArray, List.getElem_cons_succ, List.getElem_cons_zero, List.setIfInBounds_toArray, List.set_cons_zero, List.set_cons_succ]
  refine wpAnyH_ready (rs := [7]) (by kernel_rfl) (by simp) ?_
  refine AllReadyH.cons rfl (fun K hK => ?_) AllReadyH.nil
  go_simp
  have hbd : Below v2.heap.size v2 v2.drew := (Below.refl _ v2).drew
  go_at_call 107
  refine (provK_any P Q G G x c dealerS (by decide) _).mono ?_
  rw [HP.out, HO.out]
  rintro e' wf ⟨qa, qb, qc, rfl, hq, hbf0⟩
  have hbf := bt hbd hbf0
  obtain ⟨a1, c1, a2, c2, a3, c3, hsh, _⟩ := hq.toIn.parts
  simp only [Value.agg.injEq, Array.mk.injEq, List.cons.injEq, and_true] at hsh
  obtain ⟨rfl, rfl, rfl⟩ := hsh
  have LV := Lib.hid Z_2.out.lt
  have G_s := Lib.hid (G_2.out.below hbf)
  have X_s := Lib.hid (X_x.out.below hbf)
  have Z_s := Lib.hid (Z_2.out.below hbf)
  have HB_s := Lib.hid (bt HB_2.out hbf)
  have AQ := Lib.hid hq
  clear hbf hbd hbf0 hq
  obtain ⟨y0, y1, y2, yf⟩ := Z_s.out
  have yf0 := yf 0
  have yf1 := yf 1
  have yf2 := yf 2
  clear yf
  refine hK.out _ _ (by first | exact ⟨G_s.out, X_s.out⟩ | (dsimp only; exact ⟨G_s.out, X_s.out⟩)) (fun hHeld => ?_)
  clear hK K
  try simp only [Act.put, List.getElem_toArray, List.getElem_cons_succ, List.getElem_cons_zero, List.setIfInBounds_toArray, List.set_cons_zero, List.set_cons_succ]
  refine wpAnyH_take (i := 8) (v := ?_) rfl (by kernel_rfl) (by kernel_rfl) (by kernel_rfl) (fun _ _ _ h => h) (Or.inl ⟨by kernel_rfl, ?_⟩) (by assumption) ?_
  rotate_left 1
  · intro w hSw
    try dsimp only at hSw
    go_simp
    try with_reducible rfl
  try simp only [Act.put, List.getElem_toArray, List.getElem_cons_succ, List.getElem_cons_zero, List.setIfInBounds_toArray, List.set_cons_zero, List.set_cons_succ]
  refine wpAnyH_take (i := 9) (v := ?_) rfl (by kernel_rfl) (by kernel_rfl) (by kernel_rfl) (fun _ _ _ h => h) (Or.inl ⟨by kernel_rfl, ?_⟩) (by assumption) ?_
  rotate_left 1
  · intro w hSw
    try dsimp only at hSw
    go_simp
    try with_reducible rfl
  try simp only [Act.put, List.getElem_toArray, List.getElem_cons_succ, List.getElem_cons_zero, List.setIfInBounds_toArray, List.set_cons_zero, List.set_cons_succ]
  refine wpAnyH_ready (rs := [10]) (by kernel_rfl) (by simp) ?_
  refine AllReadyH.cons rfl (fun K hK => ?_) AllReadyH.nil
  go_simp
  have hm6 := mid_three wf (w.heap.size + 1) (.slice a1 p.c.length c1) (.slice a2 p.h.length c2) (.slice a3 p.r.length c3)
  refine hK.out _ _ (by exact ⟨gr_mid7 G_s.out hm6 (by omega), (World.cell?_of_block (a := ⟨xb, xo, none⟩) (hm6.block xb (World.block_lt_of_cell? _ _ X_s.out) HXB.out)).trans X_s.out⟩) (fun hHeld => ?_)
  clear hK K
  try simp only [Act.put, List.getElem_toArray, List.getElem_cons_succ, List.getElem_cons_zero, List.setIfInBounds_toArray, List.set_cons_zero, List.set_cons_succ]
  refine wpAnyH_take (i := 11) (v := ?_) rfl (by kernel_rfl) (by kernel_rfl) (by kernel_rfl) (fun _ _ _ h => h) (Or.inl ⟨by kernel_rfl, ?_⟩) (by assumption) ?_
  rotate_left 1
  · intro w hSw
    try dsimp only at hSw
    go_simp
    try with_reducible rfl
  try simp only [Act.put, List.getElem_toArray, List.getElem_cons_succ, List.getElem_cons_zero, List.setIfInBounds_toArray, List.set_cons_zero, List.set_cons_succ]
  refine wpAnyH_done (by kernel_rfl) ?_ _
  clear hHeld
  go_wp2
  (try simp only [Exit.inBlock, Exit.then])
  refine bodyPost_ret (v := .tuple #[.agg #[.slice a1 p.c.length c1, .slice a2 p.h.length c2, .slice a3 p.r.length c3], .bool ok]) ?_ rfl ?_
  · rw [results_cell_tmp rfl]; go_simp
  · have hm5 := mid_three wf (w.heap.size + 1) (.slice a1 p.c.length c1) (.slice a2 p.h.length c2) (.slice a3 p.r.length c3)
    have hwl := HB_2.out.size
    have hlv := LV.out
    have h1 := AQ.out.mid hm5 (.inr (by simp; omega))
    rw [E1.out, E2.out]
    exact ⟨_, _, _, rfl, h1.wide (by simp; omega) hm5.size, HB_s.out.trans (hm5.toBelow (by omega) HB_s.out.size)⟩

set_option maxRecDepth 100000 in
set_option maxHeartbeats 3200000 in
theorem sProveDealer_any (P Q G c : Int) (ad : Option Addr) (cap : Nat) (cs : List Int) (hl : cs.length ≤ 1048576) {w : World} (hz : IsInts w ad cs) :
    Calls Try.prog 60 #[gv P Q G, .slice ad cs.length cap, .int .i64 c] w (AnsN w (pdV P Q G cs c) (pdB P Q G cs c)) := by
  have HXF := Lib.hid (show ∀ b o, 0 < cs.length → ad = some ⟨b, o, none⟩ → b < w.heap.size + 1 ∨ w.heap.size + 1 + 1 ≤ b from by
    rcases hz with h | ⟨b1, o1, h1, h2, _⟩
    · intro b o h3; simp [h] at h3
    · intro b o _ h4; rw [h1] at h4; cases h4; exact .inl (Nat.lt_succ_of_lt h2))
  have hv := b3_new (w.alloc (.cells #[.int .i64 P, .int .i64 Q, .int .i64 G] 24)) (.slice none 0 0) (.slice none 0 0) (.slice none 0 0) 84
  rw [show (w.alloc (.cells #[.int .i64 P, .int .i64 Q, .int .i64 G] 24)).heap.size = w.heap.size + 1 by simp] at hv
  have G_0 := Lib.hid ((gr_atS w w.heap.size rfl P Q G 24).below (ba (w.alloc (.cells #[.int .i64 P, .int .i64 Q, .int .i64 G] 24)) (.cells #[.slice none 0 0, .slice none 0 0, .slice none 0 0] 84)))
  have Z_0 := Lib.hid hv
  have HB_0 := Lib.hid (show Below w.heap.size w ((w.alloc (.cells #[.int .i64 P, .int .i64 Q, .int .i64 G] 24)).alloc (.cells #[.slice none 0 0, .slice none 0 0, .slice none 0 0] 84)) from bt (ba _ _) (ba _ _))
  have C_0 := Lib.hid (LZ.below hz HB_0.out)
  clear hz hv
  cases h0 : trB P Q G
  · have K0 := Lib.hid (show trB P Q G = false from h0)
    have E0 := Lib.hid (show pdC P Q G cs = false by unfold pdC; rw [h0]; rfl)
    have E1 := Lib.hid (show pdB P Q G cs c = false by simp [pdB, E0.out])
    have E2 := Lib.hid (show pdV P Q G cs c = nilP by simp [pdV, E0.out])
    rw [E1.out, E2.out]
    clear h0
    obtain ⟨gG0, gG1, gG2⟩ := G_0.out
    obtain ⟨zZ0, zZ1, zZ2, zfZ⟩ := Z_0.out
    have zfZ0 := zfZ 0
    have zfZ1 := zfZ 1
    have zfZ2 := zfZ 2
    clear zfZ
    go_enter Try.func60, Try.ntmps60
    go_wp2_with fail
    refine (sGroup_any P Q G _).mono ?_
    rw [K0.out]
    rintro e v1 ⟨rfl, hb⟩
    have HB_1 := Lib.hid (bt HB_0.out hb)
    have G_1 := Lib.hid (G_0.out.below hb)
    have Z_1 := Lib.hid (Z_0.out.below hb)
    have C_1 := Lib.hid (C_0.out.below hb)
    clear hb gG0 gG1 gG2 zZ0 zZ1 zZ2 zfZ0 zfZ1 zfZ2
    obtain ⟨gG0, gG1, gG2⟩ := G_1.out
    obtain ⟨zZ0, zZ1, zZ2, zfZ⟩ := Z_1.out
    have zfZ0 := zfZ 0
    have zfZ1 := zfZ 1
    have zfZ2 := zfZ 2
    clear zfZ
    go_wp2
    (try simp only [Exit.inBlock, Exit.then])
    refine bodyPost_ret (v := .tuple #[.agg #[.slice none 0 0, .slice none 0 0, .slice none 0 0], .bool false]) ?_ rfl ?_
    · rw [results_cell_tmp rfl]; go_simp
    · have hm5 := mid_three v1 (w.heap.size + 1) (.slice none 0 0) (.slice none 0 0) (.slice none 0 0)
      exact ⟨_, _, _, rfl, owP_nilP _ _ (Nat.le_trans HB_1.out.size hm5.size), HB_1.out.trans (hm5.toBelow (by omega) HB_1.out.size)⟩
  have K0 := Lib.hid (show trB P Q G = true from h0)
  have hmo := (trB_of h0).2.1
  cases h1 : inB (cs.length : Int) 1 7
  · have K1 := Lib.hid (show inB (cs.length : Int) 1 7 = false from h1)
    have E0 := Lib.hid (show pdC P Q G cs = false by unfold pdC; rw [h1]; simp)
    have E1 := Lib.hid (show pdB P Q G cs c = false by simp [pdB, E0.out])
    have E2 := Lib.hid (show pdV P Q G cs c = nilP by simp [pdV, E0.out])
    rw [E1.out, E2.out]
    clear h0 h1
    obtain ⟨gG0, gG1, gG2⟩ := G_0.out
    obtain ⟨zZ0, zZ1, zZ2, zfZ⟩ := Z_0.out
    have zfZ0 := zfZ 0
    have zfZ1 := zfZ 1
    have zfZ2 := zfZ 2
    clear zfZ
    go_enter Try.func60, Try.ntmps60
    go_wp2_with fail
    refine (sGroup_any P Q G _).mono ?_
    rw [K0.out]
    rintro e v1 ⟨rfl, hb⟩
    have HB_1 := Lib.hid (bt HB_0.out hb)
    have G_1 := Lib.hid (G_0.out.below hb)
    have Z_1 := Lib.hid (Z_0.out.below hb)
    have C_1 := Lib.hid (C_0.out.below hb)
    clear hb gG0 gG1 gG2 zZ0 zZ1 zZ2 zfZ0 zfZ1 zfZ2
    obtain ⟨gG0, gG1, gG2⟩ := G_1.out
    obtain ⟨zZ0, zZ1, zZ2, zfZ⟩ := Z_1.out
    have zfZ0 := zfZ 0
    have zfZ1 := zfZ 1
    have zfZ2 := zfZ 2
    clear zfZ
    go_wp2_with fail
    refine (l1In_any _ _ _ _).mono ?_
    rw [K1.out]
    rintro e w' ⟨rfl, rfl⟩
    go_wp2
    (try simp only [Exit.inBlock, Exit.then])
    refine bodyPost_ret (v := .tuple #[.agg #[.slice none 0 0, .slice none 0 0, .slice none 0 0], .bool false]) ?_ rfl ?_
    · rw [results_cell_tmp rfl]; go_simp
    · have hm5 := mid_three v1 (w.heap.size + 1) (.slice none 0 0) (.slice none 0 0) (.slice none 0 0)
      exact ⟨_, _, _, rfl, owP_nilP _ _ (Nat.le_trans HB_1.out.size hm5.size), HB_1.out.trans (hm5.toBelow (by omega) HB_1.out.size)⟩
  have K1 := Lib.hid (show inB (cs.length : Int) 1 7 = true from h1)
  cases h2 : allIn cs 0 (Q - 1)
  · have K2 := Lib.hid (show allIn cs 0 (Q - 1) = false from h2)
    have E0 := Lib.hid (show pdC P Q G cs = false by unfold pdC; rw [h2]; simp)
    have E1 := Lib.hid (show pdB P Q G cs c = false by simp [pdB, E0.out])
    have E2 := Lib.hid (show pdV P Q G cs c = nilP by simp [pdV, E0.out])
    rw [E1.out, E2.out]
    clear h0 h1 h2
    obtain ⟨gG0, gG1, gG2⟩ := G_0.out
    obtain ⟨zZ0, zZ1, zZ2, zfZ⟩ := Z_0.out
    have zfZ0 := zfZ 0
    have zfZ1 := zfZ 1
    have zfZ2 := zfZ 2
    clear zfZ
    go_enter Try.func60, Try.ntmps60
    go_wp2_with fail
    refine (sGroup_any P Q G _).mono ?_
    rw [K0.out]
    rintro e v1 ⟨rfl, hb⟩
    have HB_1 := Lib.hid (bt HB_0.out hb)
    have G_1 := Lib.hid (G_0.out.below hb)
    have Z_1 := Lib.hid (Z_0.out.below hb)
    have C_1 := Lib.hid (C_0.out.below hb)
    clear hb gG0 gG1 gG2 zZ0 zZ1 zZ2 zfZ0 zfZ1 zfZ2
    obtain ⟨gG0, gG1, gG2⟩ := G_1.out
    obtain ⟨zZ0, zZ1, zZ2, zfZ⟩ := Z_1.out
    have zfZ0 := zfZ 0
    have zfZ1 := zfZ 1
    have zfZ2 := zfZ 2
    clear zfZ
    go_wp2_with fail
    refine (l1In_any _ _ _ _).mono ?_
    rw [K1.out]
    rintro e w' ⟨rfl, rfl⟩
    go_wp2_with fail
    refine (gExps_any P Q G hmo.2 ad cs.length cap cs rfl (by omega) _ C_1.out).mono ?_
    rw [K2.out]
    rintro e v2 ⟨rfl, hb⟩
    have HB_2 := Lib.hid (bt HB_1.out hb)
    have G_2 := Lib.hid (G_1.out.below hb)
    have Z_2 := Lib.hid (Z_1.out.below hb)
    have C_2 := Lib.hid (C_1.out.below hb)
    clear hb gG0 gG1 gG2 zZ0 zZ1 zZ2 zfZ0 zfZ1 zfZ2
    obtain ⟨gG0, gG1, gG2⟩ := G_2.out
    obtain ⟨zZ0, zZ1, zZ2, zfZ⟩ := Z_2.out
    have zfZ0 := zfZ 0
    have zfZ1 := zfZ 1
    have zfZ2 := zfZ 2
    clear zfZ
    go_wp2
    (try simp only [Exit.inBlock, Exit.then])
    refine bodyPost_ret (v := .tuple #[.agg #[.slice none 0 0, .slice none 0 0, .slice none 0 0], .bool false]) ?_ rfl ?_
    · rw [results_cell_tmp rfl]; go_simp
    · have hm5 := mid_three v2 (w.heap.size + 1) (.slice none 0 0) (.slice none 0 0) (.slice none 0 0)
      exact ⟨_, _, _, rfl, owP_nilP _ _ (Nat.le_trans HB_2.out.size hm5.size), HB_2.out.trans (hm5.toBelow (by omega) HB_2.out.size)⟩
  have K2 := Lib.hid (show allIn cs 0 (Q - 1) = true from h2)
  have E0 := Lib.hid (show pdC P Q G cs = true by unfold pdC; rw [h0, h1, h2]; rfl)
  clear h0 h1 h2
  have hcl : 1 ≤ cs.length := by have := E0.out; unfold pdC at this; simp only [Bool.and_eq_true] at this; have := inB_true.1 this.2.1; omega
  have hpos : 0 < cs.length := hcl
  obtain ⟨gG0, gG1, gG2⟩ := G_0.out
  obtain ⟨zZ0, zZ1, zZ2, zfZ⟩ := Z_0.out
  have zfZ0 := zfZ 0
  have zfZ1 := zfZ 1
  have zfZ2 := zfZ 2
  clear zfZ
  go_enter Try.func60, Try.ntmps60
  go_wp2_with fail
  refine (sGroup_any P Q G _).mono ?_
  rw [K0.out]
  rintro e v1 ⟨rfl, hb⟩
  have HB_1 := Lib.hid (bt HB_0.out hb)
  have G_1 := Lib.hid (G_0.out.below hb)
  have Z_1 := Lib.hid (Z_0.out.below hb)
  have C_1 := Lib.hid (C_0.out.below hb)
  clear hb gG0 gG1 gG2 zZ0 zZ1 zZ2 zfZ0 zfZ1 zfZ2
  obtain ⟨gG0, gG1, gG2⟩ := G_1.out
  obtain ⟨zZ0, zZ1, zZ2, zfZ⟩ := Z_1.out
  have zfZ0 := zfZ 0
  have zfZ1 := zfZ 1
  have zfZ2 := zfZ 2
  clear zfZ
  go_wp2_with fail
  refine (l1In_any _ _ _ _).mono ?_
  rw [K1.out]
  rintro e w' ⟨rfl, rfl⟩
  go_wp2_with fail
  refine (gExps_any P Q G hmo.2 ad cs.length cap cs rfl (by omega) _ C_1.out).mono ?_
  rw [K2.out]
  rintro e v2 ⟨rfl, hb⟩
  have HB_2 := Lib.hid (bt HB_1.out hb)
  have G_2 := Lib.hid (G_1.out.below hb)
  have Z_2 := Lib.hid (Z_1.out.below hb)
  have C_2 := Lib.hid (C_1.out.below hb)
  clear hb gG0 gG1 gG2 zZ0 zZ1 zZ2 zfZ0 zfZ1 zfZ2
  obtain ⟨gG0, gG1, gG2⟩ := G_2.out
  obtain ⟨zZ0, zZ1, zZ2, zfZ⟩ := Z_2.out
  have zfZ0 := zfZ 0
  have zfZ1 := zfZ 1
  have zfZ2 := zfZ 2
  clear zfZ
  obtain ⟨xb, xo, x, rfl, hxb, hxx, hxd⟩ := (show IsInts v2 ad cs from C_2.out).at (k := 0) hpos
  have hx0 : cs.headD 0 = x := by rw [show cs = x :: cs.drop 1 from hxd]; rfl
  have X_x := Lib.hid (show C0 v2 ⟨xb, xo, none⟩ x from by simpa [C0] using hxx)
  have HXB := Lib.hid (show xb < w.heap.size + 1 ∨ w.heap.size + 1 + 1 ≤ xb from HXF.out xb xo hpos rfl)
  obtain ⟨p, hp⟩ : ∃ p, plV P Q G dealerS [[G]] [x] [c] = p := ⟨_, rfl⟩
  obtain ⟨ok, hk0⟩ : ∃ k, plB P Q G dealerS [[G]] [x] [c] = k := ⟨_, rfl⟩
  have HP := Lib.hid hp
  have HO := Lib.hid hk0
  have E1 := Lib.hid (show pdB P Q G cs c = ok by simp only [pdB, E0.out, hx0, hk0, Bool.true_and])
  have E2 := Lib.hid (show pdV P Q G cs c = p by simp only [pdV, E0.out, hx0, hp, if_true])
  clear hp hk0 hxd hx0
  go_wp2_with fail
  refine wp_region_held_drew (S := (fun w' => (w'.cell? ⟨w.heap.size, 0, none⟩ = some (.int .i64 P) ∧ w'.cell? ⟨w.heap.size, 1, none⟩ = some (.int .i64 Q) ∧ w'.cell? ⟨w.heap.size, 2, none⟩ = some (.int .i64 G)) ∧ w'.cell? ⟨xb, xo, none⟩ = some (.int .i64 x))) (by kernel_rfl) (by first | exact ⟨G_2.out, X_x.out⟩ | (dsimp only; exact ⟨G_2.out, X_x.out⟩)) (fun hHeld => ?_)
  refine wpAnyH_take (i := 0) (v := ?_) rfl (by kernel_rfl) (by kernel_rfl) (by kernel_rfl) (fun _ _ _ h => h) (Or.inl ⟨by kernel_rfl, ?_⟩) (by assumption) ?_
  rotate_left 1
  · intro w hSw
    try dsimp only at hSw
    go_simp
    try with_reducible rfl
  try simp only [Act.put, List.getElem_toArray, List.getElem_cons_succ, List.getElem_cons_zero, List.setIfInBounds_toArray, List.set_cons_zero, List.set_cons_succ]
  refine wpAnyH_take (i := 1) (v := ?_) rfl (by kernel_rfl) (by kernel_rfl) (by kernel_rfl) (fun _ _ _ h => h) (Or.inl ⟨by kernel_rfl, ?_⟩) (by assumption) ?_
  rotate_left 1
  · intro w hSw
    try dsimp only at hSw
    go_simp
    try with_reducible rfl
  try simp only [Act.put, List.getElem_toArray, List.getElem_cons_succ, List.getElem_cons_zero, List.setIfInBounds_toArray, List.set_cons_zero, List.set_cons_succ]
  refine wpAnyH_take (i := 2) (v := ?_) rfl (by kernel_rfl) (by kernel_rfl) (by kernel_rfl) (fun _ _ _ h => h) (Or.inl ⟨by kernel_rfl, ?_⟩) (by assumption) ?_
  rotate_left 1
  · intro w hSw
    try dsimp only at hSw
    go_simp
    try with_reducible rfl
  try simp only [Act.put, List.getElem_toArray, List.getElem_cons_succ, List.getElem_cons_zero, List.setIfInBounds_toArray, List.set_cons_zero, List.set_cons_succ]
  refine wpAnyH_take (i := 3) (v := ?_) rfl (by kernel_rfl) (by kernel_rfl) (by kernel_rfl) (fun _ _ _ h => h) (Or.inl ⟨by kernel_rfl, ?_⟩) (by assumption) ?_
  rotate_left 1
  · intro w hSw
    try dsimp only at hSw
    go_simp
    try with_reducible rfl
  try simp only [Act.put, List.getElem_toArray, List.getElem_cons_succ, List.getElem_cons_zero, List.setIfInBounds_toArray, List.set_cons_zero, List.set_cons_succ]
  refine wpAnyH_take (i := 4) (v := ?_) rfl (by kernel_rfl) (by kernel_rfl) (by kernel_rfl) (fun _ _ _ h => h) (Or.inl ⟨by kernel_rfl, ?_⟩) (by assumption) ?_
  rotate_left 1
  · intro w hSw
    try dsimp only at hSw
    go_simp
    try with_reducible rfl
  try simp only [Act.put, List.getElem_toArray, List.getElem_cons_succ, List.getElem_cons_zero, List.setIfInBounds_toArray, List.set_cons_zero, List.set_cons_succ]
  refine wpAnyH_take (i := 5) (v := ?_) rfl (by kernel_rfl) (by kernel_rfl) (by kernel_rfl) (fun _ _ _ h => h) (Or.inl ⟨by kernel_rfl, ?_⟩) (by assumption) ?_
  rotate_left 1
  · intro w hSw
    try dsimp only at hSw
    go_simp
    try with_reducible rfl
  try simp only [Act.put, List.getElem_toArray, List.getElem_cons_succ, List.getElem_cons_zero, List.setIfInBounds_toArray, List.set_cons_zero, List.set_cons_succ]
  refine wpAnyH_take (i := 6) (v := ?_) rfl (by kernel_rfl) (by kernel_rfl) (by kernel_rfl) (fun _ _ _ h => h) (Or.inl ⟨by kernel_rfl, ?_⟩) (by assumption) ?_
  rotate_left 1
  · intro w hSw
    try dsimp only at hSw
    go_simp
    try with_reducible rfl
  try simp only [Act.put, List.getElem_toArray, List.getElem_cons_succ, List.getElem_cons_zero, List.setIfInBounds_toArray, List.set_cons_zero, List.set_cons_succ]
  refine wpAnyH_ready (rs := [7]) (by kernel_rfl) (by simp) ?_
  refine AllReadyH.cons rfl (fun K hK => ?_) AllReadyH.nil
  go_simp
  have hbd : Below v2.heap.size v2 v2.drew := (Below.refl _ v2).drew
  go_at_call 105
  refine (sProvK_any P Q G G x c dealerS (by decide) _).mono ?_
  rw [HP.out, HO.out]
  rintro e' wf ⟨qa, qb, qc, rfl, hq, hbf0⟩
  have hbf := bt hbd hbf0
  obtain ⟨a1, c1, a2, c2, a3, c3, hsh, _⟩ := hq.toIn.parts
  simp only [Value.agg.injEq, Array.mk.injEq, List.cons.injEq, and_true] at hsh
  obtain ⟨rfl, rfl, rfl⟩ := hsh
  have LV := Lib.hid Z_2.out.lt
  have G_s := Lib.hid (G_2.out.below hbf)
  have X_s := Lib.hid (X_x.out.below hbf)
  have Z_s := Lib.hid (Z_2.out.below hbf)
  have HB_s := Lib.hid (bt HB_2.out hbf)
  have AQ := Lib.hid hq
  clear hbf hbd hbf0 hq
  obtain ⟨y0, y1, y2, yf⟩ := Z_s.out
  have yf0 := yf 0
  have yf1 := yf 1
  have yf2 := yf 2
  clear yf
  refine hK.out _ _ (by first | exact ⟨G_s.out, X_s.out⟩ | (dsimp only; exact ⟨G_s.out, X_s.out⟩)) (fun hHeld => ?_)
  clear hK K
  try simp only [Act.put, List.getElem_toArray, List.getElem_cons_succ, List.getElem_cons_zero, List.setIfInBounds_toArray, List.set_cons_zero, List.set_cons_succ]
  refine wpAnyH_take (i := 8) (v := ?_) rfl (by kernel_rfl) (by kernel_rfl) (by kernel_rfl) (fun _ _ _ h => h) (Or.inl ⟨by kernel_rfl, ?_⟩) (by assumption) ?_
  rotate_left 1
  · intro w hSw
    try dsimp only at hSw
    go_simp
    try with_reducible rfl
  try simp only [Act.put, List.getElem_toArray, List.getElem_cons_succ, List.getElem_cons_zero, List.setIfInBounds_toArray, List.set_cons_zero, List.set_cons_succ]
  refine wpAnyH_take (i := 9) (v := ?_) rfl (by kernel_rfl) (by kernel_rfl) (by kernel_rfl) (fun _ _ _ h => h) (Or.inl ⟨by kernel_rfl, ?_⟩) (by assumption) ?_
  rotate_left 1
  · intro w hSw
    try dsimp only at hSw
    go_simp
    try with_reducible rfl
  try simp only [Act.put, List.getElem_toArray, List.getElem_cons_succ, List.getElem_cons_zero, List.setIfInBounds_toArray, List.set_cons_zero, List.set_cons_succ]
  refine wpAnyH_ready (rs := [10]) (by kernel_rfl) (by simp) ?_
  refine AllReadyH.cons rfl (fun K hK => ?_) AllReadyH.nil
  go_simp
  have hm6 := mid_three wf (w.heap.size + 1) (.slice a1 p.c.length c1) (.slice a2 p.h.length c2) (.slice a3 p.r.length c3)
  refine hK.out _ _ (by exact ⟨gr_mid7 G_s.out hm6 (by omega), (World.cell?_of_block (a := ⟨xb, xo, none⟩) (hm6.block xb (World.block_lt_of_cell? _ _ X_s.out) HXB.out)).trans X_s.out⟩) (fun hHeld => ?_)
  clear hK K
  try simp only [Act.put, List.getElem_toArray, List.getElem_cons_succ, List.getElem_cons_zero, List.setIfInBounds_toArray, List.set_cons_zero, List.set_cons_succ]
  refine wpAnyH_take (i := 11) (v := ?_) rfl (by kernel_rfl) (by kernel_rfl) (by kernel_rfl) (fun _ _ _ h => h) (Or.inl ⟨by kernel_rfl, ?_⟩) (by assumption) ?_
  rotate_left 1
  · intro w hSw
    try dsimp only at hSw
    go_simp
    try with_reducible rfl
  try simp only [Act.put, List.getElem_toArray, List.getElem_cons_succ, List.getElem_cons_zero, List.setIfInBounds_toArray, List.set_cons_zero, List.set_cons_succ]
  refine wpAnyH_done (by kernel_rfl) ?_ _
  clear hHeld
  go_wp2
  (try simp only [Exit.inBlock, Exit.then])
  refine bodyPost_ret (v := .tuple #[.agg #[.slice a1 p.c.length c1, .slice a2 p.h.length c2, .slice a3 p.r.length c3], .bool ok]) ?_ rfl ?_
  · rw [results_cell_tmp rfl]; go_simp
  · have hm5 := mid_three wf (w.heap.size + 1) (.slice a1 p.c.length c1) (.slice a2 p.h.length c2) (.slice a3 p.r.length c3)
    have hwl := HB_2.out.size
    have hlv := LV.out
    have h1 := AQ.out.mid hm5 (.inr (by simp; omega))
    rw [E1.out, E2.out]
    exact ⟨_, _, _, rfl, h1.wide (by simp; omega) hm5.size, HB_s.out.trans (hm5.toBelow (by omega) HB_s.out.size)⟩

theorem proveDealer_ans (P Q G c : Int) {B : Nat} {v : Value} {cs : List Int} (hl : cs.length ≤ 1048576) {w : World} (h : InI B w v cs) :
    Calls Try.prog 62 #[gv P Q G, v, .int .i64 c] w (AnsQ w.heap.size w (pdV P Q G cs c) (pdB P Q G cs c)) := by
  obtain ⟨_, ad, cap, rfl, h1, _⟩ := h; exact proveDealer_any P Q G c ad cap cs hl h1.ints

theorem sProveDealer_ans (P Q G c : Int) {B : Nat} {v : Value} {cs : List Int} (hl : cs.length ≤ 1048576) {w : World} (h : InI B w v cs) :
    Calls Try.prog 60 #[gv P Q G, v, .int .i64 c] w (AnsN w (pdV P Q G cs c) (pdB P Q G cs c)) := by
  obtain ⟨_, ad, cap, rfl, h1, _⟩ := h; exact sProveDealer_any P Q G c ad cap cs hl h1.ints

end Go.Proofs.Ytchlnkdlnfjijaa

