/- Chapter 10, the program: what commitments to bits and sums hide; VerifyBit, VerifySum. -/
import Derived.Test.YtfjaohmildkeoaaAny
import Derived.Test.YtfjaohmildkeoaaRngF
import Derived.Test.YtfjaohmildkeoaaElE
import Derived.Test.YtfjaohmildkeoaaSigM
import Derived.Deep.RegionHeld3
namespace Go.Proofs.Ytfjaohmildkeoaa
open Go.RowKit
set_option linter.unusedVariables false
set_option linter.unusedSimpArgs false

theorem cellUp {w w' : World} (hb : Below w.heap.size w w') {a : Addr} {v : Value} (h : w.cell? a = some v) : w'.cell? a = some v := by
  have hl := World.block_lt_of_cell? w _ h
  rw [World.cell?_of_block (hb.block a.block hl)]; exact h
theorem KP.wide {Q P Q' P' : Nat} {R : World → Prop} {w : World} (h : KP Q P R w) (hQ : Q' ≤ Q) (hP : P ≤ P') (hs : P' ≤ w.heap.size) : KP Q' P' R w :=
  ⟨hs, fun w' h1 h2 => h.2 w' (Nat.le_trans hP h1) fun b b1 b2 => h2 b (Nat.le_trans hQ b1) (Nat.lt_of_lt_of_le b2 hP)⟩
/-- A box of two values that may be written. -/
def Z2 (w : World) (b : Nat) (x y : Value) : Prop := (w.cell? ⟨b, 0, none⟩ = some x ∧ w.cell? ⟨b, 1, none⟩ = some y) ∧ w.frozen? ⟨b, 0, none⟩ = false ∧ w.frozen? ⟨b, 1, none⟩ = false
theorem z2_at (w : World) (b : Nat) (hb : w.heap.size = b) (x y : Value) (t : TypeId) : Z2 (w.alloc (.cells #[x, y] t)) b x y := by
  subst hb
  exact ⟨⟨World.cell?_alloc_at _ _ _ _ rfl, World.cell?_alloc_at _ _ _ _ rfl⟩, World.frozen?_alloc_at _ _ _ _ rfl, World.frozen?_alloc_at _ _ _ _ rfl⟩
theorem Z2.lt {w : World} {b : Nat} {x y : Value} (h : Z2 w b x y) : b < w.heap.size := World.block_lt_of_cell? w _ h.1.1
theorem Z2.below {w w' : World} {b : Nat} {x y : Value} (h : Z2 w b x y) (hb : Below w.heap.size w w') : Z2 w' b x y := by
  have hl := h.lt
  exact ⟨⟨cellUp hb h.1.1, cellUp hb h.1.2⟩, by rw [hb.frozen (p := ⟨b, 0, none⟩) hl]; exact h.2.1, by rw [hb.frozen (p := ⟨b, 1, none⟩) hl]; exact h.2.2⟩
theorem Z2.drew {w : World} {b : Nat} {x y : Value} (h : Z2 w b x y) : Z2 w.drew b x y := h
theorem mid2 (w : World) (b : Nat) (x y : Value) : Mid b (b + 1) w ((w.setCell ⟨b, 0, none⟩ x).setCell ⟨b, 1, none⟩ y) := (mid_cell w b 0 x).trans (mid_cell _ b 1 y)

/-- Where a linear statement lies. -/
def LinAt (W : World) (v1 v2 : Value) (p : LinD) : Prop := InS W.heap.size W v1 p.1 ∧ InI W.heap.size W v2 p.2
def HidOut (w : World) (p : LinD) (e : Ending) (w' : World) : Prop := ∃ b d, e = .returned (.agg #[.slice (some ⟨b, 0, none⟩) 1 1, .slice (some ⟨d, 0, none⟩) 1 1]) ∧ KP w.heap.size w'.heap.size (fun W => LinAt W (.slice (some ⟨b, 0, none⟩) 1 1) (.slice (some ⟨d, 0, none⟩) 1 1) p) w' ∧ Below w.heap.size w w'
/-- It stays so as long as the blocks from lo on stay. -/
def KPL (lo : Nat) (R : World → Prop) (w : World) : Prop := KP lo w.heap.size R w
theorem KPL.below {lo : Nat} {R : World → Prop} {w w' : World} (h : KPL lo R w) (hb : Below w.heap.size w w') : KPL lo R w' := (KP.below h hb).wide (Nat.le_refl _) hb.size (Nat.le_refl _)
theorem KP.imp {Q P : Nat} {R R' : World → Prop} {w : World} (h : KP Q P R w) (f : ∀ w', R w' → R' w') : KP Q P R' w := ⟨h.1, fun w' h1 h2 => f w' (h.2 w' h1 h2)⟩
theorem KP.and {Q P : Nat} {R R' : World → Prop} {w : World} (h : KP Q P R w) (h' : KP Q P R' w) : KP Q P (fun w' => R w' ∧ R' w') w := ⟨h.1, fun w' h1 h2 => ⟨h.2 w' h1 h2, h'.2 w' h1 h2⟩⟩
theorem KPL.ints {lo : Nat} (w : World) (h : lo ≤ w.heap.size) (zs : List Int) (t : TypeId) : KPL lo (fun W => InI W.heap.size W (.slice (some ⟨w.heap.size, 0, none⟩) zs.length zs.length) zs) (w.alloc (.cells (zs.map (Value.int .i64)).toArray t)) :=
  KP.imp (kp_ints (Q := lo) (ints_spot w _ rfl zs t) (Nat.le_refl _) (by rintro a ⟨⟩; exact ⟨h, by simp⟩)) fun w' h' => InI.of h' (fun e => by cases e) (Nat.le_refl _)
theorem KPL.cell {lo b i : Nat} {w : World} {v : Value} (hb : lo ≤ b) (h : w.cell? ⟨b, i, none⟩ = some v) : KPL lo (fun W => W.cell? ⟨b, i, none⟩ = some v ∧ b < W.heap.size) w :=
  ⟨Nat.le_refl _, fun w' hs he => by
    have hl := World.block_lt_of_cell? w _ h
    exact ⟨by rw [World.cell?_of_block (a := ⟨b, i, none⟩) (he b hb hl)]; exact h, Nat.lt_of_lt_of_le hl hs⟩⟩

/-- One base, one image. -/
def One (W : World) (lo b i d : Nat) (H y : Int) : Prop := (W.cell? ⟨b, 0, none⟩ = some (.slice (some ⟨i, 0, none⟩) 1 1) ∧ W.cell? ⟨i, 0, none⟩ = some (.int .i64 H) ∧ W.cell? ⟨d, 0, none⟩ = some (.int .i64 y)) ∧ lo ≤ b ∧ lo ≤ i ∧ lo ≤ d
theorem One.kp {W : World} {lo b i d : Nat} {H y : Int} (h : One W lo b i d H y) : KP lo W.heap.size (fun W' => LinAt W' (.slice (some ⟨b, 0, none⟩) 1 1) (.slice (some ⟨d, 0, none⟩) 1 1) ([[H]], [y])) W := by
  refine ⟨Nat.le_refl _, fun w2 hs2 he => ?_⟩
  have tr : ∀ (b i : Nat) (v : Value), lo ≤ b → W.cell? ⟨b, i, none⟩ = some v → w2.cell? ⟨b, i, none⟩ = some v ∧ b < w2.heap.size := fun b i v h1 h => by
    have hb := World.block_lt_of_cell? W _ h
    exact ⟨by rw [World.cell?_of_block (a := ⟨b, i, none⟩) (he b h1 hb)]; exact h, Nat.lt_of_lt_of_le hb hs2⟩
  obtain ⟨⟨h1, h2, h3⟩, l1, l2, l3⟩ := h
  have k1 := tr _ _ _ l1 h1
  have k2 := (tr _ _ _ l2 h2).1
  have k3 := (tr _ _ _ l3 h3).1
  refine ⟨⟨Nat.le_refl _, some ⟨b, 0, none⟩, 1, rfl, (fun h => by cases h), .inr ⟨b, 0, rfl, k1.2, k1.2, fun i z hz => ?_⟩⟩, one_in k3⟩
  match i, hz with
  | 0, hz =>
    simp only [List.getElem?_cons_zero, Option.some.injEq] at hz
    subst hz
    exact ⟨_, k1.1, one_in k2⟩

set_option maxRecDepth 100000 in
set_option maxHeartbeats 3200000 in
theorem minus_any (P Q G c k : Int) (hg : goodB P Q G = true) (hc : elB P Q c = true) (hk : 0 ≤ k ∧ k < Q) (w : World) :
    Calls Try.prog 175 #[gv P Q G, .int .i64 c, .int .i64 k] w fun e w' => e = .returned (.int .i64 (decW P Q G c k)) ∧ Below w.heap.size w w' := by
  have G_0 := Lib.hid (gr_at w (w.heap.size) (by simp) P Q G 24)
  have HB_0 := Lib.hid (show Below w.heap.size w (w.alloc (.cells #[.int .i64 P, .int .i64 Q, .int .i64 G] 24)) from ba _ _)
  have hmo := good_mo hg
  have hP := hmo.1
  have hQ9 := (good_rng hg).2.1.2
  have hG := good_el hg
  have HGr := Lib.hid (el_rng hG)
  have HCr := Lib.hid (el_rng hc)
  have HPr := Lib.hid (pow_lt G k P hP.1)
  have hpe := el_pow hg hG hk.1
  have hiv := inv_el hg hpe
  have hir := pow_lt (Num.pow G k P) (Q - 1) P hP.1
  have HOK := Lib.hid hiv.1
  have HIV := Lib.hid (show c * Num.inv (Num.pow G k P) P % P = decW P Q G c k by rw [hiv.2]; rfl)
  have HI := Lib.hid (show 0 ≤ Num.inv (Num.pow G k P) P ∧ Num.inv (Num.pow G k P) P < P by rw [hiv.2]; exact hir)
  clear hg hc hmo hG hpe hiv hir
  obtain ⟨gG0, gG1, gG2⟩ := G_0.out
  go_enter Try.func175, Try.ntmps175
  go_wp2_with fail
  clear gG0 gG1 gG2
  generalize hW9 : w.alloc (.cells #[.int .i64 P, .int .i64 Q, .int .i64 G] 24) = v0 at *
  clear hW9
  have hbd : Below v0.heap.size v0 v0.drew := (Below.refl _ v0).drew
  have HB_s := Lib.hid (bt HB_0.out hbd)
  have G_s := Lib.hid (G_0.out.below hbd)
  clear hbd
  refine wp_region_held_drew (S := (fun w' => w'.cell? ⟨w.heap.size, 0, none⟩ = some (.int .i64 P) ∧ w'.cell? ⟨w.heap.size, 1, none⟩ = some (.int .i64 Q) ∧ w'.cell? ⟨w.heap.size, 2, none⟩ = some (.int .i64 G))) (by kernel_rfl) (show _ from ⟨G_0.out.1, G_0.out.2.1, G_0.out.2.2⟩) (fun hHeld => ?_)
  generalize hW0 : v0.drew = Ws at *
  clear hW0
  refine wpAnyH_take (i := 0) (v := ?_) rfl (by kernel_rfl) (by kernel_rfl) (by kernel_rfl) (fun _ _ _ h => h) (Or.inl ⟨by kernel_rfl, ?_⟩) (by assumption) ?_
  rotate_left 1
  · intro w9 hSw
    try dsimp only at hSw
    go_simp
    try with_reducible rfl
  try simp only [Act.put, List.getElem_toArray, List.getElem_cons_succ, List.getElem_cons_zero, List.setIfInBounds_toArray, List.set_cons_zero, List.set_cons_succ]
  refine wpAnyH_take (i := 1) (v := ?_) rfl (by kernel_rfl) (by kernel_rfl) (by kernel_rfl) (fun _ _ _ h => h) (Or.inl ⟨by kernel_rfl, ?_⟩) (by assumption) ?_
  rotate_left 1
  · intro w9 hSw
    try dsimp only at hSw
    go_simp
    try with_reducible rfl
  try simp only [Act.put, List.getElem_toArray, List.getElem_cons_succ, List.getElem_cons_zero, List.setIfInBounds_toArray, List.set_cons_zero, List.set_cons_succ]
  refine wpAnyH_take (i := 2) (v := ?_) rfl (by kernel_rfl) (by kernel_rfl) (by kernel_rfl) (fun _ _ _ h => h) (Or.inl ⟨by kernel_rfl, ?_⟩) (by assumption) ?_
  rotate_left 1
  · intro w9 hSw
    try dsimp only at hSw
    go_simp
    try with_reducible rfl
  try simp only [Act.put, List.getElem_toArray, List.getElem_cons_succ, List.getElem_cons_zero, List.setIfInBounds_toArray, List.set_cons_zero, List.set_cons_succ]
  refine wpAnyH_take (i := 3) (v := ?_) rfl (by kernel_rfl) (by kernel_rfl) (by kernel_rfl) (fun _ _ _ h => h) (Or.inl ⟨by kernel_rfl, ?_⟩) (by assumption) ?_
  rotate_left 1
  · intro w9 hSw
    try dsimp only at hSw
    go_simp
    try with_reducible rfl
  try simp only [Act.put, List.getElem_toArray, List.getElem_cons_succ, List.getElem_cons_zero, List.setIfInBounds_toArray, List.set_cons_zero, List.set_cons_succ]
  refine wpAnyH_take (i := 4) (v := ?_) rfl (by kernel_rfl) (by kernel_rfl) (by kernel_rfl) (fun _ _ _ h => h) (Or.inl ⟨by kernel_rfl, ?_⟩) (by assumption) ?_
  rotate_left 1
  · intro w9 hSw
    try dsimp only at hSw
    go_simp
    try with_reducible rfl
  try simp only [Act.put, List.getElem_toArray, List.getElem_cons_succ, List.getElem_cons_zero, List.setIfInBounds_toArray, List.set_cons_zero, List.set_cons_succ]
  refine wpAnyH_take (i := 5) (v := ?_) rfl (by kernel_rfl) (by kernel_rfl) (by kernel_rfl) (fun _ _ _ h => h) (Or.inl ⟨by kernel_rfl, ?_⟩) (by assumption) ?_
  rotate_left 1
  · intro w9 hSw
    try dsimp only at hSw
    go_simp
    try with_reducible rfl
  try simp only [Act.put, List.getElem_toArray, List.getElem_cons_succ, List.getElem_cons_zero, List.setIfInBounds_toArray, List.set_cons_zero, List.set_cons_succ]
  refine wpAnyH_take (i := 6) (v := ?_) rfl (by kernel_rfl) (by kernel_rfl) (by kernel_rfl) (fun _ _ _ h => h) (Or.inl ⟨by kernel_rfl, ?_⟩) (by assumption) ?_
  rotate_left 1
  · intro w9 hSw
    try dsimp only at hSw
    go_simp
    try with_reducible rfl
  try simp only [Act.put, List.getElem_toArray, List.getElem_cons_succ, List.getElem_cons_zero, List.setIfInBounds_toArray, List.set_cons_zero, List.set_cons_succ]
  refine wpAnyH_ready (rs := [7]) (by kernel_rfl) (by simp) ?_
  refine AllReadyH.cons rfl (fun K hK => ?_) (AllReadyH.nil)
  go_simp
  go_at_call 102
  refine (power_any P Q G G k HGr.out.1 (by have := HGr.out.2; omega) hk.1 (by omega) hP.1 hP.2 _).mono ?_
  rintro e' Wsh ⟨rfl, hb⟩
  have HB_sh := Lib.hid (bt HB_s.out hb)
  have G_sh := Lib.hid (G_s.out.below hb)
  clear hb
  go_wp2_with fail
  refine hK.out _ _ (show _ from ⟨G_sh.out.1, G_sh.out.2.1, G_sh.out.2.2⟩) (fun hHeld => ?_)
  clear hK K
  try simp only [Act.put, List.getElem_toArray, List.getElem_cons_succ, List.getElem_cons_zero, List.setIfInBounds_toArray, List.set_cons_zero, List.set_cons_succ]
  refine wpAnyH_ready (rs := [8]) (by kernel_rfl) (by simp) ?_
  refine AllReadyH.cons rfl (fun K hK => ?_) (AllReadyH.nil)
  go_simp
  go_at_call 158
  refine (ediv_any P c (Num.pow G k P) hP.1 hP.2 HCr.out.1 HCr.out.2 HPr.out.1 HPr.out.2 HOK.out HI.out.1 HI.out.2 _).mono ?_
  rw [HIV.out]
  rintro e' w' ⟨rfl, rfl⟩
  go_wp2_with fail
  refine hK.out _ _ (show _ from ⟨G_sh.out.1, G_sh.out.2.1, G_sh.out.2.2⟩) (fun hHeld => ?_)
  clear hK K
  try simp only [Act.put, List.getElem_toArray, List.getElem_cons_succ, List.getElem_cons_zero, List.setIfInBounds_toArray, List.set_cons_zero, List.set_cons_succ]
  refine wpAnyH_take (i := 9) (v := ?_) rfl (by kernel_rfl) (by kernel_rfl) (by kernel_rfl) (fun _ _ _ h => h) (Or.inl ⟨by kernel_rfl, ?_⟩) (by assumption) ?_
  rotate_left 1
  · intro w9 hSw
    try dsimp only at hSw
    go_simp
    try with_reducible rfl
  try simp only [Act.put, List.getElem_toArray, List.getElem_cons_succ, List.getElem_cons_zero, List.setIfInBounds_toArray, List.set_cons_zero, List.set_cons_succ]
  refine wpAnyH_done (by kernel_rfl) ?_ _
  go_wp2
  go_ret
  exact ⟨rfl, HB_sh.out⟩

theorem One.below {W W' : World} {lo b i d : Nat} {H y : Int} (h : One W lo b i d H y) (hb : Below W.heap.size W W') : One W' lo b i d H y := ⟨⟨cellUp hb h.1.1, cellUp hb h.1.2.1, cellUp hb h.1.2.2⟩, h.2⟩
def C1a (W : World) (lo b : Nat) (x : Int) : Prop := W.cell? ⟨b, 0, none⟩ = some (.int .i64 x) ∧ lo ≤ b
theorem C1a.below {W W' : World} {lo b : Nat} {x : Int} (h : C1a W lo b x) (hb : Below W.heap.size W W') : C1a W' lo b x := ⟨cellUp hb h.1, h.2⟩
def C2a (W : World) (lo b i : Nat) (x : Int) : Prop := (W.cell? ⟨b, 0, none⟩ = some (.slice (some ⟨i, 0, none⟩) 1 1) ∧ W.cell? ⟨i, 0, none⟩ = some (.int .i64 x)) ∧ lo ≤ b ∧ lo ≤ i
theorem C2a.below {W W' : World} {lo b i : Nat} {x : Int} (h : C2a W lo b i x) (hb : Below W.heap.size W W') : C2a W' lo b i x := ⟨⟨cellUp hb h.1.1, cellUp hb h.1.2⟩, h.2⟩
theorem mid_d2 {w w' : World} {b A B : Nat} {x y : Value} (h : D2 w b x y) (hm : Mid A B w w') (ho : b < A ∨ B ≤ b) : D2 w' b x y := by
  have hl := h.lt
  exact ⟨by rw [World.cell?_of_block (a := ⟨b, 0, none⟩) (hm.block b hl ho)]; exact h.1, by rw [World.cell?_of_block (a := ⟨b, 1, none⟩) (hm.block b hl ho)]; exact h.2⟩

set_option maxRecDepth 100000 in
set_option maxHeartbeats 3200000 in
theorem hides_any (P Q G H c k : Int) (hg : goodB P Q G = true) (hc : elB P Q c = true) (hk : 0 ≤ k ∧ k < Q) {B : Nat} {y : Value} {hs : List Int} {w : World} (hy : InI B w y hs) :
    Calls Try.prog 147 #[gv P Q G, .agg #[.int .i64 H, y], .int .i64 c, .int .i64 k] w (HidOut w ([[H]], [decW P Q G c k])) := by
  obtain ⟨ya, yc, rfl⟩ := hy.shape
  have G_0 := Lib.hid ((gr_at w (w.heap.size) (by simp) P Q G 24).below (ba (w.alloc (.cells #[.int .i64 P, .int .i64 Q, .int .i64 G] 24)) (.cells #[.int .i64 H, .slice ya hs.length yc] 53)))
  have V_0 := Lib.hid (d2_at (w.alloc (.cells #[.int .i64 P, .int .i64 Q, .int .i64 G] 24)) (w.heap.size + 1) (by simp) (.int .i64 H) (.slice ya hs.length yc) 53)
  have HB_0 := Lib.hid (show Below w.heap.size w ((w.alloc (.cells #[.int .i64 P, .int .i64 Q, .int .i64 G] 24)).alloc (.cells #[.int .i64 H, .slice ya hs.length yc] 53)) from bt (ba _ _) (ba _ _))
  have Y_0 := Lib.hid (hy.below HB_0.out)
  clear hy
  have hz := z2_at ((w.alloc (.cells #[.int .i64 P, .int .i64 Q, .int .i64 G] 24)).alloc (.cells #[.int .i64 H, .slice ya hs.length yc] 53)) (w.heap.size + 2) (by simp) (.slice none 0 0) (.slice none 0 0) 160
  have hal := ba ((w.alloc (.cells #[.int .i64 P, .int .i64 Q, .int .i64 G] 24)).alloc (.cells #[.int .i64 H, .slice ya hs.length yc] 53)) (.cells #[.slice none 0 0, .slice none 0 0] 160)
  have HB_1 := Lib.hid (bt HB_0.out hal)
  have G_1 := Lib.hid (G_0.out.below hal)
  have V_1 := Lib.hid (V_0.out.below hal)
  have Y_1 := Lib.hid (Y_0.out.below hal)
  have Z_1 := Lib.hid hz
  clear hz hal HB_0 G_0 V_0 Y_0
  obtain ⟨gG0, gG1, gG2⟩ := G_1.out
  obtain ⟨cV0, cV1⟩ := V_1.out
  go_enter Try.func147, Try.ntmps147
  go_wp2_with fail
  clear gG0 gG1 gG2 cV0 cV1
  generalize hW9 : ((w.alloc (.cells #[.int .i64 P, .int .i64 Q, .int .i64 G] 24)).alloc (.cells #[.int .i64 H, .slice ya hs.length yc] 53)).alloc (.cells #[.slice none 0 0, .slice none 0 0] 160) = v0 at *
  clear hW9
  refine wp_region_held_drew (S := (fun w' => (w'.cell? ⟨w.heap.size, 0, none⟩ = some (.int .i64 P) ∧ w'.cell? ⟨w.heap.size, 1, none⟩ = some (.int .i64 Q) ∧ w'.cell? ⟨w.heap.size, 2, none⟩ = some (.int .i64 G)) ∧ w'.cell? ⟨w.heap.size + 1, 0, none⟩ = some (.int .i64 H) ∧ w'.cell? ⟨w.heap.size + 1, 1, none⟩ = some (.slice ya hs.length yc))) (by kernel_rfl) (show _ from ⟨⟨G_1.out.1, G_1.out.2.1, G_1.out.2.2⟩, V_1.out.1, V_1.out.2⟩) (fun hHeld => ?_)
  refine wpAnyH_take (i := 0) (v := ?_) rfl (by kernel_rfl) (by kernel_rfl) (by kernel_rfl) (fun _ _ _ h => h) (Or.inl ⟨by kernel_rfl, ?_⟩) (by assumption) ?_
  rotate_left 1
  · intro w9 hSw
    try dsimp only at hSw
    go_simp
    try with_reducible rfl
  try simp only [Act.put, List.getElem_toArray, List.getElem_cons_succ, List.getElem_cons_zero, List.setIfInBounds_toArray, List.set_cons_zero, List.set_cons_succ]
  refine wpAnyH_take (i := 1) (v := ?_) rfl (by kernel_rfl) (by kernel_rfl) (by kernel_rfl) (fun _ _ _ h => h) (Or.inl ⟨by kernel_rfl, ?_⟩) (by assumption) ?_
  rotate_left 1
  · intro w9 hSw
    try dsimp only at hSw
    go_simp
    try with_reducible rfl
  try simp only [Act.put, List.getElem_toArray, List.getElem_cons_succ, List.getElem_cons_zero, List.setIfInBounds_toArray, List.set_cons_zero, List.set_cons_succ]
  refine wpAnyH_take (i := 4) (v := ?_) rfl (by kernel_rfl) (by kernel_rfl) (by kernel_rfl) (fun _ _ _ h => h) (Or.inl ⟨by kernel_rfl, ?_⟩) (by assumption) ?_
  rotate_left 1
  · intro w9 hSw
    try dsimp only at hSw
    go_simp
    try with_reducible rfl
  try simp only [Act.put, List.getElem_toArray, List.getElem_cons_succ, List.getElem_cons_zero, List.setIfInBounds_toArray, List.set_cons_zero, List.set_cons_succ]
  refine wpAnyH_take (i := 5) (v := ?_) rfl (by kernel_rfl) (by kernel_rfl) (by kernel_rfl) (fun _ _ _ h => h) (Or.inl ⟨by kernel_rfl, ?_⟩) (by assumption) ?_
  rotate_left 1
  · intro w9 hSw
    try dsimp only at hSw
    go_simp
    try with_reducible rfl
  try simp only [Act.put, List.getElem_toArray, List.getElem_cons_succ, List.getElem_cons_zero, List.setIfInBounds_toArray, List.set_cons_zero, List.set_cons_succ]
  refine wpAnyH_take (i := 6) (v := ?_) rfl (by kernel_rfl) (by kernel_rfl) (by kernel_rfl) (fun _ _ _ h => h) (Or.inl ⟨by kernel_rfl, ?_⟩) (by assumption) ?_
  rotate_left 1
  · intro w9 hSw
    try dsimp only at hSw
    go_simp
    try with_reducible rfl
  try simp only [Act.put, List.getElem_toArray, List.getElem_cons_succ, List.getElem_cons_zero, List.setIfInBounds_toArray, List.set_cons_zero, List.set_cons_succ]
  have hB0 : (fun w1 => (Below w.heap.size w w1) ∧ (GR w1 w.heap.size P Q G) ∧ (D2 w1 (w.heap.size + 1) (.int .i64 H) (.slice ya hs.length yc)) ∧ (InI B w1 (.slice ya hs.length yc) hs) ∧ (Z2 w1 (w.heap.size + 2) (.slice none 0 0) (.slice none 0 0))) v0.drew := ⟨HB_1.out.drew, G_1.out.drew, V_1.out.drew, Y_1.out.dr, Z_1.out.drew⟩
  refine wpAnyH_part (V := fun i u w1 => cond (Nat.beq i 2) (∃ (b2 : Nat), u = .slice (some ⟨b2, 0, none⟩) 1 1 ∧ (C1a w1 (w.heap.size + 3) b2 H)) (cond (Nat.beq i 3) (∃ (b3 : Nat) (i3 : Nat), u = .slice (some ⟨b3, 0, none⟩) 1 1 ∧ (C2a w1 (w.heap.size + 3) b3 i3 H)) (cond (Nat.beq i 7) (u = .int .i64 (decW P Q G c k)) (cond (Nat.beq i 8) (∃ (b8 : Nat), u = .slice (some ⟨b8, 0, none⟩) 1 1 ∧ (C1a w1 (w.heap.size + 3) b8 (decW P Q G c k))) (cond (Nat.beq i 9) (∃ (b : Nat) (i : Nat) (d : Nat), u = .agg #[.slice (some ⟨b, 0, none⟩) 1 1, .slice (some ⟨d, 0, none⟩) 1 1] ∧ (One w1 (w.heap.size + 3) b i d H (decW P Q G c k))) (True)))))) (B := fun w1 => (Below w.heap.size w w1) ∧ (GR w1 w.heap.size P Q G) ∧ (D2 w1 (w.heap.size + 1) (.int .i64 H) (.slice ya hs.length yc)) ∧ (InI B w1 (.slice ya hs.length yc) hs) ∧ (Z2 w1 (w.heap.size + 2) (.slice none 0 0) (.slice none 0 0))) (R := fun w1 w2 => Below w1.heap.size w1 w2) 1 (rs := [2, 3, 7, 8, 9]) (ds := [(2, some 11), (3, some 12), (7, some 16), (8, some 17), (9, some 18)]) (by kernel_rfl) (by kernel_rfl) (by kernel_rfl) (by kernel_rfl) (by kernel_rfl) ?_ ?_ ?_ hB0 ?_ ?_
  · intro w1 w2 hB hR
    clear hB0
    obtain ⟨b_HBb, b_Gb, b_Vb, b_Yb, b_Zb⟩ := hB
    exact ⟨bt b_HBb hR, b_Gb.below hR, b_Vb.below hR, b_Yb.below hR, b_Zb.below hR⟩
  · clear hB0
    refine Last.cons (fun u w1 w2 hB h hR => ?_) ?_
    · have h1 : ∃ (b2 : Nat), u = .slice (some ⟨b2, 0, none⟩) 1 1 ∧ (C1a w1 (w.heap.size + 3) b2 H) := h
      show ∃ (b2 : Nat), u = .slice (some ⟨b2, 0, none⟩) 1 1 ∧ (C1a w2 (w.heap.size + 3) b2 H)
      obtain ⟨b2, e, f0⟩ := h1
      exact ⟨b2, e, f0.below hR⟩
    refine Last.cons (fun u w1 w2 hB h hR => ?_) ?_
    · have h1 : ∃ (b3 : Nat) (i3 : Nat), u = .slice (some ⟨b3, 0, none⟩) 1 1 ∧ (C2a w1 (w.heap.size + 3) b3 i3 H) := h
      show ∃ (b3 : Nat) (i3 : Nat), u = .slice (some ⟨b3, 0, none⟩) 1 1 ∧ (C2a w2 (w.heap.size + 3) b3 i3 H)
      obtain ⟨b3, i3, e, f0⟩ := h1
      exact ⟨b3, i3, e, f0.below hR⟩
    refine Last.cons (fun u w1 w2 hB h hR => ?_) ?_
    · have h1 : u = .int .i64 (decW P Q G c k) := h
      show u = .int .i64 (decW P Q G c k)
      exact h1
    refine Last.cons (fun u w1 w2 hB h hR => ?_) ?_
    · have h1 : ∃ (b8 : Nat), u = .slice (some ⟨b8, 0, none⟩) 1 1 ∧ (C1a w1 (w.heap.size + 3) b8 (decW P Q G c k)) := h
      show ∃ (b8 : Nat), u = .slice (some ⟨b8, 0, none⟩) 1 1 ∧ (C1a w2 (w.heap.size + 3) b8 (decW P Q G c k))
      obtain ⟨b8, e, f0⟩ := h1
      exact ⟨b8, e, f0.below hR⟩
    refine Last.cons (fun u w1 w2 hB h hR => ?_) ?_
    · have h1 : ∃ (b : Nat) (i : Nat) (d : Nat), u = .agg #[.slice (some ⟨b, 0, none⟩) 1 1, .slice (some ⟨d, 0, none⟩) 1 1] ∧ (One w1 (w.heap.size + 3) b i d H (decW P Q G c k)) := h
      show ∃ (b : Nat) (i : Nat) (d : Nat), u = .agg #[.slice (some ⟨b, 0, none⟩) 1 1, .slice (some ⟨d, 0, none⟩) 1 1] ∧ (One w2 (w.heap.size + 3) b i d H (decW P Q G c k))
      obtain ⟨b, i, d, e, f0⟩ := h1
      exact ⟨b, i, d, e, f0.below hR⟩
    exact Last.nil
  · intro w1 hB
    clear hB0
    obtain ⟨b_HBb, b_Gb, b_Vb, b_Yb, b_Zb⟩ := hB
    have HBb := Lib.hid (show Below w.heap.size w w1 from b_HBb)
    have Gb := Lib.hid (show GR w1 w.heap.size P Q G from b_Gb)
    have Vb := Lib.hid (show D2 w1 (w.heap.size + 1) (.int .i64 H) (.slice ya hs.length yc) from b_Vb)
    have Yb := Lib.hid (show InI B w1 (.slice ya hs.length yc) hs from b_Yb)
    have Zb := Lib.hid (show Z2 w1 (w.heap.size + 2) (.slice none 0 0) (.slice none 0 0) from b_Zb)
    clear b_HBb b_Gb b_Vb b_Yb b_Zb
    exact ⟨⟨Gb.out.1, Gb.out.2.1, Gb.out.2.2⟩, Vb.out.1, Vb.out.2⟩
  · clear hB0 hHeld
    refine Steps.cons rfl (js := []) (by kernel_rfl) rfl (fun v W1 hB hF Q9 K hK => ?_) ?_
    · obtain ⟨b_HBb, b_Gb, b_Vb, b_Yb, b_Zb⟩ := hB
      have HBb := Lib.hid (show Below w.heap.size w W1 from b_HBb)
      have Gb := Lib.hid (show GR W1 w.heap.size P Q G from b_Gb)
      have Vb := Lib.hid (show D2 W1 (w.heap.size + 1) (.int .i64 H) (.slice ya hs.length yc) from b_Vb)
      have Yb := Lib.hid (show InI B W1 (.slice ya hs.length yc) hs from b_Yb)
      have Zb := Lib.hid (show Z2 W1 (w.heap.size + 2) (.slice none 0 0) (.slice none 0 0) from b_Zb)
      clear b_HBb b_Gb b_Vb b_Yb b_Zb
      clear hF
      refine ⟨?_⟩
      simp only [putAll, Act.put, List.setIfInBounds_toArray, List.set_cons_succ, List.set_cons_zero]
      go_simp
      have hk := hK.out
      simp only [putAll, Act.put, List.setIfInBounds_toArray, List.set_cons_succ, List.set_cons_zero] at hk
      refine hk _ _ ?_ ?_
      · show ∃ (b2 : Nat), (_ : Value) = .slice (some ⟨b2, 0, none⟩) 1 1 ∧ (C1a (W1.alloc (.cells #[.int .i64 H] 3)) (w.heap.size + 3) b2 H)
        exact ⟨_, rfl, cell_here W1 _ 0 rfl _ _ _ rfl, Zb.out.lt⟩
      · exact (ba _ _)
    refine Steps.cons rfl (js := [2]) (by kernel_rfl) rfl (fun v W1 hB hF Q9 K hK => ?_) ?_
    · obtain ⟨b_HBb, b_Gb, b_Vb, b_Yb, b_Zb⟩ := hB
      have HBb := Lib.hid (show Below w.heap.size w W1 from b_HBb)
      have Gb := Lib.hid (show GR W1 w.heap.size P Q G from b_Gb)
      have Vb := Lib.hid (show D2 W1 (w.heap.size + 1) (.int .i64 H) (.slice ya hs.length yc) from b_Vb)
      have Yb := Lib.hid (show InI B W1 (.slice ya hs.length yc) hs from b_Yb)
      have Zb := Lib.hid (show Z2 W1 (w.heap.size + 2) (.slice none 0 0) (.slice none 0 0) from b_Zb)
      clear b_HBb b_Gb b_Vb b_Yb b_Zb
      have hf2 : ∃ (b2 : Nat), v 2 = .slice (some ⟨b2, 0, none⟩) 1 1 ∧ (C1a W1 (w.heap.size + 3) b2 H) := hF.1
      obtain ⟨b2, e2, f2_0⟩ := hf2
      have E2 := Lib.hid e2
      have H2 := Lib.hid (show C1a W1 (w.heap.size + 3) b2 H from f2_0)
      clear e2 f2_0
      clear hF
      refine ⟨?_⟩
      simp only [putAll, Act.put, List.setIfInBounds_toArray, List.set_cons_succ, List.set_cons_zero, E2.out]
      go_simp
      have hk := hK.out
      simp only [putAll, Act.put, List.setIfInBounds_toArray, List.set_cons_succ, List.set_cons_zero, E2.out] at hk
      refine hk _ _ ?_ ?_
      · show ∃ (b3 : Nat) (i3 : Nat), (_ : Value) = .slice (some ⟨b3, 0, none⟩) 1 1 ∧ (C2a (W1.alloc (.cells #[.slice (some ⟨b2, 0, none⟩) 1 1] 25)) (w.heap.size + 3) b3 i3 H)
        exact ⟨_, b2, rfl, ⟨cell_here W1 _ 0 rfl _ _ _ rfl, cell_up H2.out.1 _⟩, Zb.out.lt, H2.out.2⟩
      · exact (ba _ _)
    refine Steps.cons rfl (js := []) (by kernel_rfl) rfl (fun v W1 hB hF Q9 K hK => ?_) ?_
    · obtain ⟨b_HBb, b_Gb, b_Vb, b_Yb, b_Zb⟩ := hB
      have HBb := Lib.hid (show Below w.heap.size w W1 from b_HBb)
      have Gb := Lib.hid (show GR W1 w.heap.size P Q G from b_Gb)
      have Vb := Lib.hid (show D2 W1 (w.heap.size + 1) (.int .i64 H) (.slice ya hs.length yc) from b_Vb)
      have Yb := Lib.hid (show InI B W1 (.slice ya hs.length yc) hs from b_Yb)
      have Zb := Lib.hid (show Z2 W1 (w.heap.size + 2) (.slice none 0 0) (.slice none 0 0) from b_Zb)
      clear b_HBb b_Gb b_Vb b_Yb b_Zb
      clear hF
      refine ⟨?_⟩
      simp only [putAll, Act.put, List.setIfInBounds_toArray, List.set_cons_succ, List.set_cons_zero]
      go_simp
      go_at_call 175
      refine (minus_any P Q G c k hg hc hk _).mono ?_
      rintro e' W2 ⟨rfl, hb⟩
      go_wp2_with fail
      have hk := hK.out
      simp only [putAll, Act.put, List.setIfInBounds_toArray, List.set_cons_succ, List.set_cons_zero] at hk
      refine hk _ _ ?_ ?_
      · show (_ : Value) = .int .i64 (decW P Q G c k)
        exact rfl
      · exact hb
    refine Steps.cons rfl (js := [7]) (by kernel_rfl) rfl (fun v W1 hB hF Q9 K hK => ?_) ?_
    · obtain ⟨b_HBb, b_Gb, b_Vb, b_Yb, b_Zb⟩ := hB
      have HBb := Lib.hid (show Below w.heap.size w W1 from b_HBb)
      have Gb := Lib.hid (show GR W1 w.heap.size P Q G from b_Gb)
      have Vb := Lib.hid (show D2 W1 (w.heap.size + 1) (.int .i64 H) (.slice ya hs.length yc) from b_Vb)
      have Yb := Lib.hid (show InI B W1 (.slice ya hs.length yc) hs from b_Yb)
      have Zb := Lib.hid (show Z2 W1 (w.heap.size + 2) (.slice none 0 0) (.slice none 0 0) from b_Zb)
      clear b_HBb b_Gb b_Vb b_Yb b_Zb
      have hf7 : v 7 = .int .i64 (decW P Q G c k) := hF.1
      have e7 := hf7
      have E7 := Lib.hid e7
      clear e7 hf7
      clear hF
      refine ⟨?_⟩
      simp only [putAll, Act.put, List.setIfInBounds_toArray, List.set_cons_succ, List.set_cons_zero, E7.out]
      go_simp
      have hk := hK.out
      simp only [putAll, Act.put, List.setIfInBounds_toArray, List.set_cons_succ, List.set_cons_zero, E7.out] at hk
      refine hk _ _ ?_ ?_
      · show ∃ (b8 : Nat), (_ : Value) = .slice (some ⟨b8, 0, none⟩) 1 1 ∧ (C1a (W1.alloc (.cells #[.int .i64 (decW P Q G c k)] 3)) (w.heap.size + 3) b8 (decW P Q G c k))
        exact ⟨_, rfl, cell_here W1 _ 0 rfl _ _ _ rfl, Zb.out.lt⟩
      · exact (ba _ _)
    refine Steps.cons rfl (js := [3, 8]) (by kernel_rfl) rfl (fun v W1 hB hF Q9 K hK => ?_) ?_
    · obtain ⟨b_HBb, b_Gb, b_Vb, b_Yb, b_Zb⟩ := hB
      have HBb := Lib.hid (show Below w.heap.size w W1 from b_HBb)
      have Gb := Lib.hid (show GR W1 w.heap.size P Q G from b_Gb)
      have Vb := Lib.hid (show D2 W1 (w.heap.size + 1) (.int .i64 H) (.slice ya hs.length yc) from b_Vb)
      have Yb := Lib.hid (show InI B W1 (.slice ya hs.length yc) hs from b_Yb)
      have Zb := Lib.hid (show Z2 W1 (w.heap.size + 2) (.slice none 0 0) (.slice none 0 0) from b_Zb)
      clear b_HBb b_Gb b_Vb b_Yb b_Zb
      have hf3 : ∃ (b3 : Nat) (i3 : Nat), v 3 = .slice (some ⟨b3, 0, none⟩) 1 1 ∧ (C2a W1 (w.heap.size + 3) b3 i3 H) := hF.1
      obtain ⟨b3, i3, e3, f3_0⟩ := hf3
      have E3 := Lib.hid e3
      have H3 := Lib.hid (show C2a W1 (w.heap.size + 3) b3 i3 H from f3_0)
      clear e3 f3_0
      have hf8 : ∃ (b8 : Nat), v 8 = .slice (some ⟨b8, 0, none⟩) 1 1 ∧ (C1a W1 (w.heap.size + 3) b8 (decW P Q G c k)) := hF.2.1
      obtain ⟨b8, e8, f8_0⟩ := hf8
      have E8 := Lib.hid e8
      have H8 := Lib.hid (show C1a W1 (w.heap.size + 3) b8 (decW P Q G c k) from f8_0)
      clear e8 f8_0
      clear hF
      refine ⟨?_⟩
      simp only [putAll, Act.put, List.setIfInBounds_toArray, List.set_cons_succ, List.set_cons_zero, E3.out, E8.out]
      go_simp
      have hk := hK.out
      simp only [putAll, Act.put, List.setIfInBounds_toArray, List.set_cons_succ, List.set_cons_zero, E3.out, E8.out] at hk
      refine hk _ _ ?_ ?_
      · show ∃ (b : Nat) (i : Nat) (d : Nat), (_ : Value) = .agg #[.slice (some ⟨b, 0, none⟩) 1 1, .slice (some ⟨d, 0, none⟩) 1 1] ∧ (One W1 (w.heap.size + 3) b i d H (decW P Q G c k))
        exact ⟨_, _, _, rfl, ⟨H3.out.1.1, H3.out.1.2, H8.out.1⟩, H3.out.2.1, H3.out.2.2, H8.out.2⟩
      · exact (Below.refl _ _)
    exact Steps.nil
  intro v We hB hF
  clear hB0 hHeld
  obtain ⟨b_HBb, b_Gb, b_Vb, b_Yb, b_Zb⟩ := hB
  have HBb := Lib.hid (show Below w.heap.size w We from b_HBb)
  have Gb := Lib.hid (show GR We w.heap.size P Q G from b_Gb)
  have Vb := Lib.hid (show D2 We (w.heap.size + 1) (.int .i64 H) (.slice ya hs.length yc) from b_Vb)
  have Yb := Lib.hid (show InI B We (.slice ya hs.length yc) hs from b_Yb)
  have Zb := Lib.hid (show Z2 We (w.heap.size + 2) (.slice none 0 0) (.slice none 0 0) from b_Zb)
  clear b_HBb b_Gb b_Vb b_Yb b_Zb
  have hf2 : ∃ (b2 : Nat), v 2 = .slice (some ⟨b2, 0, none⟩) 1 1 ∧ (C1a We (w.heap.size + 3) b2 H) := hF.1
  obtain ⟨b2, e2, f2_0⟩ := hf2
  have E2 := Lib.hid e2
  have H2 := Lib.hid (show C1a We (w.heap.size + 3) b2 H from f2_0)
  clear e2 f2_0
  have hf3 : ∃ (b3 : Nat) (i3 : Nat), v 3 = .slice (some ⟨b3, 0, none⟩) 1 1 ∧ (C2a We (w.heap.size + 3) b3 i3 H) := hF.2.1
  obtain ⟨b3, i3, e3, f3_0⟩ := hf3
  have E3 := Lib.hid e3
  have H3 := Lib.hid (show C2a We (w.heap.size + 3) b3 i3 H from f3_0)
  clear e3 f3_0
  have hf7 : v 7 = .int .i64 (decW P Q G c k) := hF.2.2.1
  have e7 := hf7
  have E7 := Lib.hid e7
  clear e7 hf7
  have hf8 : ∃ (b8 : Nat), v 8 = .slice (some ⟨b8, 0, none⟩) 1 1 ∧ (C1a We (w.heap.size + 3) b8 (decW P Q G c k)) := hF.2.2.2.1
  obtain ⟨b8, e8, f8_0⟩ := hf8
  have E8 := Lib.hid e8
  have H8 := Lib.hid (show C1a We (w.heap.size + 3) b8 (decW P Q G c k) from f8_0)
  clear e8 f8_0
  have hf9 : ∃ (b : Nat) (i : Nat) (d : Nat), v 9 = .agg #[.slice (some ⟨b, 0, none⟩) 1 1, .slice (some ⟨d, 0, none⟩) 1 1] ∧ (One We (w.heap.size + 3) b i d H (decW P Q G c k)) := hF.2.2.2.2.1
  obtain ⟨b, i, d, e9, f9_0⟩ := hf9
  have E9 := Lib.hid e9
  have HC := Lib.hid (show One We (w.heap.size + 3) b i d H (decW P Q G c k) from f9_0)
  clear e9 f9_0
  clear hF
  refine ⟨?_⟩
  simp only [putAll, Act.put, List.setIfInBounds_toArray, List.set_cons_succ, List.set_cons_zero, E2.out, E3.out, E7.out, E8.out, E9.out]
  refine wpAnyH_ready (rs := [10]) (by kernel_rfl) (by simp) ?_
  refine AllReadyH.cons rfl (fun K hK => ?_) AllReadyH.nil
  obtain ⟨⟨y0, y1⟩, yf0, yf1⟩ := Zb.out
  go_simp
  have hm5 := mid2 We (w.heap.size + 2) (.slice (some ⟨b, 0, none⟩) 1 1) (.slice (some ⟨d, 0, none⟩) 1 1)
  have Z9 := Zb.out.lt
  refine hK.out _ _ (show _ from ⟨⟨(Gb.out.mid hm5 (.inl (by omega))).1, (Gb.out.mid hm5 (.inl (by omega))).2.1, (Gb.out.mid hm5 (.inl (by omega))).2.2⟩, (mid_d2 Vb.out hm5 (.inl (by omega))).1, (mid_d2 Vb.out hm5 (.inl (by omega))).2⟩) (fun hHeld => ?_)
  clear hK K
  refine wpAnyH_done (by kernel_rfl) ?_ _
  go_wp2
  (try simp only [Exit.inBlock, Exit.then])
  refine bodyPost_ret (v := .agg #[.slice (some ⟨b, 0, none⟩) 1 1, .slice (some ⟨d, 0, none⟩) 1 1]) ?_ rfl ?_
  · rw [results_cell_one rfl]; go_simp
  · have hs5 := hm5.size
    exact ⟨_, _, rfl, ((HC.out.kp).mid hm5 (.inr (Nat.le_refl _))).wide (by omega) hs5 (Nat.le_refl _), HBb.out.trans (hm5.toBelow (by omega) HBb.out.size)⟩

theorem KPL.lin1 {lo g : Nat} {w : World} {v1 v2 : Value} {p : LinD} (hg : lo ≤ g) (h0 : w.cell? ⟨g, 0, none⟩ = some v1) (h1 : w.cell? ⟨g, 1, none⟩ = some v2) (hp : KPL lo (fun W => LinAt W v1 v2 p) w) :
    KPL lo (fun W => InL W (.slice (some ⟨g, 0, none⟩) 1 1) [p]) w :=
  KP.imp (((KPL.cell hg h0).and (KPL.cell hg h1)).and hp) fun w' h => ⟨g, 1, rfl, h.1.1.2, fun i q hq => by
    match i, hq with
    | 0, hq =>
      simp only [List.getElem?_cons_zero, Option.some.injEq] at hq
      subst hq
      exact ⟨v1, v2, h.1.1.1, h.1.2.1, h.2⟩⟩
theorem KPL.lin2 {lo g : Nat} {w : World} {v1 v2 v3 v4 : Value} {p q : LinD} (hg : lo ≤ g) (h0 : w.cell? ⟨g, 0, none⟩ = some v1) (h1 : w.cell? ⟨g, 1, none⟩ = some v2) (h2 : w.cell? ⟨g, 2, none⟩ = some v3) (h3 : w.cell? ⟨g, 3, none⟩ = some v4) (hp : KPL lo (fun W => LinAt W v1 v2 p) w) (hq : KPL lo (fun W => LinAt W v3 v4 q) w) :
    KPL lo (fun W => InL W (.slice (some ⟨g, 0, none⟩) 2 2) [p, q]) w :=
  KP.imp ((((KPL.cell hg h0).and (KPL.cell hg h1)).and ((KPL.cell hg h2).and (KPL.cell hg h3))).and (hp.and hq)) fun w' h => ⟨g, 2, rfl, h.1.1.1.2, fun i r hr => by
    match i, hr with
    | 0, hr =>
      simp only [List.getElem?_cons_zero, Option.some.injEq] at hr
      subst hr
      exact ⟨v1, v2, h.1.1.1.1, h.1.1.2.1, h.2.1⟩
    | 1, hr =>
      simp only [List.getElem?_cons_succ, List.getElem?_cons_zero, Option.some.injEq] at hr
      subst hr
      exact ⟨v3, v4, h.1.2.1.1, h.1.2.2.1, h.2.2⟩⟩
def ClmOut (w : World) (ps : List LinD) (es : List Int) (e : Ending) (w' : World) : Prop := ∃ v1 v2, e = .returned (.agg #[v1, v2]) ∧ KP w.heap.size w'.heap.size (fun W => InL W v1 ps ∧ ∃ B, InI B W v2 es) w' ∧ Below w.heap.size w w'

set_option maxRecDepth 100000 in
set_option maxHeartbeats 3200000 in
theorem sumOf_any (P Q G H c t : Int) (hg : goodB P Q G = true) (hc : elB P Q c = true) (ht : 0 ≤ t ∧ t < Q) {B : Nat} {y : Value} {hs : List Int} {w : World} (hy : InI B w y hs) :
    Calls Try.prog 101 #[gv P Q G, .agg #[.int .i64 H, y], .int .i64 c, .int .i64 t] w (ClmOut w [([[H]], [decW P Q G c t])] [H, c, t]) := by
  obtain ⟨ya, yc, rfl⟩ := hy.shape
  have G_0 := Lib.hid ((gr_at w (w.heap.size) (by simp) P Q G 24).below (ba (w.alloc (.cells #[.int .i64 P, .int .i64 Q, .int .i64 G] 24)) (.cells #[.int .i64 H, .slice ya hs.length yc] 53)))
  have V_0 := Lib.hid (d2_at (w.alloc (.cells #[.int .i64 P, .int .i64 Q, .int .i64 G] 24)) (w.heap.size + 1) (by simp) (.int .i64 H) (.slice ya hs.length yc) 53)
  have HB_0 := Lib.hid (show Below w.heap.size w ((w.alloc (.cells #[.int .i64 P, .int .i64 Q, .int .i64 G] 24)).alloc (.cells #[.int .i64 H, .slice ya hs.length yc] 53)) from bt (ba _ _) (ba _ _))
  have Y_0 := Lib.hid (hy.below HB_0.out)
  clear hy
  have hz := z2_at ((w.alloc (.cells #[.int .i64 P, .int .i64 Q, .int .i64 G] 24)).alloc (.cells #[.int .i64 H, .slice ya hs.length yc] 53)) (w.heap.size + 2) (by simp) (.slice none 0 0) (.slice none 0 0) 124
  have hal := ba ((w.alloc (.cells #[.int .i64 P, .int .i64 Q, .int .i64 G] 24)).alloc (.cells #[.int .i64 H, .slice ya hs.length yc] 53)) (.cells #[.slice none 0 0, .slice none 0 0] 124)
  have HB_1 := Lib.hid (bt HB_0.out hal)
  have G_1 := Lib.hid (G_0.out.below hal)
  have V_1 := Lib.hid (V_0.out.below hal)
  have Y_1 := Lib.hid (Y_0.out.below hal)
  have Z_1 := Lib.hid hz
  clear hz hal HB_0 G_0 V_0 Y_0
  obtain ⟨gG0, gG1, gG2⟩ := G_1.out
  obtain ⟨cV0, cV1⟩ := V_1.out
  go_enter Try.func101, Try.ntmps101
  go_wp2_with fail
  clear gG0 gG1 gG2 cV0 cV1
  generalize hW9 : ((w.alloc (.cells #[.int .i64 P, .int .i64 Q, .int .i64 G] 24)).alloc (.cells #[.int .i64 H, .slice ya hs.length yc] 53)).alloc (.cells #[.slice none 0 0, .slice none 0 0] 124) = v0 at *
  clear hW9
  refine wp_region_held_drew (S := (fun w' => (w'.cell? ⟨w.heap.size, 0, none⟩ = some (.int .i64 P) ∧ w'.cell? ⟨w.heap.size, 1, none⟩ = some (.int .i64 Q) ∧ w'.cell? ⟨w.heap.size, 2, none⟩ = some (.int .i64 G)) ∧ w'.cell? ⟨w.heap.size + 1, 0, none⟩ = some (.int .i64 H) ∧ w'.cell? ⟨w.heap.size + 1, 1, none⟩ = some (.slice ya hs.length yc))) (by kernel_rfl) (show _ from ⟨⟨G_1.out.1, G_1.out.2.1, G_1.out.2.2⟩, V_1.out.1, V_1.out.2⟩) (fun hHeld => ?_)
  refine wpAnyH_take (i := 0) (v := ?_) rfl (by kernel_rfl) (by kernel_rfl) (by kernel_rfl) (fun _ _ _ h => h) (Or.inl ⟨by kernel_rfl, ?_⟩) (by assumption) ?_
  rotate_left 1
  · intro w9 hSw
    try dsimp only at hSw
    go_simp
    try with_reducible rfl
  try simp only [Act.put, List.getElem_toArray, List.getElem_cons_succ, List.getElem_cons_zero, List.setIfInBounds_toArray, List.set_cons_zero, List.set_cons_succ]
  refine wpAnyH_take (i := 1) (v := ?_) rfl (by kernel_rfl) (by kernel_rfl) (by kernel_rfl) (fun _ _ _ h => h) (Or.inl ⟨by kernel_rfl, ?_⟩) (by assumption) ?_
  rotate_left 1
  · intro w9 hSw
    try dsimp only at hSw
    go_simp
    try with_reducible rfl
  try simp only [Act.put, List.getElem_toArray, List.getElem_cons_succ, List.getElem_cons_zero, List.setIfInBounds_toArray, List.set_cons_zero, List.set_cons_succ]
  refine wpAnyH_take (i := 2) (v := ?_) rfl (by kernel_rfl) (by kernel_rfl) (by kernel_rfl) (fun _ _ _ h => h) (Or.inl ⟨by kernel_rfl, ?_⟩) (by assumption) ?_
  rotate_left 1
  · intro w9 hSw
    try dsimp only at hSw
    go_simp
    try with_reducible rfl
  try simp only [Act.put, List.getElem_toArray, List.getElem_cons_succ, List.getElem_cons_zero, List.setIfInBounds_toArray, List.set_cons_zero, List.set_cons_succ]
  refine wpAnyH_take (i := 3) (v := ?_) rfl (by kernel_rfl) (by kernel_rfl) (by kernel_rfl) (fun _ _ _ h => h) (Or.inl ⟨by kernel_rfl, ?_⟩) (by assumption) ?_
  rotate_left 1
  · intro w9 hSw
    try dsimp only at hSw
    go_simp
    try with_reducible rfl
  try simp only [Act.put, List.getElem_toArray, List.getElem_cons_succ, List.getElem_cons_zero, List.setIfInBounds_toArray, List.set_cons_zero, List.set_cons_succ]
  refine wpAnyH_take (i := 6) (v := ?_) rfl (by kernel_rfl) (by kernel_rfl) (by kernel_rfl) (fun _ _ _ h => h) (Or.inl ⟨by kernel_rfl, ?_⟩) (by assumption) ?_
  rotate_left 1
  · intro w9 hSw
    try dsimp only at hSw
    go_simp
    try with_reducible rfl
  try simp only [Act.put, List.getElem_toArray, List.getElem_cons_succ, List.getElem_cons_zero, List.setIfInBounds_toArray, List.set_cons_zero, List.set_cons_succ]
  refine wpAnyH_take (i := 7) (v := ?_) rfl (by kernel_rfl) (by kernel_rfl) (by kernel_rfl) (fun _ _ _ h => h) (Or.inl ⟨by kernel_rfl, ?_⟩) (by assumption) ?_
  rotate_left 1
  · intro w9 hSw
    try dsimp only at hSw
    go_simp
    try with_reducible rfl
  try simp only [Act.put, List.getElem_toArray, List.getElem_cons_succ, List.getElem_cons_zero, List.setIfInBounds_toArray, List.set_cons_zero, List.set_cons_succ]
  refine wpAnyH_take (i := 8) (v := ?_) rfl (by kernel_rfl) (by kernel_rfl) (by kernel_rfl) (fun _ _ _ h => h) (Or.inl ⟨by kernel_rfl, ?_⟩) (by assumption) ?_
  rotate_left 1
  · intro w9 hSw
    try dsimp only at hSw
    go_simp
    try with_reducible rfl
  try simp only [Act.put, List.getElem_toArray, List.getElem_cons_succ, List.getElem_cons_zero, List.setIfInBounds_toArray, List.set_cons_zero, List.set_cons_succ]
  refine wpAnyH_take (i := 9) (v := ?_) rfl (by kernel_rfl) (by kernel_rfl) (by kernel_rfl) (fun _ _ _ h => h) (Or.inl ⟨by kernel_rfl, ?_⟩) (by assumption) ?_
  rotate_left 1
  · intro w9 hSw
    try dsimp only at hSw
    go_simp
    try with_reducible rfl
  try simp only [Act.put, List.getElem_toArray, List.getElem_cons_succ, List.getElem_cons_zero, List.setIfInBounds_toArray, List.set_cons_zero, List.set_cons_succ]
  have hB0 : (fun w1 => (Below w.heap.size w w1) ∧ (GR w1 w.heap.size P Q G) ∧ (D2 w1 (w.heap.size + 1) (.int .i64 H) (.slice ya hs.length yc)) ∧ (InI B w1 (.slice ya hs.length yc) hs) ∧ (Z2 w1 (w.heap.size + 2) (.slice none 0 0) (.slice none 0 0))) v0.drew := ⟨HB_1.out.drew, G_1.out.drew, V_1.out.drew, Y_1.out.dr, Z_1.out.drew⟩
  refine wpAnyH_part (V := fun i u w1 => cond (Nat.beq i 4) (∃ (b4 : Nat) (d4 : Nat), u = .agg #[.slice (some ⟨b4, 0, none⟩) 1 1, .slice (some ⟨d4, 0, none⟩) 1 1] ∧ (KPL (w.heap.size + 3) (fun W => LinAt W (.slice (some ⟨b4, 0, none⟩) 1 1) (.slice (some ⟨d4, 0, none⟩) 1 1) ([[H]], [decW P Q G c t])) w1)) (cond (Nat.beq i 5) (∃ (g8 : Nat), u = .slice (some ⟨g8, 0, none⟩) 1 1 ∧ (KPL (w.heap.size + 3) (fun W => InL W (.slice (some ⟨g8, 0, none⟩) 1 1) [([[H]], [decW P Q G c t])]) w1)) (cond (Nat.beq i 10) (∃ (g9 : Nat), u = .slice (some ⟨g9, 0, none⟩) 3 3 ∧ (KPL (w.heap.size + 3) (fun W => InI W.heap.size W (.slice (some ⟨g9, 0, none⟩) 3 3) [H, c, t]) w1)) (cond (Nat.beq i 11) (∃ (g : Nat) (h : Nat), u = .agg #[.slice (some ⟨g, 0, none⟩) 1 1, .slice (some ⟨h, 0, none⟩) 3 3] ∧ (KPL (w.heap.size + 3) (fun W => InL W (.slice (some ⟨g, 0, none⟩) 1 1) [([[H]], [decW P Q G c t])]) w1) ∧ (KPL (w.heap.size + 3) (fun W => InI W.heap.size W (.slice (some ⟨h, 0, none⟩) 3 3) [H, c, t]) w1)) (True))))) (B := fun w1 => (Below w.heap.size w w1) ∧ (GR w1 w.heap.size P Q G) ∧ (D2 w1 (w.heap.size + 1) (.int .i64 H) (.slice ya hs.length yc)) ∧ (InI B w1 (.slice ya hs.length yc) hs) ∧ (Z2 w1 (w.heap.size + 2) (.slice none 0 0) (.slice none 0 0))) (R := fun w1 w2 => Below w1.heap.size w1 w2) 1 (rs := [4, 5, 10, 11]) (ds := [(4, some 13), (5, some 14), (10, some 19), (11, some 20)]) (by kernel_rfl) (by kernel_rfl) (by kernel_rfl) (by kernel_rfl) (by kernel_rfl) ?_ ?_ ?_ hB0 ?_ ?_
  · intro w1 w2 hB hR
    clear hB0
    obtain ⟨b_HBb, b_Gb, b_Vb, b_Yb, b_Zb⟩ := hB
    exact ⟨bt b_HBb hR, b_Gb.below hR, b_Vb.below hR, b_Yb.below hR, b_Zb.below hR⟩
  · clear hB0
    refine Last.cons (fun u w1 w2 hB h hR => ?_) ?_
    · have h1 : ∃ (b4 : Nat) (d4 : Nat), u = .agg #[.slice (some ⟨b4, 0, none⟩) 1 1, .slice (some ⟨d4, 0, none⟩) 1 1] ∧ (KPL (w.heap.size + 3) (fun W => LinAt W (.slice (some ⟨b4, 0, none⟩) 1 1) (.slice (some ⟨d4, 0, none⟩) 1 1) ([[H]], [decW P Q G c t])) w1) := h
      show ∃ (b4 : Nat) (d4 : Nat), u = .agg #[.slice (some ⟨b4, 0, none⟩) 1 1, .slice (some ⟨d4, 0, none⟩) 1 1] ∧ (KPL (w.heap.size + 3) (fun W => LinAt W (.slice (some ⟨b4, 0, none⟩) 1 1) (.slice (some ⟨d4, 0, none⟩) 1 1) ([[H]], [decW P Q G c t])) w2)
      obtain ⟨b4, d4, e, f0⟩ := h1
      exact ⟨b4, d4, e, f0.below hR⟩
    refine Last.cons (fun u w1 w2 hB h hR => ?_) ?_
    · have h1 : ∃ (g8 : Nat), u = .slice (some ⟨g8, 0, none⟩) 1 1 ∧ (KPL (w.heap.size + 3) (fun W => InL W (.slice (some ⟨g8, 0, none⟩) 1 1) [([[H]], [decW P Q G c t])]) w1) := h
      show ∃ (g8 : Nat), u = .slice (some ⟨g8, 0, none⟩) 1 1 ∧ (KPL (w.heap.size + 3) (fun W => InL W (.slice (some ⟨g8, 0, none⟩) 1 1) [([[H]], [decW P Q G c t])]) w2)
      obtain ⟨g8, e, f0⟩ := h1
      exact ⟨g8, e, f0.below hR⟩
    refine Last.cons (fun u w1 w2 hB h hR => ?_) ?_
    · have h1 : ∃ (g9 : Nat), u = .slice (some ⟨g9, 0, none⟩) 3 3 ∧ (KPL (w.heap.size + 3) (fun W => InI W.heap.size W (.slice (some ⟨g9, 0, none⟩) 3 3) [H, c, t]) w1) := h
      show ∃ (g9 : Nat), u = .slice (some ⟨g9, 0, none⟩) 3 3 ∧ (KPL (w.heap.size + 3) (fun W => InI W.heap.size W (.slice (some ⟨g9, 0, none⟩) 3 3) [H, c, t]) w2)
      obtain ⟨g9, e, f0⟩ := h1
      exact ⟨g9, e, f0.below hR⟩
    refine Last.cons (fun u w1 w2 hB h hR => ?_) ?_
    · have h1 : ∃ (g : Nat) (h : Nat), u = .agg #[.slice (some ⟨g, 0, none⟩) 1 1, .slice (some ⟨h, 0, none⟩) 3 3] ∧ (KPL (w.heap.size + 3) (fun W => InL W (.slice (some ⟨g, 0, none⟩) 1 1) [([[H]], [decW P Q G c t])]) w1) ∧ (KPL (w.heap.size + 3) (fun W => InI W.heap.size W (.slice (some ⟨h, 0, none⟩) 3 3) [H, c, t]) w1) := h
      show ∃ (g : Nat) (h : Nat), u = .agg #[.slice (some ⟨g, 0, none⟩) 1 1, .slice (some ⟨h, 0, none⟩) 3 3] ∧ (KPL (w.heap.size + 3) (fun W => InL W (.slice (some ⟨g, 0, none⟩) 1 1) [([[H]], [decW P Q G c t])]) w2) ∧ (KPL (w.heap.size + 3) (fun W => InI W.heap.size W (.slice (some ⟨h, 0, none⟩) 3 3) [H, c, t]) w2)
      obtain ⟨g, h, e, f0, f1⟩ := h1
      exact ⟨g, h, e, f0.below hR, f1.below hR⟩
    exact Last.nil
  · intro w1 hB
    clear hB0
    obtain ⟨b_HBb, b_Gb, b_Vb, b_Yb, b_Zb⟩ := hB
    have HBb := Lib.hid (show Below w.heap.size w w1 from b_HBb)
    have Gb := Lib.hid (show GR w1 w.heap.size P Q G from b_Gb)
    have Vb := Lib.hid (show D2 w1 (w.heap.size + 1) (.int .i64 H) (.slice ya hs.length yc) from b_Vb)
    have Yb := Lib.hid (show InI B w1 (.slice ya hs.length yc) hs from b_Yb)
    have Zb := Lib.hid (show Z2 w1 (w.heap.size + 2) (.slice none 0 0) (.slice none 0 0) from b_Zb)
    clear b_HBb b_Gb b_Vb b_Yb b_Zb
    exact ⟨⟨Gb.out.1, Gb.out.2.1, Gb.out.2.2⟩, Vb.out.1, Vb.out.2⟩
  · clear hB0 hHeld
    refine Steps.cons rfl (js := []) (by kernel_rfl) rfl (fun v W1 hB hF Q9 K hK => ?_) ?_
    · obtain ⟨b_HBb, b_Gb, b_Vb, b_Yb, b_Zb⟩ := hB
      have HBb := Lib.hid (show Below w.heap.size w W1 from b_HBb)
      have Gb := Lib.hid (show GR W1 w.heap.size P Q G from b_Gb)
      have Vb := Lib.hid (show D2 W1 (w.heap.size + 1) (.int .i64 H) (.slice ya hs.length yc) from b_Vb)
      have Yb := Lib.hid (show InI B W1 (.slice ya hs.length yc) hs from b_Yb)
      have Zb := Lib.hid (show Z2 W1 (w.heap.size + 2) (.slice none 0 0) (.slice none 0 0) from b_Zb)
      clear b_HBb b_Gb b_Vb b_Yb b_Zb
      clear hF
      refine ⟨?_⟩
      simp only [putAll, Act.put, List.setIfInBounds_toArray, List.set_cons_succ, List.set_cons_zero]
      go_simp
      go_at_call 147
      refine (hides_any P Q G H c t hg hc ht Yb.out).mono ?_
      rintro e' W2 ⟨b9, d9, rfl, hk9, hb⟩
      go_wp2_with fail
      have hk := hK.out
      simp only [putAll, Act.put, List.setIfInBounds_toArray, List.set_cons_succ, List.set_cons_zero] at hk
      refine hk _ _ ?_ ?_
      · show ∃ (b4 : Nat) (d4 : Nat), (_ : Value) = .agg #[.slice (some ⟨b4, 0, none⟩) 1 1, .slice (some ⟨d4, 0, none⟩) 1 1] ∧ (KPL (w.heap.size + 3) (fun W => LinAt W (.slice (some ⟨b4, 0, none⟩) 1 1) (.slice (some ⟨d4, 0, none⟩) 1 1) ([[H]], [decW P Q G c t])) W2)
        exact ⟨b9, d9, rfl, hk9.wide Zb.out.lt (Nat.le_refl _) (Nat.le_refl _)⟩
      · exact hb
    refine Steps.cons rfl (js := [4]) (by kernel_rfl) rfl (fun v W1 hB hF Q9 K hK => ?_) ?_
    · obtain ⟨b_HBb, b_Gb, b_Vb, b_Yb, b_Zb⟩ := hB
      have HBb := Lib.hid (show Below w.heap.size w W1 from b_HBb)
      have Gb := Lib.hid (show GR W1 w.heap.size P Q G from b_Gb)
      have Vb := Lib.hid (show D2 W1 (w.heap.size + 1) (.int .i64 H) (.slice ya hs.length yc) from b_Vb)
      have Yb := Lib.hid (show InI B W1 (.slice ya hs.length yc) hs from b_Yb)
      have Zb := Lib.hid (show Z2 W1 (w.heap.size + 2) (.slice none 0 0) (.slice none 0 0) from b_Zb)
      clear b_HBb b_Gb b_Vb b_Yb b_Zb
      have hf4 : ∃ (b4 : Nat) (d4 : Nat), v 4 = .agg #[.slice (some ⟨b4, 0, none⟩) 1 1, .slice (some ⟨d4, 0, none⟩) 1 1] ∧ (KPL (w.heap.size + 3) (fun W => LinAt W (.slice (some ⟨b4, 0, none⟩) 1 1) (.slice (some ⟨d4, 0, none⟩) 1 1) ([[H]], [decW P Q G c t])) W1) := hF.1
      obtain ⟨b4, d4, e4, f4_0⟩ := hf4
      have E4 := Lib.hid e4
      have H4 := Lib.hid (show KPL (w.heap.size + 3) (fun W => LinAt W (.slice (some ⟨b4, 0, none⟩) 1 1) (.slice (some ⟨d4, 0, none⟩) 1 1) ([[H]], [decW P Q G c t])) W1 from f4_0)
      clear e4 f4_0
      clear hF
      refine ⟨?_⟩
      simp only [putAll, Act.put, List.setIfInBounds_toArray, List.set_cons_succ, List.set_cons_zero, E4.out]
      go_simp
      have hk := hK.out
      simp only [putAll, Act.put, List.setIfInBounds_toArray, List.set_cons_succ, List.set_cons_zero, E4.out] at hk
      refine hk _ _ ?_ ?_
      · show ∃ (g8 : Nat), (_ : Value) = .slice (some ⟨g8, 0, none⟩) 1 1 ∧ (KPL (w.heap.size + 3) (fun W => InL W (.slice (some ⟨g8, 0, none⟩) 1 1) [([[H]], [decW P Q G c t])]) (W1.alloc (.cells #[.slice (some ⟨b4, 0, none⟩) 1 1, .slice (some ⟨d4, 0, none⟩) 1 1] 160)))
        exact ⟨_, rfl, KPL.lin1 Zb.out.lt (cell_here W1 _ 0 rfl _ _ _ rfl) (cell_here W1 _ 1 rfl _ _ _ rfl) (H4.out.below (ba _ _))⟩
      · exact (ba _ _)
    refine Steps.cons rfl (js := []) (by kernel_rfl) rfl (fun v W1 hB hF Q9 K hK => ?_) ?_
    · obtain ⟨b_HBb, b_Gb, b_Vb, b_Yb, b_Zb⟩ := hB
      have HBb := Lib.hid (show Below w.heap.size w W1 from b_HBb)
      have Gb := Lib.hid (show GR W1 w.heap.size P Q G from b_Gb)
      have Vb := Lib.hid (show D2 W1 (w.heap.size + 1) (.int .i64 H) (.slice ya hs.length yc) from b_Vb)
      have Yb := Lib.hid (show InI B W1 (.slice ya hs.length yc) hs from b_Yb)
      have Zb := Lib.hid (show Z2 W1 (w.heap.size + 2) (.slice none 0 0) (.slice none 0 0) from b_Zb)
      clear b_HBb b_Gb b_Vb b_Yb b_Zb
      clear hF
      refine ⟨?_⟩
      simp only [putAll, Act.put, List.setIfInBounds_toArray, List.set_cons_succ, List.set_cons_zero]
      go_simp
      have hk := hK.out
      simp only [putAll, Act.put, List.setIfInBounds_toArray, List.set_cons_succ, List.set_cons_zero] at hk
      refine hk _ _ ?_ ?_
      · show ∃ (g9 : Nat), (_ : Value) = .slice (some ⟨g9, 0, none⟩) 3 3 ∧ (KPL (w.heap.size + 3) (fun W => InI W.heap.size W (.slice (some ⟨g9, 0, none⟩) 3 3) [H, c, t]) (W1.alloc (.cells #[.int .i64 H, .int .i64 c, .int .i64 t] 3)))
        exact ⟨_, rfl, KPL.ints W1 Zb.out.lt [H, c, t] 3⟩
      · exact (ba _ _)
    refine Steps.cons rfl (js := [5, 10]) (by kernel_rfl) rfl (fun v W1 hB hF Q9 K hK => ?_) ?_
    · obtain ⟨b_HBb, b_Gb, b_Vb, b_Yb, b_Zb⟩ := hB
      have HBb := Lib.hid (show Below w.heap.size w W1 from b_HBb)
      have Gb := Lib.hid (show GR W1 w.heap.size P Q G from b_Gb)
      have Vb := Lib.hid (show D2 W1 (w.heap.size + 1) (.int .i64 H) (.slice ya hs.length yc) from b_Vb)
      have Yb := Lib.hid (show InI B W1 (.slice ya hs.length yc) hs from b_Yb)
      have Zb := Lib.hid (show Z2 W1 (w.heap.size + 2) (.slice none 0 0) (.slice none 0 0) from b_Zb)
      clear b_HBb b_Gb b_Vb b_Yb b_Zb
      have hf5 : ∃ (g8 : Nat), v 5 = .slice (some ⟨g8, 0, none⟩) 1 1 ∧ (KPL (w.heap.size + 3) (fun W => InL W (.slice (some ⟨g8, 0, none⟩) 1 1) [([[H]], [decW P Q G c t])]) W1) := hF.1
      obtain ⟨g8, e5, f5_0⟩ := hf5
      have E5 := Lib.hid e5
      have H8 := Lib.hid (show KPL (w.heap.size + 3) (fun W => InL W (.slice (some ⟨g8, 0, none⟩) 1 1) [([[H]], [decW P Q G c t])]) W1 from f5_0)
      clear e5 f5_0
      have hf10 : ∃ (g9 : Nat), v 10 = .slice (some ⟨g9, 0, none⟩) 3 3 ∧ (KPL (w.heap.size + 3) (fun W => InI W.heap.size W (.slice (some ⟨g9, 0, none⟩) 3 3) [H, c, t]) W1) := hF.2.1
      obtain ⟨g9, e10, f10_0⟩ := hf10
      have E10 := Lib.hid e10
      have H9 := Lib.hid (show KPL (w.heap.size + 3) (fun W => InI W.heap.size W (.slice (some ⟨g9, 0, none⟩) 3 3) [H, c, t]) W1 from f10_0)
      clear e10 f10_0
      clear hF
      refine ⟨?_⟩
      simp only [putAll, Act.put, List.setIfInBounds_toArray, List.set_cons_succ, List.set_cons_zero, E5.out, E10.out]
      go_simp
      have hk := hK.out
      simp only [putAll, Act.put, List.setIfInBounds_toArray, List.set_cons_succ, List.set_cons_zero, E5.out, E10.out] at hk
      refine hk _ _ ?_ ?_
      · show ∃ (g : Nat) (h : Nat), (_ : Value) = .agg #[.slice (some ⟨g, 0, none⟩) 1 1, .slice (some ⟨h, 0, none⟩) 3 3] ∧ (KPL (w.heap.size + 3) (fun W => InL W (.slice (some ⟨g, 0, none⟩) 1 1) [([[H]], [decW P Q G c t])]) W1) ∧ (KPL (w.heap.size + 3) (fun W => InI W.heap.size W (.slice (some ⟨h, 0, none⟩) 3 3) [H, c, t]) W1)
        exact ⟨_, _, rfl, H8.out, H9.out⟩
      · exact (Below.refl _ _)
    exact Steps.nil
  intro v We hB hF
  clear hB0 hHeld
  obtain ⟨b_HBb, b_Gb, b_Vb, b_Yb, b_Zb⟩ := hB
  have HBb := Lib.hid (show Below w.heap.size w We from b_HBb)
  have Gb := Lib.hid (show GR We w.heap.size P Q G from b_Gb)
  have Vb := Lib.hid (show D2 We (w.heap.size + 1) (.int .i64 H) (.slice ya hs.length yc) from b_Vb)
  have Yb := Lib.hid (show InI B We (.slice ya hs.length yc) hs from b_Yb)
  have Zb := Lib.hid (show Z2 We (w.heap.size + 2) (.slice none 0 0) (.slice none 0 0) from b_Zb)
  clear b_HBb b_Gb b_Vb b_Yb b_Zb
  have hf4 : ∃ (b4 : Nat) (d4 : Nat), v 4 = .agg #[.slice (some ⟨b4, 0, none⟩) 1 1, .slice (some ⟨d4, 0, none⟩) 1 1] ∧ (KPL (w.heap.size + 3) (fun W => LinAt W (.slice (some ⟨b4, 0, none⟩) 1 1) (.slice (some ⟨d4, 0, none⟩) 1 1) ([[H]], [decW P Q G c t])) We) := hF.1
  obtain ⟨b4, d4, e4, f4_0⟩ := hf4
  have E4 := Lib.hid e4
  have H4 := Lib.hid (show KPL (w.heap.size + 3) (fun W => LinAt W (.slice (some ⟨b4, 0, none⟩) 1 1) (.slice (some ⟨d4, 0, none⟩) 1 1) ([[H]], [decW P Q G c t])) We from f4_0)
  clear e4 f4_0
  have hf5 : ∃ (g8 : Nat), v 5 = .slice (some ⟨g8, 0, none⟩) 1 1 ∧ (KPL (w.heap.size + 3) (fun W => InL W (.slice (some ⟨g8, 0, none⟩) 1 1) [([[H]], [decW P Q G c t])]) We) := hF.2.1
  obtain ⟨g8, e5, f5_0⟩ := hf5
  have E5 := Lib.hid e5
  have H8 := Lib.hid (show KPL (w.heap.size + 3) (fun W => InL W (.slice (some ⟨g8, 0, none⟩) 1 1) [([[H]], [decW P Q G c t])]) We from f5_0)
  clear e5 f5_0
  have hf10 : ∃ (g9 : Nat), v 10 = .slice (some ⟨g9, 0, none⟩) 3 3 ∧ (KPL (w.heap.size + 3) (fun W => InI W.heap.size W (.slice (some ⟨g9, 0, none⟩) 3 3) [H, c, t]) We) := hF.2.2.1
  obtain ⟨g9, e10, f10_0⟩ := hf10
  have E10 := Lib.hid e10
  have H9 := Lib.hid (show KPL (w.heap.size + 3) (fun W => InI W.heap.size W (.slice (some ⟨g9, 0, none⟩) 3 3) [H, c, t]) We from f10_0)
  clear e10 f10_0
  have hf11 : ∃ (g : Nat) (h : Nat), v 11 = .agg #[.slice (some ⟨g, 0, none⟩) 1 1, .slice (some ⟨h, 0, none⟩) 3 3] ∧ (KPL (w.heap.size + 3) (fun W => InL W (.slice (some ⟨g, 0, none⟩) 1 1) [([[H]], [decW P Q G c t])]) We) ∧ (KPL (w.heap.size + 3) (fun W => InI W.heap.size W (.slice (some ⟨h, 0, none⟩) 3 3) [H, c, t]) We) := hF.2.2.2.1
  obtain ⟨g, h, e11, f11_0, f11_1⟩ := hf11
  have E11 := Lib.hid e11
  have HL := Lib.hid (show KPL (w.heap.size + 3) (fun W => InL W (.slice (some ⟨g, 0, none⟩) 1 1) [([[H]], [decW P Q G c t])]) We from f11_0)
  have HI := Lib.hid (show KPL (w.heap.size + 3) (fun W => InI W.heap.size W (.slice (some ⟨h, 0, none⟩) 3 3) [H, c, t]) We from f11_1)
  clear e11 f11_0 f11_1
  clear hF
  refine ⟨?_⟩
  simp only [putAll, Act.put, List.setIfInBounds_toArray, List.set_cons_succ, List.set_cons_zero, E4.out, E5.out, E10.out, E11.out]
  refine wpAnyH_ready (rs := [12]) (by kernel_rfl) (by simp) ?_
  refine AllReadyH.cons rfl (fun K hK => ?_) AllReadyH.nil
  obtain ⟨⟨y0, y1⟩, yf0, yf1⟩ := Zb.out
  go_simp
  have hm5 := mid2 We (w.heap.size + 2) (.slice (some ⟨g, 0, none⟩) 1 1) (.slice (some ⟨h, 0, none⟩) 3 3)
  have Z9 := Zb.out.lt
  refine hK.out _ _ (show _ from ⟨⟨(Gb.out.mid hm5 (.inl (by omega))).1, (Gb.out.mid hm5 (.inl (by omega))).2.1, (Gb.out.mid hm5 (.inl (by omega))).2.2⟩, (mid_d2 Vb.out hm5 (.inl (by omega))).1, (mid_d2 Vb.out hm5 (.inl (by omega))).2⟩) (fun hHeld => ?_)
  clear hK K
  refine wpAnyH_done (by kernel_rfl) ?_ _
  go_wp2
  (try simp only [Exit.inBlock, Exit.then])
  refine bodyPost_ret (v := .agg #[.slice (some ⟨g, 0, none⟩) 1 1, .slice (some ⟨h, 0, none⟩) 3 3]) ?_ rfl ?_
  · rw [results_cell_one rfl]; go_simp
  · have hs5 := hm5.size
    have hk5 := (KP.and HL.out (KP.imp HI.out fun W h => (⟨_, h⟩ : ∃ B, InI B W _ _))).mid hm5 (.inr (Nat.le_refl _))
    exact ⟨_, _, rfl, hk5.wide (by omega) hs5 (Nat.le_refl _), HBb.out.trans (hm5.toBelow (by omega) HBb.out.size)⟩

def vbB (P Q G H : Int) (hs : List Int) (c : Int) : Bool := bsB P Q G H hs && elB P Q c
def vbV (P Q G H : Int) (hs : List Int) (c : Int) (p : PrD) : Bool := vbB P Q G H hs c && rbV P Q G H c p
def vsB (P Q G H : Int) (hs cs : List Int) (t : Int) : Bool := bsB P Q G H hs && (decide (1 ≤ cs.length ∧ cs.length ≤ 24) && (allEl P Q cs && exB Q t))
def vsV (P Q G H : Int) (hs cs : List Int) (t : Int) (p : PrD) : Bool := vsB P Q G H hs cs t && suV P Q G H (mulFrom P 1 cs) t p

theorem els_mul {P Q G : Int} (hg : goodB P Q G = true) {cs : List Int} (h : allEl P Q cs = true) : elB P Q (mulFrom P 1 cs) = true := by
  have key : ∀ (cs : List Int) (a : Int), elB P Q a = true → allEl P Q cs = true → elB P Q (mulFrom P a cs) = true := by
    intro cs
    induction cs with
    | nil => intro a ha _; exact ha
    | cons z cs ih =>
      intro a ha h
      simp only [allEl, List.all_cons, Bool.and_eq_true] at h
      exact ih _ (el_mul hg ha h.1) h.2
  exact key cs 1 (one_el hg) h

end Go.Proofs.Ytfjaohmildkeoaa

