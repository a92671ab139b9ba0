/- Chapter 10, the program: what commitments to bits and sums hide; VerifyBit, VerifySum. -/
import Derived.Test.YtblclghbabhdlaaAny
import Derived.Test.YtblclghbabhdlaaRngF
import Derived.Test.YtblclghbabhdlaaElE
import Derived.Test.YtblclghbabhdlaaSigM
import Derived.Deep.RegionHeld3
namespace Go.Proofs.Ytblclghbabhdlaa
open Go.RowKit
set_option linter.unusedVariables false
set_option linter.unusedSimpArgs false

theorem cellUp {w w' : World} (hb : Below w.heap.size w w') {a : Addr} {v : Value} (h : w.cell? a = some v) : w'.cell? a = some v := by
  have hl := World.block_lt_of_cell? w _ h
  rw [World.cell?_of_block (hb.block a.block hl)]; exact h
theorem KP.wide {Q P Q' P' : Nat} {R : World → Prop} {w : World} (h : KP Q P R w) (hQ : Q' ≤ Q) (hP : P ≤ P') (hs : P' ≤ w.heap.size) : KP Q' P' R w :=
  ⟨hs, fun w' h1 h2 => h.2 w' (Nat.le_trans hP h1) fun b b1 b2 => h2 b (Nat.le_trans hQ b1) (Nat.lt_of_lt_of_le b2 hP)⟩
/-- A box of two values that may be written. -/
def Z2 (w : World) (b : Nat) (x y : Value) : Prop := (w.cell? ⟨b, 0, none⟩ = some x ∧ w.cell? ⟨b, 1, none⟩ = some y) ∧ w.frozen? ⟨b, 0, none⟩ = false ∧ w.frozen? ⟨b, 1, none⟩ = false
theorem z2_at (w : World) (b : Nat) (hb : w.heap.size = b) (x y : Value) (t : TypeId) : Z2 (w.alloc (.cells #[x, y] t)) b x y := by
  subst hb
  exact ⟨⟨World.cell?_alloc_at _ _ _ _ rfl, World.cell?_alloc_at _ _ _ _ rfl⟩, World.frozen?_alloc_at _ _ _ _ rfl, World.frozen?_alloc_at _ _ _ _ rfl⟩
theorem Z2.lt {w : World} {b : Nat} {x y : Value} (h : Z2 w b x y) : b < w.heap.size := World.block_lt_of_cell? w _ h.1.1
theorem Z2.below {w w' : World} {b : Nat} {x y : Value} (h : Z2 w b x y) (hb : Below w.heap.size w w') : Z2 w' b x y := by
  have hl := h.lt
  exact ⟨⟨cellUp hb h.1.1, cellUp hb h.1.2⟩, by rw [hb.frozen (p := ⟨b, 0, none⟩) hl]; exact h.2.1, by rw [hb.frozen (p := ⟨b, 1, none⟩) hl]; exact h.2.2⟩
theorem Z2.drew {w : World} {b : Nat} {x y : Value} (h : Z2 w b x y) : Z2 w.drew b x y := h
theorem mid2 (w : World) (b : Nat) (x y : Value) : Mid b (b + 1) w ((w.setCell ⟨b, 0, none⟩ x).setCell ⟨b, 1, none⟩ y) := (mid_cell w b 0 x).trans (mid_cell _ b 1 y)

/-- Where a linear statement lies. -/
def LinAt (W : World) (v1 v2 : Value) (p : LinD) : Prop := InS W.heap.size W v1 p.1 ∧ InI W.heap.size W v2 p.2
def HidOut (w : World) (p : LinD) (e : Ending) (w' : World) : Prop := ∃ b d, e = .returned (.agg #[.slice (some ⟨b, 0, none⟩) 1 1, .slice (some ⟨d, 0, none⟩) 1 1]) ∧ KP w.heap.size w'.heap.size (fun W => LinAt W (.slice (some ⟨b, 0, none⟩) 1 1) (.slice (some ⟨d, 0, none⟩) 1 1) p) w' ∧ Below w.heap.size w w'
/-- It stays so as long as the blocks from lo on stay. -/
def KPL (lo : Nat) (R : World → Prop) (w : World) : Prop := KP lo w.heap.size R w
theorem KPL.below {lo : Nat} {R : World → Prop} {w w' : World} (h : KPL lo R w) (hb : Below w.heap.size w w') : KPL lo R w' := (KP.below h hb).wide (Nat.le_refl _) hb.size (Nat.le_refl _)
theorem KP.imp {Q P : Nat} {R R' : World → Prop} {w : World} (h : KP Q P R w) (f : ∀ w', R w' → R' w') : KP Q P R' w := ⟨h.1, fun w' h1 h2 => f w' (h.2 w' h1 h2)⟩
theorem KP.and {Q P : Nat} {R R' : World → Prop} {w : World} (h : KP Q P R w) (h' : KP Q P R' w) : KP Q P (fun w' => R w' ∧ R' w') w := ⟨h.1, fun w' h1 h2 => ⟨h.2 w' h1 h2, h'.2 w' h1 h2⟩⟩
theorem KPL.ints {lo : Nat} (w : World) (h : lo ≤ w.heap.size) (zs : List Int) (t : TypeId) : KPL lo (fun W => InI W.heap.size W (.slice (some ⟨w.heap.size, 0, none⟩) zs.length zs.length) zs) (w.alloc (.cells (zs.map (Value.int .i64)).toArray t)) :=
  KP.imp (kp_ints (Q := lo) (ints_spot w _ rfl zs t) (Nat.le_refl _) (by rintro a ⟨⟩; exact ⟨h, by simp⟩)) fun w' h' => InI.of h' (fun e => by cases e) (Nat.le_refl _)
theorem KPL.cell {lo b i : Nat} {w : World} {v : Value} (hb : lo ≤ b) (h : w.cell? ⟨b, i, none⟩ = some v) : KPL lo (fun W => W.cell? ⟨b, i, none⟩ = some v ∧ b < W.heap.size) w :=
  ⟨Nat.le_refl _, fun w' hs he => by
    have hl := World.block_lt_of_cell? w _ h
    exact ⟨by rw [World.cell?_of_block (a := ⟨b, i, none⟩) (he b hb hl)]; exact h, Nat.lt_of_lt_of_le hl hs⟩⟩

/-- One base, one image. -/
def One (W : World) (lo b i d : Nat) (H y : Int) : Prop := (W.cell? ⟨b, 0, none⟩ = some (.slice (some ⟨i, 0, none⟩) 1 1) ∧ W.cell? ⟨i, 0, none⟩ = some (.int .i64 H) ∧ W.cell? ⟨d, 0, none⟩ = some (.int .i64 y)) ∧ lo ≤ b ∧ lo ≤ i ∧ lo ≤ d
theorem One.kp {W : World} {lo b i d : Nat} {H y : Int} (h : One W lo b i d H y) : KP lo W.heap.size (fun W' => LinAt W' (.slice (some ⟨b, 0, none⟩) 1 1) (.slice (some ⟨d, 0, none⟩) 1 1) ([[H]], [y])) W := by
  refine ⟨Nat.le_refl _, fun w2 hs2 he => ?_⟩
  have tr : ∀ (b i : Nat) (v : Value), lo ≤ b → W.cell? ⟨b, i, none⟩ = some v → w2.cell? ⟨b, i, none⟩ = some v ∧ b < w2.heap.size := fun b i v h1 h => by
    have hb := World.block_lt_of_cell? W _ h
    exact ⟨by rw [World.cell?_of_block (a := ⟨b, i, none⟩) (he b h1 hb)]; exact h, Nat.lt_of_lt_of_le hb hs2⟩
  obtain ⟨⟨h1, h2, h3⟩, l1, l2, l3⟩ := h
  have k1 := tr _ _ _ l1 h1
  have k2 := (tr _ _ _ l2 h2).1
  have k3 := (tr _ _ _ l3 h3).1
  refine ⟨⟨Nat.le_refl _, some ⟨b, 0, none⟩, 1, rfl, (fun h => by cases h), .inr ⟨b, 0, rfl, k1.2, k1.2, fun i z hz => ?_⟩⟩, one_in k3⟩
  match i, hz with
  | 0, hz =>
    simp only [List.getElem?_cons_zero, Option.some.injEq] at hz
    subst hz
    exact ⟨_, k1.1, one_in k2⟩

set_option maxRecDepth 100000 in
set_option maxHeartbeats 3200000 in
theorem minus_any (P Q G c k : Int) (hg : goodB P Q G = true) (hc : elB P Q c = true) (hk : 0 ≤ k ∧ k < Q) (w : World) :
    Calls Try.prog 79 #[gv P Q G, .int .i64 c, .int .i64 k] w fun e w' => e = .returned (.int .i64 (decW P Q G c k)) ∧ Below w.heap.size w w' := by
  have G_0 := Lib.hid (gr_at w (w.heap.size) (by simp) P Q G 32)
  have HB_0 := Lib.hid (show Below w.heap.size w (w.alloc (.cells #[.int .i64 P, .int .i64 Q, .int .i64 G] 32)) from ba _ _)
  have hmo := good_mo hg
  have hP := hmo.1
  have hQ9 := (good_rng hg).2.1.2
  have hG := good_el hg
  have HGr := Lib.hid (el_rng hG)
  have HCr := Lib.hid (el_rng hc)
  have HPr := Lib.hid (pow_lt G k P hP.1)
  have hpe := el_pow hg hG hk.1
  have hiv := inv_el hg hpe
  have hir := pow_lt (Num.pow G k P) (Q - 1) P hP.1
  have HOK := Lib.hid hiv.1
  have HIV := Lib.hid (show c * Num.inv (Num.pow G k P) P % P = decW P Q G c k by rw [hiv.2]; rfl)
  have HI := Lib.hid (show 0 ≤ Num.inv (Num.pow G k P) P ∧ Num.inv (Num.pow G k P) P < P by rw [hiv.2]; exact hir)
  clear hg hc hmo hG hpe hiv hir
  obtain ⟨gG0, gG1, gG2⟩ := G_0.out
  go_enter Try.func79, Try.ntmps79
  go_wp2_with fail
  clear gG0 gG1 gG2
  generalize hW9 : w.alloc (.cells #[.int .i64 P, .int .i64 Q, .int .i64 G] 32) = v0 at *
  clear hW9
  have hbd : Below v0.heap.size v0 v0.drew := (Below.refl _ v0).drew
  have HB_s := Lib.hid (bt HB_0.out hbd)
  have G_s := Lib.hid (G_0.out.below hbd)
  clear hbd
  refine wp_region_held_drew (S := (fun w' => w'.cell? ⟨w.heap.size, 0, none⟩ = some (.int .i64 P) ∧ w'.cell? ⟨w.heap.size, 1, none⟩ = some (.int .i64 Q) ∧ w'.cell? ⟨w.heap.size, 2, none⟩ = some (.int .i64 G))) (by kernel_rfl) (show _ from ⟨G_0.out.1, G_0.out.2.1, G_0.out.2.2⟩) (fun hHeld => ?_)
  generalize hW0 : v0.drew = Ws at *
  clear hW0
  refine wpAnyH_take (i := 0) (v := ?_) rfl (by kernel_rfl) (by kernel_rfl) (by kernel_rfl) (fun _ _ _ h => h) (Or.inl ⟨by kernel_rfl, ?_⟩) (by assumption) ?_
  rotate_left 1
  · intro w9 hSw
    try dsimp only at hSw
    go_simp
    try with_reducible rfl
  try simp only [Act.put, List.getElem_toArray, List.getElem_cons_succ, List.getElem_cons_zero, List.setIfInBounds_toArray, List.set_cons_zero, List.set_cons_succ]
  refine wpAnyH_take (i := 1) (v := ?_) rfl (by kernel_rfl) (by kernel_rfl) (by kernel_rfl) (fun _ _ _ h => h) (Or.inl ⟨by kernel_rfl, ?_⟩) (by assumption) ?_
  rotate_left 1
  · intro w9 hSw
    try dsimp only at hSw
    go_simp
    try with_reducible rfl
  try simp only [Act.put, List.getElem_toArray, List.getElem_cons_succ, List.getElem_cons_zero, List.setIfInBounds_toArray, List.set_cons_zero, List.set_cons_succ]
  refine wpAnyH_take (i := 2) (v := ?_) rfl (by kernel_rfl) (by kernel_rfl) (by kernel_rfl) (fun _ _ _ h => h) (Or.inl ⟨by kernel_rfl, ?_⟩) (by assumption) ?_
  rotate_left 1
  · intro w9 hSw
    try dsimp only at hSw
    go_simp
    try with_reducible rfl
  try simp only [Act.put, List.getElem_toArray, List.getElem_cons_succ, List.getElem_cons_zero, List.setIfInBounds_toArray, List.set_cons_zero, List.set_cons_succ]
  refine wpAnyH_take (i := 3) (v := ?_) rfl (by kernel_rfl) (by kernel_rfl) (by kernel_rfl) (fun _ _ _ h => h) (Or.inl ⟨by kernel_rfl, ?_⟩) (by assumption) ?_
  rotate_left 1
  · intro w9 hSw
    try dsimp only at hSw
    go_simp
    try with_reducible rfl
  try simp only [Act.put, List.getElem_toArray, List.getElem_cons_succ, List.getElem_cons_zero, List.setIfInBounds_toArray, List.set_cons_zero, List.set_cons_succ]
  refine wpAnyH_take (i := 4) (v := ?_) rfl (by kernel_rfl) (by kernel_rfl) (by kernel_rfl) (fun _ _ _ h => h) (Or.inl ⟨by kernel_rfl, ?_⟩) (by assumption) ?_
  rotate_left 1
  · intro w9 hSw
    try dsimp only at hSw
    go_simp
    try with_reducible rfl
  try simp only [Act.put, List.getElem_toArray, List.getElem_cons_succ, List.getElem_cons_zero, List.setIfInBounds_toArray, List.set_cons_zero, List.set_cons_succ]
  refine wpAnyH_take (i := 5) (v := ?_) rfl (by kernel_rfl) (by kernel_rfl) (by kernel_rfl) (fun _ _ _ h => h) (Or.inl ⟨by kernel_rfl, ?_⟩) (by assumption) ?_
  rotate_left 1
  · intro w9 hSw
    try dsimp only at hSw
    go_simp
    try with_reducible rfl
  try simp only [Act.put, List.getElem_toArray, List.getElem_cons_succ, List.getElem_cons_zero, List.setIfInBounds_toArray, List.set_cons_zero, List.set_cons_succ]
  refine wpAnyH_take (i := 6) (v := ?_) rfl (by kernel_rfl) (by kernel_rfl) (by kernel_rfl) (fun _ _ _ h => h) (Or.inl ⟨by kernel_rfl, ?_⟩) (by assumption) ?_
  rotate_left 1
  · intro w9 hSw
    try dsimp only at hSw
    go_simp
    try with_reducible rfl
  try simp only [Act.put, List.getElem_toArray, List.getElem_cons_succ, List.getElem_cons_zero, List.setIfInBounds_toArray, List.set_cons_zero, List.set_cons_succ]
  refine wpAnyH_ready (rs := [7]) (by kernel_rfl) (by simp) ?_
  refine AllReadyH.cons rfl (fun K hK => ?_) (AllReadyH.nil)
  go_simp
  go_at_call 81
  refine (power_any P Q G G k HGr.out.1 (by have := HGr.out.2; omega) hk.1 (by omega) hP.1 hP.2 _).mono ?_
  rintro e' Wsh ⟨rfl, hb⟩
  have HB_sh := Lib.hid (bt HB_s.out hb)
  have G_sh := Lib.hid (G_s.out.below hb)
  clear hb
  go_wp2_with fail
  refine hK.out _ _ (show _ from ⟨G_sh.out.1, G_sh.out.2.1, G_sh.out.2.2⟩) (fun hHeld => ?_)
  clear hK K
  try simp only [Act.put, List.getElem_toArray, List.getElem_cons_succ, List.getElem_cons_zero, List.setIfInBounds_toArray, List.set_cons_zero, List.set_cons_succ]
  refine wpAnyH_ready (rs := [8]) (by kernel_rfl) (by simp) ?_
  refine AllReadyH.cons rfl (fun K hK => ?_) (AllReadyH.nil)
  go_simp
  go_at_call 80
  refine (ediv_any P c (Num.pow G k P) hP.1 hP.2 HCr.out.1 HCr.out.2 HPr.out.1 HPr.out.2 HOK.out HI.out.1 HI.out.2 _).mono ?_
  rw [HIV.out]
  rintro e' w' ⟨rfl, rfl⟩
  go_wp2_with fail
  refine hK.out _ _ (show _ from ⟨G_sh.out.1, G_sh.out.2.1, G_sh.out.2.2⟩) (fun hHeld => ?_)
  clear hK K
  try simp only [Act.put, List.getElem_toArray, List.getElem_cons_succ, List.getElem_cons_zero, List.setIfInBounds_toArray, List.set_cons_zero, List.set_cons_succ]
  refine wpAnyH_take (i := 9) (v := ?_) rfl (by kernel_rfl) (by kernel_rfl) (by kernel_rfl) (fun _ _ _ h => h) (Or.inl ⟨by kernel_rfl, ?_⟩) (by assumption) ?_
  rotate_left 1
  · intro w9 hSw
    try dsimp only at hSw
    go_simp
    try with_reducible rfl
  try simp only [Act.put, List.getElem_toArray, List.getElem_cons_succ, List.getElem_cons_zero, List.setIfInBounds_toArray, List.set_cons_zero, List.set_cons_succ]
  refine wpAnyH_done (by kernel_rfl) ?_ _
  go_wp2
  go_ret
  exact ⟨rfl, HB_sh.out⟩

theorem One.below {W W' : World} {lo b i d : Nat} {H y : Int} (h : One W lo b i d H y) (hb : Below W.heap.size W W') : One W' lo b i d H y := ⟨⟨cellUp hb h.1.1, cellUp hb h.1.2.1, cellUp hb h.1.2.2⟩, h.2⟩
def C1a (W : World) (lo b : Nat) (x : Int) : Prop := W.cell? ⟨b, 0, none⟩ = some (.int .i64 x) ∧ lo ≤ b
theorem C1a.below {W W' : World} {lo b : Nat} {x : Int} (h : C1a W lo b x) (hb : Below W.heap.size W W') : C1a W' lo b x := ⟨cellUp hb h.1, h.2⟩
def C2a (W : World) (lo b i : Nat) (x : Int) : Prop := (W.cell? ⟨b, 0, none⟩ = some (.slice (some ⟨i, 0, none⟩) 1 1) ∧ W.cell? ⟨i, 0, none⟩ = some (.int .i64 x)) ∧ lo ≤ b ∧ lo ≤ i
theorem C2a.below {W W' : World} {lo b i : Nat} {x : Int} (h : C2a W lo b i x) (hb : Below W.heap.size W W') : C2a W' lo b i x := ⟨⟨cellUp hb h.1.1, cellUp hb h.1.2⟩, h.2⟩
theorem mid_d2 {w w' : World} {b A B : Nat} {x y : Value} (h : D2 w b x y) (hm : Mid A B w w') (ho : b < A ∨ B ≤ b) : D2 w' b x y := by
  have hl := h.lt
  exact ⟨by rw [World.cell?_of_block (a := ⟨b, 0, none⟩) (hm.block b hl ho)]; exact h.1, by rw [World.cell?_of_block (a := ⟨b, 1, none⟩) (hm.block b hl ho)]; exact h.2⟩

set_option maxRecDepth 100000 in
set_option maxHeartbeats 3200000 in
theorem hides_any (P Q G H c k : Int) (hg : goodB P Q G = true) (hc : elB P Q c = true) (hk : 0 ≤ k ∧ k < Q) {B : Nat} {y : Value} {hs : List Int} {w : World} (hy : InI B w y hs) :
    Calls Try.prog 97 #[gv P Q G, .agg #[.int .i64 H, y], .int .i64 c, .int .i64 k] w (HidOut w ([[H]], [decW P Q G c k])) := by
  obtain ⟨ya, yc, rfl⟩ := hy.shape
  have G_0 := Lib.hid ((gr_at w (w.heap.size) (by simp) P Q G 32).below (ba (w.alloc (.cells #[.int .i64 P, .int .i64 Q, .int .i64 G] 32)) (.cells #[.int .i64 H, .slice ya hs.length yc] 34)))
  have V_0 := Lib.hid (d2_at (w.alloc (.cells #[.int .i64 P, .int .i64 Q, .int .i64 G] 32)) (w.heap.size + 1) (by simp) (.int .i64 H) (.slice ya hs.length yc) 34)
  have HB_0 := Lib.hid (show Below w.heap.size w ((w.alloc (.cells #[.int .i64 P, .int .i64 Q, .int .i64 G] 32)).alloc (.cells #[.int .i64 H, .slice ya hs.length yc] 34)) from bt (ba _ _) (ba _ _))
  have Y_0 := Lib.hid (hy.below HB_0.out)
  clear hy
  have hz := z2_at ((w.alloc (.cells #[.int .i64 P, .int .i64 Q, .int .i64 G] 32)).alloc (.cells #[.int .i64 H, .slice ya hs.length yc] 34)) (w.heap.size + 2) (by simp) (.slice none 0 0) (.slice none 0 0) 117
  have hal := ba ((w.alloc (.cells #[.int .i64 P, .int .i64 Q, .int .i64 G] 32)).alloc (.cells #[.int .i64 H, .slice ya hs.length yc] 34)) (.cells #[.slice none 0 0, .slice none 0 0] 117)
  have HB_1 := Lib.hid (bt HB_0.out hal)
  have G_1 := Lib.hid (G_0.out.below hal)
  have V_1 := Lib.hid (V_0.out.below hal)
  have Y_1 := Lib.hid (Y_0.out.below hal)
  have Z_1 := Lib.hid hz
  clear hz hal HB_0 G_0 V_0 Y_0
  obtain ⟨gG0, gG1, gG2⟩ := G_1.out
  obtain ⟨cV0, cV1⟩ := V_1.out
  go_enter Try.func97, Try.ntmps97
  go_wp2_with fail
  clear gG0 gG1 gG2 cV0 cV1
  generalize hW9 : ((w.alloc (.cells #[.int .i64 P, .int .i64 Q, .int .i64 G] 32)).alloc (.cells #[.int .i64 H, .slice ya hs.length yc] 34)).alloc (.cells #[.slice none 0 0, .slice none 0 0] 117) = v0 at *
  clear hW9
  refine wp_region_held_drew (S := (fun w' => (w'.cell? ⟨w.heap.size, 0, none⟩ = some (.int .i64 P) ∧ w'.cell? ⟨w.heap.size, 1, none⟩ = some (.int .i64 Q) ∧ w'.cell? ⟨w.heap.size, 2, none⟩ = some (.int .i64 G)) ∧ w'.cell? ⟨w.heap.size + 1, 0, none⟩ = some (.int .i64 H) ∧ w'.cell? ⟨w.heap.size + 1, 1, none⟩ = some (.slice ya hs.length yc))) (by kernel_rfl) (show _ from ⟨⟨G_1.out.1, G_1.out.2.1, G_1.out.2.2⟩, V_1.out.1, V_1.out.2⟩) (fun hHeld => ?_)
  refine wpAnyH_take (i := 0) (v := ?_) rfl (by kernel_rfl) (by kernel_rfl) (by kernel_rfl) (fun _ _ _ h => h) (Or.inl ⟨by kernel_rfl, ?_⟩) (by assumption) ?_
  rotate_left 1
  · intro w9 hSw
    try dsimp only at hSw
    go_simp
    try with_reducible rfl
  try simp only [Act.put, List.getElem_toArray, List.getElem_cons_succ, List.getElem_cons_zero, List.setIfInBounds_toArray, List.set_cons_zero, List.set_cons_succ]
  refine wpAnyH_take (i := 1) (v := ?_) rfl (by kernel_rfl) (by kernel_rfl) (by kernel_rfl) (fun _ _ _ h => h) (Or.inl ⟨by kernel_rfl, ?_⟩) (by assumption) ?_
  rotate_left 1
  · intro w9 hSw
    try dsimp only at hSw
    go_simp
    try with_reducible rfl
  try simp only [Act.put, List.getElem_toArray, List.getElem_cons_succ, List.getElem_cons_zero, List.setIfInBounds_toArray, List.set_cons_zero, List.set_cons_succ]
  refine wpAnyH_take (i := 4) (v := ?_) rfl (by kernel_rfl) (by kernel_rfl) (by kernel_rfl) (fun _ _ _ h => h) (Or.inl ⟨by kernel_rfl, ?_⟩) (by assumption) ?_
  rotate_left 1
  · intro w9 hSw
    try dsimp only at hSw
    go_simp
    try with_reducible rfl
  try simp only [Act.put, List.getElem_toArray, List.getElem_cons_succ, List.getElem_cons_zero, List.setIfInBounds_toArray, List.set_cons_zero, List.set_cons_succ]
  refine wpAnyH_take (i := 5) (v := ?_) rfl (by kernel_rfl) (by kernel_rfl) (by kernel_rfl) (fun _ _ _ h => h) (Or.inl ⟨by kernel_rfl, ?_⟩) (by assumption) ?_
  rotate_left 1
  · intro w9 hSw
    try dsimp only at hSw
    go_simp
    try with_reducible rfl
  try simp only [Act.put, List.getElem_toArray, List.getElem_cons_succ, List.getElem_cons_zero, List.setIfInBounds_toArray, List.set_cons_zero, List.set_cons_succ]
  refine wpAnyH_take (i := 6) (v := ?_) rfl (by kernel_rfl) (by kernel_rfl) (by kernel_rfl) (fun _ _ _ h => h) (Or.inl ⟨by kernel_rfl, ?_⟩) (by assumption) ?_
  rotate_left 1
  · intro w9 hSw
    try dsimp only at hSw
    go_simp
    try with_reducible rfl
  try simp only [Act.put, List.getElem_toArray, List.getElem_cons_succ, List.getElem_cons_zero, List.setIfInBounds_toArray, List.set_cons_zero, List.set_cons_succ]
  have hB0 : (fun w1 => (Below w.heap.size w w1) ∧ (GR w1 w.heap.size P Q G) ∧ (D2 w1 (w.heap.size + 1) (.int .i64 H) (.slice ya hs.length yc)) ∧ (InI B w1 (.slice ya hs.length yc) hs) ∧ (Z2 w1 (w.heap.size + 2) (.slice none 0 0) (.slice none 0 0))) v0.drew := ⟨HB_1.out.drew, G_1.out.drew, V_1.out.drew, Y_1.out.dr, Z_1.out.drew⟩
  refine wpAnyH_part (V := fun i u w1 => cond (Nat.beq i 2) (∃ (b2 : Nat), u = .slice (some ⟨b2, 0, none⟩) 1 1 ∧ (C1a w1 (w.heap.size + 3) b2 H)) (cond (Nat.beq i 3) (∃ (b3 : Nat) (i3 : Nat), u = .slice (some ⟨b3, 0, none⟩) 1 1 ∧ (C2a w1 (w.heap.size + 3) b3 i3 H)) (cond (Nat.beq i 7) (u = .int .i64 (decW P Q G c k)) (cond (Nat.beq i 8) (∃ (b8 : Nat), u = .slice (some ⟨b8, 0, none⟩) 1 1 ∧ (C1a w1 (w.heap.size + 3) b8 (decW P Q G c k))) (cond (Nat.beq i 9) (∃ (b : Nat) (i : Nat) (d : Nat), u = .agg #[.slice (some ⟨b, 0, none⟩) 1 1, .slice (some ⟨d, 0, none⟩) 1 1] ∧ (One w1 (w.heap.size + 3) b i d H (decW P Q G c k))) (True)))))) (B := fun w1 => (Below w.heap.size w w1) ∧ (GR w1 w.heap.size P Q G) ∧ (D2 w1 (w.heap.size + 1) (.int .i64 H) (.slice ya hs.length yc)) ∧ (InI B w1 (.slice ya hs.length yc) hs) ∧ (Z2 w1 (w.heap.size + 2) (.slice none 0 0) (.slice none 0 0))) (R := fun w1 w2 => Below w1.heap.size w1 w2) 1 (rs := [2, 3, 7, 8, 9]) (ds := [(2, some 11), (3, some 12), (7, some 16), (8, some 17), (9, some 18)]) (by kernel_rfl) (by kernel_rfl) (by kernel_rfl) (by kernel_rfl) (by kernel_rfl) ?_ ?_ ?_ hB0 ?_ ?_
  · intro w1 w2 hB hR
    clear hB0
    obtain ⟨b_HBb, b_Gb, b_Vb, b_Yb, b_Zb⟩ := hB
    exact ⟨bt b_HBb hR, b_Gb.below hR, b_Vb.below hR, b_Yb.below hR, b_Zb.below hR⟩
  · clear hB0
    refine Last.cons (fun u w1 w2 hB h hR => ?_) ?_
    · have h1 : ∃ (b2 : Nat), u = .slice (some ⟨b2, 0, none⟩) 1 1 ∧ (C1a w1 (w.heap.size + 3) b2 H) := h
      show ∃ (b2 : Nat), u = .slice (some ⟨b2, 0, none⟩) 1 1 ∧ (C1a w2 (w.heap.size + 3) b2 H)
      obtain ⟨b2, e, f0⟩ := h1
      exact ⟨b2, e, f0.below hR⟩
    refine Last.cons (fun u w1 w2 hB h hR => ?_) ?_
    · have h1 : ∃ (b3 : Nat) (i3 : Nat), u = .slice (some ⟨b3, 0, none⟩) 1 1 ∧ (C2a w1 (w.heap.size + 3) b3 i3 H) := h
      show ∃ (b3 : Nat) (i3 : Nat), u = .slice (some ⟨b3, 0, none⟩) 1 1 ∧ (C2a w2 (w.heap.size + 3) b3 i3 H)
      obtain ⟨b3, i3, e, f0⟩ := h1
      exact ⟨b3, i3, e, f0.below hR⟩
    refine Last.cons (fun u w1 w2 hB h hR => ?_) ?_
    · have h1 : u = .int .i64 (decW P Q G c k) := h
      show u = .int .i64 (decW P Q G c k)
      exact h1
    refine Last.cons (fun u w1 w2 hB h hR => ?_) ?_
    · have h1 : ∃ (b8 : Nat), u = .slice (some ⟨b8, 0, none⟩) 1 1 ∧ (C1a w1 (w.heap.size + 3) b8 (decW P Q G c k)) := h
      show ∃ (b8 : Nat), u = .slice (some ⟨b8, 0, none⟩) 1 1 ∧ (C1a w2 (w.heap.size + 3) b8 (decW P Q G c k))
      obtain ⟨b8, e, f0⟩ := h1
      exact ⟨b8, e, f0.below hR⟩
    refine Last.cons (fun u w1 w2 hB h hR => ?_) ?_
    · have h1 : ∃ (b : Nat) (i : Nat) (d : Nat), u = .agg #[.slice (some ⟨b, 0, none⟩) 1 1, .slice (some ⟨d, 0, none⟩) 1 1] ∧ (One w1 (w.heap.size + 3) b i d H (decW P Q G c k)) := h
      show ∃ (b : Nat) (i : Nat) (d : Nat), u = .agg #[.slice (some ⟨b, 0, none⟩) 1 1, .slice (some ⟨d, 0, none⟩) 1 1] ∧ (One w2 (w.heap.size + 3) b i d H (decW P Q G c k))
      obtain ⟨b, i, d, e, f0⟩ := h1
      exact ⟨b, i, d, e, f0.below hR⟩
    exact Last.nil
  · intro w1 hB
    clear hB0
    obtain ⟨b_HBb, b_Gb, b_Vb, b_Yb, b_Zb⟩ := hB
    have HBb := Lib.hid (show Below w.heap.size w w1 from b_HBb)
    have Gb := Lib.hid (show GR w1 w.heap.size P Q G from b_Gb)
    have Vb := Lib.hid (show D2 w1 (w.heap.size + 1) (.int .i64 H) (.slice ya hs.length yc) from b_Vb)
    have Yb := Lib.hid (show InI B w1 (.slice ya hs.length yc) hs from b_Yb)
    have Zb := Lib.hid (show Z2 w1 (w.heap.size + 2) (.slice none 0 0) (.slice none 0 0) from b_Zb)
    clear b_HBb b_Gb b_Vb b_Yb b_Zb
    exact ⟨⟨Gb.out.1, Gb.out.2.1, Gb.out.2.2⟩, Vb.out.1, Vb.out.2⟩
  · clear hB0 hHeld
    refine Steps.cons rfl (js := []) (by kernel_rfl) rfl (fun v W1 hB hF Q9 K hK => ?_) ?_
    · obtain ⟨b_HBb, b_Gb, b_Vb, b_Yb, b_Zb⟩ := hB
      have HBb := Lib.hid (show Below w.heap.size w W1 from b_HBb)
      have Gb := Lib.hid (show GR W1 w.heap.size P Q G from b_Gb)
      have Vb := Lib.hid (show D2 W1 (w.heap.size + 1) (.int .i64 H) (.slice ya hs.length yc) from b_Vb)
      have Yb := Lib.hid (show InI B W1 (.slice ya hs.length yc) hs from b_Yb)
      have Zb := Lib.hid (show Z2 W1 (w.heap.size + 2) (.slice none 0 0) (.slice none 0 0) from b_Zb)
      clear b_HBb b_Gb b_Vb b_Yb b_Zb
      clear hF
      refine ⟨?_⟩
      simp only [putAll, Act.put, List.setIfInBounds_toArray, List.set_cons_succ, List.set_cons_zero]
      go_simp
      have hk := hK.out
      simp only [putAll, Act.put, List.setIfInBounds_toArray, List.set_cons_succ, List.set_cons_zero] at hk
      refine hk _ _ ?_ ?_
      · show ∃ (b2 : Nat), (_ : Value) = .slice (some ⟨b2, 0, none⟩) 1 1 ∧ (C1a (W1.alloc (.cells #[.int .i64 H] 3)) (w.heap.size + 3) b2 H)
        exact ⟨_, rfl, cell_here W1 _ 0 rfl _ _ _ rfl, Zb.out.lt⟩
      · exact (ba _ _)
    refine Steps.cons rfl (js := [2]) (by kernel_rfl) rfl (fun v W1 hB hF Q9 K hK => ?_) ?_
    · obtain ⟨b_HBb, b_Gb, b_Vb, b_Yb, b_Zb⟩ := hB
      have HBb := Lib.hid (show Below w.heap.size w W1 from b_HBb)
      have Gb := Lib.hid (show GR W1 w.heap.size P Q G from b_Gb)
      have Vb := Lib.hid (show D2 W1 (w.heap.size + 1) (.int .i64 H) (.slice ya hs.length yc) from b_Vb)
      have Yb := Lib.hid (show InI B W1 (.slice ya hs.length yc) hs from b_Yb)
      have Zb := Lib.hid (show Z2 W1 (w.heap.size + 2) (.slice none 0 0) (.slice none 0 0) from b_Zb)
      clear b_HBb b_Gb b_Vb b_Yb b_Zb
      have hf2 : ∃ (b2 : Nat), v 2 = .slice (some ⟨b2, 0, none⟩) 1 1 ∧ (C1a W1 (w.heap.size + 3) b2 H) := hF.1
      obtain ⟨b2, e2, f2_0⟩ := hf2
      have E2 := Lib.hid e2
      have H2 := Lib.hid (show C1a W1 (w.heap.size + 3) b2 H from f2_0)
      clear e2 f2_0
      clear hF
      refine ⟨?_⟩
      simp only [putAll, Act.put, List.setIfInBounds_toArray, List.set_cons_succ, List.set_cons_zero, E2.out]
      go_simp
      have hk := hK.out
      simp only [putAll, Act.put, List.setIfInBounds_toArray, List.set_cons_succ, List.set_cons_zero, E2.out] at hk
      refine hk _ _ ?_ ?_
      · show ∃ (b3 : Nat) (i3 : Nat), (_ : Value) = .slice (some ⟨b3, 0, none⟩) 1 1 ∧ (C2a (W1.alloc (.cells #[.slice (some ⟨b2, 0, none⟩) 1 1] 24)) (w.heap.size + 3) b3 i3 H)
        exact ⟨_, b2, rfl, ⟨cell_here W1 _ 0 rfl _ _ _ rfl, cell_up H2.out.1 _⟩, Zb.out.lt, H2.out.2⟩
      · exact (ba _ _)
    refine Steps.cons rfl (js := []) (by kernel_rfl) rfl (fun v W1 hB hF Q9 K hK => ?_) ?_
    · obtain ⟨b_HBb, b_Gb, b_Vb, b_Yb, b_Zb⟩ := hB
      have HBb := Lib.hid (show Below w.heap.size w W1 from b_HBb)
      have Gb := Lib.hid (show GR W1 w.heap.size P Q G from b_Gb)
      have Vb := Lib.hid (show D2 W1 (w.heap.size + 1) (.int .i64 H) (.slice ya hs.length yc) from b_Vb)
      have Yb := Lib.hid (show InI B W1 (.slice ya hs.length yc) hs from b_Yb)
      have Zb := Lib.hid (show Z2 W1 (w.heap.size + 2) (.slice none 0 0) (.slice none 0 0) from b_Zb)
      clear b_HBb b_Gb b_Vb b_Yb b_Zb
      clear hF
      refine ⟨?_⟩
      simp only [putAll, Act.put, List.setIfInBounds_toArray, List.set_cons_succ, List.set_cons_zero]
      go_simp
      go_at_call 79
      refine (minus_any P Q G c k hg hc hk _).mono ?_
      rintro e' W2 ⟨rfl, hb⟩
      go_wp2_with fail
      have hk := hK.out
      simp only [putAll, Act.put, List.setIfInBounds_toArray, List.set_cons_succ, List.set_cons_zero] at hk
      refine hk _ _ ?_ ?_
      · show (_ : Value) = .int .i64 (decW P Q G c k)
        exact rfl
      · exact hb
    refine Steps.cons rfl (js := [7]) (by kernel_rfl) rfl (fun v W1 hB hF Q9 K hK => ?_) ?_
    · obtain ⟨b_HBb, b_Gb, b_Vb, b_Yb, b_Zb⟩ := hB
      have HBb := Lib.hid (show Below w.heap.size w W1 from b_HBb)
      have Gb := Lib.hid (show GR W1 w.heap.size P Q G from b_Gb)
      have Vb := Lib.hid (show D2 W1 (w.heap.size + 1) (.int .i64 H) (.slice ya hs.length yc) from b_Vb)
      have Yb := Lib.hid (show InI B W1 (.slice ya hs.length yc) hs from b_Yb)
      have Zb := Lib.hid (show Z2 W1 (w.heap.size + 2) (.slice none 0 0) (.slice none 0 0) from b_Zb)
      clear b_HBb b_Gb b_Vb b_Yb b_Zb
      have hf7 : v 7 = .int .i64 (decW P Q G c k) := hF.1
      have e7 := hf7
      have E7 := Lib.hid e7
      clear e7 hf7
      clear hF
      refine ⟨?_⟩
      simp only [putAll, Act.put, List.setIfInBounds_toArray, List.set_cons_succ, List.set_cons_zero, E7.out]
      go_simp
      have hk := hK.out
      simp only [putAll, Act.put, List.setIfInBounds_toArray, List.set_cons_succ, List.set_cons_zero, E7.out] at hk
      refine hk _ _ ?_ ?_
      · show ∃ (b8 : Nat), (_ : Value) = .slice (some ⟨b8, 0, none⟩) 1 1 ∧ (C1a (W1.alloc (.cells #[.int .i64 (decW P Q G c k)] 3)) (w.heap.size + 3) b8 (decW P Q G c k))
        exact ⟨_, rfl, cell_here W1 _ 0 rfl _ _ _ rfl, Zb.out.lt⟩
      · exact (ba _ _)
    refine Steps.cons rfl (js := [3, 8]) (by kernel_rfl) rfl (fun v W1 hB hF Q9 K hK => ?_) ?_
    · obtain ⟨b_HBb, b_Gb, b_Vb, b_Yb, b_Zb⟩ := hB
      have HBb := Lib.hid (show Below w.heap.size w W1 from b_HBb)
      have Gb := Lib.hid (show GR W1 w.heap.size P Q G from b_Gb)
      have Vb := Lib.hid (show D2 W1 (w.heap.size + 1) (.int .i64 H) (.slice ya hs.length yc) from b_Vb)
      have Yb := Lib.hid (show InI B W1 (.slice ya hs.length yc) hs from b_Yb)
      have Zb := Lib.hid (show Z2 W1 (w.heap.size + 2) (.slice none 0 0) (.slice none 0 0) from b_Zb)
      clear b_HBb b_Gb b_Vb b_Yb b_Zb
      have hf3 : ∃ (b3 : Nat) (i3 : Nat), v 3 = .slice (some ⟨b3, 0, none⟩) 1 1 ∧ (C2a W1 (w.heap.size + 3) b3 i3 H) := hF.1
      obtain ⟨b3, i3, e3, f3_0⟩ := hf3
      have E3 := Lib.hid e3
      have H3 := Lib.hid (show C2a W1 (w.heap.size + 3) b3 i3 H from f3_0)
      clear e3 f3_0
      have hf8 : ∃ (b8 : Nat), v 8 = .slice (some ⟨b8, 0, none⟩) 1 1 ∧ (C1a W1 (w.heap.size + 3) b8 (decW P Q G c k)) := hF.2.1
      obtain ⟨b8, e8, f8_0⟩ := hf8
      have E8 := Lib.hid e8
      have H8 := Lib.hid (show C1a W1 (w.heap.size + 3) b8 (decW P Q G c k) from f8_0)
      clear e8 f8_0
      clear hF
      refine ⟨?_⟩
      simp only [putAll, Act.put, List.setIfInBounds_toArray, List.set_cons_succ, List.set_cons_zero, E3.out, E8.out]
      go_simp
      have hk := hK.out
      simp only [putAll, Act.put, List.setIfInBounds_toArray, List.set_cons_succ, List.set_cons_zero, E3.out, E8.out] at hk
      refine hk _ _ ?_ ?_
      · show ∃ (b : Nat) (i : Nat) (d : Nat), (_ : Value) = .agg #[.slice (some ⟨b, 0, none⟩) 1 1, .slice (some ⟨d, 0, none⟩) 1 1] ∧ (One W1 (w.heap.size + 3) b i d H (decW P Q G c k))
        exact ⟨_, _, _, rfl, ⟨H3.out.1.1, H3.out.1.2, H8.out.1⟩, H3.out.2.1, H3.out.2.2, H8.out.2⟩
      · exact (Below.refl _ _)
    exact Steps.nil
  intro v We hB hF
  clear hB0 hHeld
  obtain ⟨b_HBb, b_Gb, b_Vb, b_Yb, b_Zb⟩ := hB
  have HBb := Lib.hid (show Below w.heap.size w We from b_HBb)
  have Gb := Lib.hid (show GR We w.heap.size P Q G from b_Gb)
  have Vb := Lib.hid (show D2 We (w.heap.size + 1) (.int .i64 H) (.slice ya hs.length yc) from b_Vb)
  have Yb := Lib.hid (show InI B We (.slice ya hs.length yc) hs from b_Yb)
  have Zb := Lib.hid (show Z2 We (w.heap.size + 2) (.slice none 0 0) (.slice none 0 0) from b_Zb)
  clear b_HBb b_Gb b_Vb b_Yb b_Zb
  have hf2 : ∃ (b2 : Nat), v 2 = .slice (some ⟨b2, 0, none⟩) 1 1 ∧ (C1a We (w.heap.size + 3) b2 H) := hF.1
  obtain ⟨b2, e2, f2_0⟩ := hf2
  have E2 := Lib.hid e2
  have H2 := Lib.hid (show C1a We (w.heap.size + 3) b2 H from f2_0)
  clear e2 f2_0
  have hf3 : ∃ (b3 : Nat) (i3 : Nat), v 3 = .slice (some ⟨b3, 0, none⟩) 1 1 ∧ (C2a We (w.heap.size + 3) b3 i3 H) := hF.2.1
  obtain ⟨b3, i3, e3, f3_0⟩ := hf3
  have E3 := Lib.hid e3
  have H3 := Lib.hid (show C2a We (w.heap.size + 3) b3 i3 H from f3_0)
  clear e3 f3_0
  have hf7 : v 7 = .int .i64 (decW P Q G c k) := hF.2.2.1
  have e7 := hf7
  have E7 := Lib.hid e7
  clear e7 hf7
  have hf8 : ∃ (b8 : Nat), v 8 = .slice (some ⟨b8, 0, none⟩) 1 1 ∧ (C1a We (w.heap.size + 3) b8 (decW P Q G c k)) := hF.2.2.2.1
  obtain ⟨b8, e8, f8_0⟩ := hf8
  have E8 := Lib.hid e8
  have H8 := Lib.hid (show C1a We (w.heap.size + 3) b8 (decW P Q G c k) from f8_0)
  clear e8 f8_0
  have hf9 : ∃ (b : Nat) (i : Nat) (d : Nat), v 9 = .agg #[.slice (some ⟨b, 0, none⟩) 1 1, .slice (some ⟨d, 0, none⟩) 1 1] ∧ (One We (w.heap.size + 3) b i d H (decW P Q G c k)) := hF.2.2.2.2.1
  obtain ⟨b, i, d, e9, f9_0⟩ := hf9
  have E9 := Lib.hid e9
  have HC := Lib.hid (show One We (w.heap.size + 3) b i d H (decW P Q G c k) from f9_0)
  clear e9 f9_0
  clear hF
  refine ⟨?_⟩
  simp only [putAll, Act.put, List.setIfInBounds_toArray, List.set_cons_succ, List.set_cons_zero, E2.out, E3.out, E7.out, E8.out, E9.out]
  refine wpAnyH_ready (rs := [10]) (by kernel_rfl) (by simp) ?_
  refine AllReadyH.cons rfl (fun K hK => ?_) AllReadyH.nil
  obtain ⟨⟨y0, y1⟩, yf0, yf1⟩ := Zb.out
  go_simp
  have hm5 := mid2 We (w.heap.size + 2) (.slice (some ⟨b, 0, none⟩) 1 1) (.slice (some ⟨d, 0, none⟩) 1 1)
  have Z9 := Zb.out.lt
  refine hK.out _ _ (show _ from ⟨⟨(Gb.out.mid hm5 (.inl (by omega))).1, (Gb.out.mid hm5 (.inl (by omega))).2.1, (Gb.out.mid hm5 (.inl (by omega))).2.2⟩, (mid_d2 Vb.out hm5 (.inl (by omega))).1, (mid_d2 Vb.out hm5 (.inl (by omega))).2⟩) (fun hHeld => ?_)
  clear hK K
  refine wpAnyH_done (by kernel_rfl) ?_ _
  go_wp2
  (try simp only [Exit.inBlock, Exit.then])
  refine bodyPost_ret (v := .agg #[.slice (some ⟨b, 0, none⟩) 1 1, .slice (some ⟨d, 0, none⟩) 1 1]) ?_ rfl ?_
  · rw [results_cell_one rfl]; go_simp
  · have hs5 := hm5.size
    exact ⟨_, _, rfl, ((HC.out.kp).mid hm5 (.inr (Nat.le_refl _))).wide (by omega) hs5 (Nat.le_refl _), HBb.out.trans (hm5.toBelow (by omega) HBb.out.size)⟩

theorem KPL.lin1 {lo g : Nat} {w : World} {v1 v2 : Value} {p : LinD} (hg : lo ≤ g) (h0 : w.cell? ⟨g, 0, none⟩ = some v1) (h1 : w.cell? ⟨g, 1, none⟩ = some v2) (hp : KPL lo (fun W => LinAt W v1 v2 p) w) :
    KPL lo (fun W => InL W (.slice (some ⟨g, 0, none⟩) 1 1) [p]) w :=
  KP.imp (((KPL.cell hg h0).and (KPL.cell hg h1)).and hp) fun w' h => ⟨g, 1, rfl, h.1.1.2, fun i q hq => by
    match i, hq with
    | 0, hq =>
      simp only [List.getElem?_cons_zero, Option.some.injEq] at hq
      subst hq
      exact ⟨v1, v2, h.1.1.1, h.1.2.1, h.2⟩⟩
theorem KPL.lin2 {lo g : Nat} {w : World} {v1 v2 v3 v4 : Value} {p q : LinD} (hg : lo ≤ g) (h0 : w.cell? ⟨g, 0, none⟩ = some v1) (h1 : w.cell? ⟨g, 1, none⟩ = some v2) (h2 : w.cell? ⟨g, 2, none⟩ = some v3) (h3 : w.cell? ⟨g, 3, none⟩ = some v4) (hp : KPL lo (fun W => LinAt W v1 v2 p) w) (hq : KPL lo (fun W => LinAt W v3 v4 q) w) :
    KPL lo (fun W => InL W (.slice (some ⟨g, 0, none⟩) 2 2) [p, q]) w :=
  KP.imp ((((KPL.cell hg h0).and (KPL.cell hg h1)).and ((KPL.cell hg h2).and (KPL.cell hg h3))).and (hp.and hq)) fun w' h => ⟨g, 2, rfl, h.1.1.1.2, fun i r hr => by
    match i, hr with
    | 0, hr =>
      simp only [List.getElem?_cons_zero, Option.some.injEq] at hr
      subst hr
      exact ⟨v1, v2, h.1.1.1.1, h.1.1.2.1, h.2.1⟩
    | 1, hr =>
      simp only [List.getElem?_cons_succ, List.getElem?_cons_zero, Option.some.injEq] at hr
      subst hr
      exact ⟨v3, v4, h.1.2.1.1, h.1.2.2.1, h.2.2⟩⟩
def ClmOut (w : World) (ps : List LinD) (es : List Int) (e : Ending) (w' : World) : Prop := ∃ v1 v2, e = .returned (.agg #[v1, v2]) ∧ KP w.heap.size w'.heap.size (fun W => InL W v1 ps ∧ ∃ B, InI B W v2 es) w' ∧ Below w.heap.size w w'

set_option maxRecDepth 100000 in
set_option maxHeartbeats 3200000 in
theorem bitOf_any (P Q G H c : Int) (hg : goodB P Q G = true) (hc : elB P Q c = true) (h2 : 2 ≤ Q) {B : Nat} {y : Value} {hs : List Int} {w : World} (hy : InI B w y hs) :
    Calls Try.prog 53 #[gv P Q G, .agg #[.int .i64 H, y], .int .i64 c] w (ClmOut w [([[H]], [decW P Q G c 0]), ([[H]], [decW P Q G c 1])] [H, c]) := by
  obtain ⟨ya, yc, rfl⟩ := hy.shape
  have G_0 := Lib.hid ((gr_at w (w.heap.size) (by simp) P Q G 32).below (ba (w.alloc (.cells #[.int .i64 P, .int .i64 Q, .int .i64 G] 32)) (.cells #[.int .i64 H, .slice ya hs.length yc] 34)))
  have V_0 := Lib.hid (d2_at (w.alloc (.cells #[.int .i64 P, .int .i64 Q, .int .i64 G] 32)) (w.heap.size + 1) (by simp) (.int .i64 H) (.slice ya hs.length yc) 34)
  have HB_0 := Lib.hid (show Below w.heap.size w ((w.alloc (.cells #[.int .i64 P, .int .i64 Q, .int .i64 G] 32)).alloc (.cells #[.int .i64 H, .slice ya hs.length yc] 34)) from bt (ba _ _) (ba _ _))
  have Y_0 := Lib.hid (hy.below HB_0.out)
  clear hy
  have hz := z2_at ((w.alloc (.cells #[.int .i64 P, .int .i64 Q, .int .i64 G] 32)).alloc (.cells #[.int .i64 H, .slice ya hs.length yc] 34)) (w.heap.size + 2) (by simp) (.slice none 0 0) (.slice none 0 0) 82
  have hal := ba ((w.alloc (.cells #[.int .i64 P, .int .i64 Q, .int .i64 G] 32)).alloc (.cells #[.int .i64 H, .slice ya hs.length yc] 34)) (.cells #[.slice none 0 0, .slice none 0 0] 82)
  have HB_1 := Lib.hid (bt HB_0.out hal)
  have G_1 := Lib.hid (G_0.out.below hal)
  have V_1 := Lib.hid (V_0.out.below hal)
  have Y_1 := Lib.hid (Y_0.out.below hal)
  have Z_1 := Lib.hid hz
  clear hz hal HB_0 G_0 V_0 Y_0
  obtain ⟨gG0, gG1, gG2⟩ := G_1.out
  obtain ⟨cV0, cV1⟩ := V_1.out
  go_enter Try.func53, Try.ntmps53
  go_wp2_with fail
  clear gG0 gG1 gG2 cV0 cV1
  generalize hW9 : ((w.alloc (.cells #[.int .i64 P, .int .i64 Q, .int .i64 G] 32)).alloc (.cells #[.int .i64 H, .slice ya hs.length yc] 34)).alloc (.cells #[.slice none 0 0, .slice none 0 0] 82) = v0 at *
  clear hW9
  refine wp_region_held_drew (S := (fun w' => (w'.cell? ⟨w.heap.size, 0, none⟩ = some (.int .i64 P) ∧ w'.cell? ⟨w.heap.size, 1, none⟩ = some (.int .i64 Q) ∧ w'.cell? ⟨w.heap.size, 2, none⟩ = some (.int .i64 G)) ∧ w'.cell? ⟨w.heap.size + 1, 0, none⟩ = some (.int .i64 H) ∧ w'.cell? ⟨w.heap.size + 1, 1, none⟩ = some (.slice ya hs.length yc))) (by kernel_rfl) (show _ from ⟨⟨G_1.out.1, G_1.out.2.1, G_1.out.2.2⟩, V_1.out.1, V_1.out.2⟩) (fun hHeld => ?_)
  refine wpAnyH_take (i := 0) (v := ?_) rfl (by kernel_rfl) (by kernel_rfl) (by kernel_rfl) (fun _ _ _ h => h) (Or.inl ⟨by kernel_rfl, ?_⟩) (by assumption) ?_
  rotate_left 1
  · intro w9 hSw
    try dsimp only at hSw
    go_simp
    try with_reducible rfl
  try simp only [Act.put, List.getElem_toArray, List.getElem_cons_succ, List.getElem_cons_zero, List.setIfInBounds_toArray, List.set_cons_zero, List.set_cons_succ]
  refine wpAnyH_take (i := 1) (v := ?_) rfl (by kernel_rfl) (by kernel_rfl) (by kernel_rfl) (fun _ _ _ h => h) (Or.inl ⟨by kernel_rfl, ?_⟩) (by assumption) ?_
  rotate_left 1
  · intro w9 hSw
    try dsimp only at hSw
    go_simp
    try with_reducible rfl
  try simp only [Act.put, List.getElem_toArray, List.getElem_cons_succ, List.getElem_cons_zero, List.setIfInBounds_toArray, List.set_cons_zero, List.set_cons_succ]
  refine wpAnyH_take (i := 2) (v := ?_) rfl (by kernel_rfl) (by kernel_rfl) (by kernel_rfl) (fun _ _ _ h => h) (Or.inl ⟨by kernel_rfl, ?_⟩) (by assumption) ?_
  rotate_left 1
  · intro w9 hSw
    try dsimp only at hSw
    go_simp
    try with_reducible rfl
  try simp only [Act.put, List.getElem_toArray, List.getElem_cons_succ, List.getElem_cons_zero, List.setIfInBounds_toArray, List.set_cons_zero, List.set_cons_succ]
  refine wpAnyH_take (i := 4) (v := ?_) rfl (by kernel_rfl) (by kernel_rfl) (by kernel_rfl) (fun _ _ _ h => h) (Or.inl ⟨by kernel_rfl, ?_⟩) (by assumption) ?_
  rotate_left 1
  · intro w9 hSw
    try dsimp only at hSw
    go_simp
    try with_reducible rfl
  try simp only [Act.put, List.getElem_toArray, List.getElem_cons_succ, List.getElem_cons_zero, List.setIfInBounds_toArray, List.set_cons_zero, List.set_cons_succ]
  refine wpAnyH_take (i := 5) (v := ?_) rfl (by kernel_rfl) (by kernel_rfl) (by kernel_rfl) (fun _ _ _ h => h) (Or.inl ⟨by kernel_rfl, ?_⟩) (by assumption) ?_
  rotate_left 1
  · intro w9 hSw
    try dsimp only at hSw
    go_simp
    try with_reducible rfl
  try simp only [Act.put, List.getElem_toArray, List.getElem_cons_succ, List.getElem_cons_zero, List.setIfInBounds_toArray, List.set_cons_zero, List.set_cons_succ]
  refine wpAnyH_take (i := 6) (v := ?_) rfl (by kernel_rfl) (by kernel_rfl) (by kernel_rfl) (fun _ _ _ h => h) (Or.inl ⟨by kernel_rfl, ?_⟩) (by assumption) ?_
  rotate_left 1
  · intro w9 hSw
    try dsimp only at hSw
    go_simp
    try with_reducible rfl
  try simp only [Act.put, List.getElem_toArray, List.getElem_cons_succ, List.getElem_cons_zero, List.setIfInBounds_toArray, List.set_cons_zero, List.set_cons_succ]
  refine wpAnyH_take (i := 9) (v := ?_) rfl (by kernel_rfl) (by kernel_rfl) (by kernel_rfl) (fun _ _ _ h => h) (Or.inl ⟨by kernel_rfl, ?_⟩) (by assumption) ?_
  rotate_left 1
  · intro w9 hSw
    try dsimp only at hSw
    go_simp
    try with_reducible rfl
  try simp only [Act.put, List.getElem_toArray, List.getElem_cons_succ, List.getElem_cons_zero, List.setIfInBounds_toArray, List.set_cons_zero, List.set_cons_succ]
  refine wpAnyH_take (i := 10) (v := ?_) rfl (by kernel_rfl) (by kernel_rfl) (by kernel_rfl) (fun _ _ _ h => h) (Or.inl ⟨by kernel_rfl, ?_⟩) (by assumption) ?_
  rotate_left 1
  · intro w9 hSw
    try dsimp only at hSw
    go_simp
    try with_reducible rfl
  try simp only [Act.put, List.getElem_toArray, List.getElem_cons_succ, List.getElem_cons_zero, List.setIfInBounds_toArray, List.set_cons_zero, List.set_cons_succ]
  refine wpAnyH_take (i := 11) (v := ?_) rfl (by kernel_rfl) (by kernel_rfl) (by kernel_rfl) (fun _ _ _ h => h) (Or.inl ⟨by kernel_rfl, ?_⟩) (by assumption) ?_
  rotate_left 1
  · intro w9 hSw
    try dsimp only at hSw
    go_simp
    try with_reducible rfl
  try simp only [Act.put, List.getElem_toArray, List.getElem_cons_succ, List.getElem_cons_zero, List.setIfInBounds_toArray, List.set_cons_zero, List.set_cons_succ]
  have hB0 : (fun w1 => (Below w.heap.size w w1) ∧ (GR w1 w.heap.size P Q G) ∧ (D2 w1 (w.heap.size + 1) (.int .i64 H) (.slice ya hs.length yc)) ∧ (InI B w1 (.slice ya hs.length yc) hs) ∧ (Z2 w1 (w.heap.size + 2) (.slice none 0 0) (.slice none 0 0))) v0.drew := ⟨HB_1.out.drew, G_1.out.drew, V_1.out.drew, Y_1.out.dr, Z_1.out.drew⟩
  refine wpAnyH_part (V := fun i u w1 => cond (Nat.beq i 3) (∃ (b3 : Nat) (d3 : Nat), u = .agg #[.slice (some ⟨b3, 0, none⟩) 1 1, .slice (some ⟨d3, 0, none⟩) 1 1] ∧ (KPL (w.heap.size + 3) (fun W => LinAt W (.slice (some ⟨b3, 0, none⟩) 1 1) (.slice (some ⟨d3, 0, none⟩) 1 1) ([[H]], [decW P Q G c 0])) w1)) (cond (Nat.beq i 7) (∃ (b7 : Nat) (d7 : Nat), u = .agg #[.slice (some ⟨b7, 0, none⟩) 1 1, .slice (some ⟨d7, 0, none⟩) 1 1] ∧ (KPL (w.heap.size + 3) (fun W => LinAt W (.slice (some ⟨b7, 0, none⟩) 1 1) (.slice (some ⟨d7, 0, none⟩) 1 1) ([[H]], [decW P Q G c 1])) w1)) (cond (Nat.beq i 8) (∃ (g8 : Nat), u = .slice (some ⟨g8, 0, none⟩) 2 2 ∧ (KPL (w.heap.size + 3) (fun W => InL W (.slice (some ⟨g8, 0, none⟩) 2 2) [([[H]], [decW P Q G c 0]), ([[H]], [decW P Q G c 1])]) w1)) (cond (Nat.beq i 12) (∃ (g9 : Nat), u = .slice (some ⟨g9, 0, none⟩) 2 2 ∧ (KPL (w.heap.size + 3) (fun W => InI W.heap.size W (.slice (some ⟨g9, 0, none⟩) 2 2) [H, c]) w1)) (cond (Nat.beq i 13) (∃ (g : Nat) (h : Nat), u = .agg #[.slice (some ⟨g, 0, none⟩) 2 2, .slice (some ⟨h, 0, none⟩) 2 2] ∧ (KPL (w.heap.size + 3) (fun W => InL W (.slice (some ⟨g, 0, none⟩) 2 2) [([[H]], [decW P Q G c 0]), ([[H]], [decW P Q G c 1])]) w1) ∧ (KPL (w.heap.size + 3) (fun W => InI W.heap.size W (.slice (some ⟨h, 0, none⟩) 2 2) [H, c]) w1)) (True)))))) (B := fun w1 => (Below w.heap.size w w1) ∧ (GR w1 w.heap.size P Q G) ∧ (D2 w1 (w.heap.size + 1) (.int .i64 H) (.slice ya hs.length yc)) ∧ (InI B w1 (.slice ya hs.length yc) hs) ∧ (Z2 w1 (w.heap.size + 2) (.slice none 0 0) (.slice none 0 0))) (R := fun w1 w2 => Below w1.heap.size w1 w2) 1 (rs := [3, 7, 8, 12, 13]) (ds := [(3, some 10), (7, some 14), (8, some 15), (12, some 19), (13, some 20)]) (by kernel_rfl) (by kernel_rfl) (by kernel_rfl) (by kernel_rfl) (by kernel_rfl) ?_ ?_ ?_ hB0 ?_ ?_
  · intro w1 w2 hB hR
    clear hB0
    obtain ⟨b_HBb, b_Gb, b_Vb, b_Yb, b_Zb⟩ := hB
    exact ⟨bt b_HBb hR, b_Gb.below hR, b_Vb.below hR, b_Yb.below hR, b_Zb.below hR⟩
  · clear hB0
    refine Last.cons (fun u w1 w2 hB h hR => ?_) ?_
    · have h1 : ∃ (b3 : Nat) (d3 : Nat), u = .agg #[.slice (some ⟨b3, 0, none⟩) 1 1, .slice (some ⟨d3, 0, none⟩) 1 1] ∧ (KPL (w.heap.size + 3) (fun W => LinAt W (.slice (some ⟨b3, 0, none⟩) 1 1) (.slice (some ⟨d3, 0, none⟩) 1 1) ([[H]], [decW P Q G c 0])) w1) := h
      show ∃ (b3 : Nat) (d3 : Nat), u = .agg #[.slice (some ⟨b3, 0, none⟩) 1 1, .slice (some ⟨d3, 0, none⟩) 1 1] ∧ (KPL (w.heap.size + 3) (fun W => LinAt W (.slice (some ⟨b3, 0, none⟩) 1 1) (.slice (some ⟨d3, 0, none⟩) 1 1) ([[H]], [decW P Q G c 0])) w2)
      obtain ⟨b3, d3, e, f0⟩ := h1
      exact ⟨b3, d3, e, f0.below hR⟩
    refine Last.cons (fun u w1 w2 hB h hR => ?_) ?_
    · have h1 : ∃ (b7 : Nat) (d7 : Nat), u = .agg #[.slice (some ⟨b7, 0, none⟩) 1 1, .slice (some ⟨d7, 0, none⟩) 1 1] ∧ (KPL (w.heap.size + 3) (fun W => LinAt W (.slice (some ⟨b7, 0, none⟩) 1 1) (.slice (some ⟨d7, 0, none⟩) 1 1) ([[H]], [decW P Q G c 1])) w1) := h
      show ∃ (b7 : Nat) (d7 : Nat), u = .agg #[.slice (some ⟨b7, 0, none⟩) 1 1, .slice (some ⟨d7, 0, none⟩) 1 1] ∧ (KPL (w.heap.size + 3) (fun W => LinAt W (.slice (some ⟨b7, 0, none⟩) 1 1) (.slice (some ⟨d7, 0, none⟩) 1 1) ([[H]], [decW P Q G c 1])) w2)
      obtain ⟨b7, d7, e, f0⟩ := h1
      exact ⟨b7, d7, e, f0.below hR⟩
    refine Last.cons (fun u w1 w2 hB h hR => ?_) ?_
    · have h1 : ∃ (g8 : Nat), u = .slice (some ⟨g8, 0, none⟩) 2 2 ∧ (KPL (w.heap.size + 3) (fun W => InL W (.slice (some ⟨g8, 0, none⟩) 2 2) [([[H]], [decW P Q G c 0]), ([[H]], [decW P Q G c 1])]) w1) := h
      show ∃ (g8 : Nat), u = .slice (some ⟨g8, 0, none⟩) 2 2 ∧ (KPL (w.heap.size + 3) (fun W => InL W (.slice (some ⟨g8, 0, none⟩) 2 2) [([[H]], [decW P Q G c 0]), ([[H]], [decW P Q G c 1])]) w2)
      obtain ⟨g8, e, f0⟩ := h1
      exact ⟨g8, e, f0.below hR⟩
    refine Last.cons (fun u w1 w2 hB h hR => ?_) ?_
    · have h1 : ∃ (g9 : Nat), u = .slice (some ⟨g9, 0, none⟩) 2 2 ∧ (KPL (w.heap.size + 3) (fun W => InI W.heap.size W (.slice (some ⟨g9, 0, none⟩) 2 2) [H, c]) w1) := h
      show ∃ (g9 : Nat), u = .slice (some ⟨g9, 0, none⟩) 2 2 ∧ (KPL (w.heap.size + 3) (fun W => InI W.heap.size W (.slice (some ⟨g9, 0, none⟩) 2 2) [H, c]) w2)
      obtain ⟨g9, e, f0⟩ := h1
      exact ⟨g9, e, f0.below hR⟩
    refine Last.cons (fun u w1 w2 hB h hR => ?_) ?_
    · have h1 : ∃ (g : Nat) (h : Nat), u = .agg #[.slice (some ⟨g, 0, none⟩) 2 2, .slice (some ⟨h, 0, none⟩) 2 2] ∧ (KPL (w.heap.size + 3) (fun W => InL W (.slice (some ⟨g, 0, none⟩) 2 2) [([[H]], [decW P Q G c 0]), ([[H]], [decW P Q G c 1])]) w1) ∧ (KPL (w.heap.size + 3) (fun W => InI W.heap.size W (.slice (some ⟨h, 0, none⟩) 2 2) [H, c]) w1) := h
      show ∃ (g : Nat) (h : Nat), u = .agg #[.slice (some ⟨g, 0, none⟩) 2 2, .slice (some ⟨h, 0, none⟩) 2 2] ∧ (KPL (w.heap.size + 3) (fun W => InL W (.slice (some ⟨g, 0, none⟩) 2 2) [([[H]], [decW P Q G c 0]), ([[H]], [decW P Q G c 1])]) w2) ∧ (KPL (w.heap.size + 3) (fun W => InI W.heap.size W (.slice (some ⟨h, 0, none⟩) 2 2) [H, c]) w2)
      obtain ⟨g, h, e, f0, f1⟩ := h1
      exact ⟨g, h, e, f0.below hR, f1.below hR⟩
    exact Last.nil
  · intro w1 hB
    clear hB0
    obtain ⟨b_HBb, b_Gb, b_Vb, b_Yb, b_Zb⟩ := hB
    have HBb := Lib.hid (show Below w.heap.size w w1 from b_HBb)
    have Gb := Lib.hid (show GR w1 w.heap.size P Q G from b_Gb)
    have Vb := Lib.hid (show D2 w1 (w.heap.size + 1) (.int .i64 H) (.slice ya hs.length yc) from b_Vb)
    have Yb := Lib.hid (show InI B w1 (.slice ya hs.length yc) hs from b_Yb)
    have Zb := Lib.hid (show Z2 w1 (w.heap.size + 2) (.slice none 0 0) (.slice none 0 0) from b_Zb)
    clear b_HBb b_Gb b_Vb b_Yb b_Zb
    exact ⟨⟨Gb.out.1, Gb.out.2.1, Gb.out.2.2⟩, Vb.out.1, Vb.out.2⟩
  · clear hB0 hHeld
    refine Steps.cons rfl (js := []) (by kernel_rfl) rfl (fun v W1 hB hF Q9 K hK => ?_) ?_
    · obtain ⟨b_HBb, b_Gb, b_Vb, b_Yb, b_Zb⟩ := hB
      have HBb := Lib.hid (show Below w.heap.size w W1 from b_HBb)
      have Gb := Lib.hid (show GR W1 w.heap.size P Q G from b_Gb)
      have Vb := Lib.hid (show D2 W1 (w.heap.size + 1) (.int .i64 H) (.slice ya hs.length yc) from b_Vb)
      have Yb := Lib.hid (show InI B W1 (.slice ya hs.length yc) hs from b_Yb)
      have Zb := Lib.hid (show Z2 W1 (w.heap.size + 2) (.slice none 0 0) (.slice none 0 0) from b_Zb)
      clear b_HBb b_Gb b_Vb b_Yb b_Zb
      clear hF
      refine ⟨?_⟩
      simp only [putAll, Act.put, List.setIfInBounds_toArray, List.set_cons_succ, List.set_cons_zero]
      go_simp
      go_at_call 97
      refine (hides_any P Q G H c 0 hg hc ⟨by decide, by omega⟩ Yb.out).mono ?_
      rintro e' W2 ⟨b9, d9, rfl, hk9, hb⟩
      go_wp2_with fail
      have hk := hK.out
      simp only [putAll, Act.put, List.setIfInBounds_toArray, List.set_cons_succ, List.set_cons_zero] at hk
      refine hk _ _ ?_ ?_
      · show ∃ (b3 : Nat) (d3 : Nat), (_ : Value) = .agg #[.slice (some ⟨b3, 0, none⟩) 1 1, .slice (some ⟨d3, 0, none⟩) 1 1] ∧ (KPL (w.heap.size + 3) (fun W => LinAt W (.slice (some ⟨b3, 0, none⟩) 1 1) (.slice (some ⟨d3, 0, none⟩) 1 1) ([[H]], [decW P Q G c 0])) W2)
        exact ⟨b9, d9, rfl, hk9.wide Zb.out.lt (Nat.le_refl _) (Nat.le_refl _)⟩
      · exact hb
    refine Steps.cons rfl (js := [3]) (by kernel_rfl) rfl (fun v W1 hB hF Q9 K hK => ?_) ?_
    · obtain ⟨b_HBb, b_Gb, b_Vb, b_Yb, b_Zb⟩ := hB
      have HBb := Lib.hid (show Below w.heap.size w W1 from b_HBb)
      have Gb := Lib.hid (show GR W1 w.heap.size P Q G from b_Gb)
      have Vb := Lib.hid (show D2 W1 (w.heap.size + 1) (.int .i64 H) (.slice ya hs.length yc) from b_Vb)
      have Yb := Lib.hid (show InI B W1 (.slice ya hs.length yc) hs from b_Yb)
      have Zb := Lib.hid (show Z2 W1 (w.heap.size + 2) (.slice none 0 0) (.slice none 0 0) from b_Zb)
      clear b_HBb b_Gb b_Vb b_Yb b_Zb
      have hf3 : ∃ (b3 : Nat) (d3 : Nat), v 3 = .agg #[.slice (some ⟨b3, 0, none⟩) 1 1, .slice (some ⟨d3, 0, none⟩) 1 1] ∧ (KPL (w.heap.size + 3) (fun W => LinAt W (.slice (some ⟨b3, 0, none⟩) 1 1) (.slice (some ⟨d3, 0, none⟩) 1 1) ([[H]], [decW P Q G c 0])) W1) := hF.1
      obtain ⟨b3, d3, e3, f3_0⟩ := hf3
      have E3 := Lib.hid e3
      have H3 := Lib.hid (show KPL (w.heap.size + 3) (fun W => LinAt W (.slice (some ⟨b3, 0, none⟩) 1 1) (.slice (some ⟨d3, 0, none⟩) 1 1) ([[H]], [decW P Q G c 0])) W1 from f3_0)
      clear e3 f3_0
      clear hF
      refine ⟨?_⟩
      simp only [putAll, Act.put, List.setIfInBounds_toArray, List.set_cons_succ, List.set_cons_zero, E3.out]
      go_simp
      go_at_call 97
      refine (hides_any P Q G H c 1 hg hc ⟨by decide, by omega⟩ Yb.out).mono ?_
      rintro e' W2 ⟨b9, d9, rfl, hk9, hb⟩
      go_wp2_with fail
      have hk := hK.out
      simp only [putAll, Act.put, List.setIfInBounds_toArray, List.set_cons_succ, List.set_cons_zero, E3.out] at hk
      refine hk _ _ ?_ ?_
      · show ∃ (b7 : Nat) (d7 : Nat), (_ : Value) = .agg #[.slice (some ⟨b7, 0, none⟩) 1 1, .slice (some ⟨d7, 0, none⟩) 1 1] ∧ (KPL (w.heap.size + 3) (fun W => LinAt W (.slice (some ⟨b7, 0, none⟩) 1 1) (.slice (some ⟨d7, 0, none⟩) 1 1) ([[H]], [decW P Q G c 1])) W2)
        exact ⟨b9, d9, rfl, hk9.wide Zb.out.lt (Nat.le_refl _) (Nat.le_refl _)⟩
      · exact hb
    refine Steps.cons rfl (js := [3, 7]) (by kernel_rfl) rfl (fun v W1 hB hF Q9 K hK => ?_) ?_
    · obtain ⟨b_HBb, b_Gb, b_Vb, b_Yb, b_Zb⟩ := hB
      have HBb := Lib.hid (show Below w.heap.size w W1 from b_HBb)
      have Gb := Lib.hid (show GR W1 w.heap.size P Q G from b_Gb)
      have Vb := Lib.hid (show D2 W1 (w.heap.size + 1) (.int .i64 H) (.slice ya hs.length yc) from b_Vb)
      have Yb := Lib.hid (show InI B W1 (.slice ya hs.length yc) hs from b_Yb)
      have Zb := Lib.hid (show Z2 W1 (w.heap.size + 2) (.slice none 0 0) (.slice none 0 0) from b_Zb)
      clear b_HBb b_Gb b_Vb b_Yb b_Zb
      have hf3 : ∃ (b3 : Nat) (d3 : Nat), v 3 = .agg #[.slice (some ⟨b3, 0, none⟩) 1 1, .slice (some ⟨d3, 0, none⟩) 1 1] ∧ (KPL (w.heap.size + 3) (fun W => LinAt W (.slice (some ⟨b3, 0, none⟩) 1 1) (.slice (some ⟨d3, 0, none⟩) 1 1) ([[H]], [decW P Q G c 0])) W1) := hF.1
      obtain ⟨b3, d3, e3, f3_0⟩ := hf3
      have E3 := Lib.hid e3
      have H3 := Lib.hid (show KPL (w.heap.size + 3) (fun W => LinAt W (.slice (some ⟨b3, 0, none⟩) 1 1) (.slice (some ⟨d3, 0, none⟩) 1 1) ([[H]], [decW P Q G c 0])) W1 from f3_0)
      clear e3 f3_0
      have hf7 : ∃ (b7 : Nat) (d7 : Nat), v 7 = .agg #[.slice (some ⟨b7, 0, none⟩) 1 1, .slice (some ⟨d7, 0, none⟩) 1 1] ∧ (KPL (w.heap.size + 3) (fun W => LinAt W (.slice (some ⟨b7, 0, none⟩) 1 1) (.slice (some ⟨d7, 0, none⟩) 1 1) ([[H]], [decW P Q G c 1])) W1) := hF.2.1
      obtain ⟨b7, d7, e7, f7_0⟩ := hf7
      have E7 := Lib.hid e7
      have H7 := Lib.hid (show KPL (w.heap.size + 3) (fun W => LinAt W (.slice (some ⟨b7, 0, none⟩) 1 1) (.slice (some ⟨d7, 0, none⟩) 1 1) ([[H]], [decW P Q G c 1])) W1 from f7_0)
      clear e7 f7_0
      clear hF
      refine ⟨?_⟩
      simp only [putAll, Act.put, List.setIfInBounds_toArray, List.set_cons_succ, List.set_cons_zero, E3.out, E7.out]
      go_simp
      have hk := hK.out
      simp only [putAll, Act.put, List.setIfInBounds_toArray, List.set_cons_succ, List.set_cons_zero, E3.out, E7.out] at hk
      refine hk _ _ ?_ ?_
      · show ∃ (g8 : Nat), (_ : Value) = .slice (some ⟨g8, 0, none⟩) 2 2 ∧ (KPL (w.heap.size + 3) (fun W => InL W (.slice (some ⟨g8, 0, none⟩) 2 2) [([[H]], [decW P Q G c 0]), ([[H]], [decW P Q G c 1])]) (W1.alloc (.cells #[.slice (some ⟨b3, 0, none⟩) 1 1, .slice (some ⟨d3, 0, none⟩) 1 1, .slice (some ⟨b7, 0, none⟩) 1 1, .slice (some ⟨d7, 0, none⟩) 1 1] 117)))
        exact ⟨_, rfl, KPL.lin2 Zb.out.lt (cell_here W1 _ 0 rfl _ _ _ rfl) (cell_here W1 _ 1 rfl _ _ _ rfl) (cell_here W1 _ 2 rfl _ _ _ rfl) (cell_here W1 _ 3 rfl _ _ _ rfl) (H3.out.below (ba _ _)) (H7.out.below (ba _ _))⟩
      · exact (ba _ _)
    refine Steps.cons rfl (js := []) (by kernel_rfl) rfl (fun v W1 hB hF Q9 K hK => ?_) ?_
    · obtain ⟨b_HBb, b_Gb, b_Vb, b_Yb, b_Zb⟩ := hB
      have HBb := Lib.hid (show Below w.heap.size w W1 from b_HBb)
      have Gb := Lib.hid (show GR W1 w.heap.size P Q G from b_Gb)
      have Vb := Lib.hid (show D2 W1 (w.heap.size + 1) (.int .i64 H) (.slice ya hs.length yc) from b_Vb)
      have Yb := Lib.hid (show InI B W1 (.slice ya hs.length yc) hs from b_Yb)
      have Zb := Lib.hid (show Z2 W1 (w.heap.size + 2) (.slice none 0 0) (.slice none 0 0) from b_Zb)
      clear b_HBb b_Gb b_Vb b_Yb b_Zb
      clear hF
      refine ⟨?_⟩
      simp only [putAll, Act.put, List.setIfInBounds_toArray, List.set_cons_succ, List.set_cons_zero]
      go_simp
      have hk := hK.out
      simp only [putAll, Act.put, List.setIfInBounds_toArray, List.set_cons_succ, List.set_cons_zero] at hk
      refine hk _ _ ?_ ?_
      · show ∃ (g9 : Nat), (_ : Value) = .slice (some ⟨g9, 0, none⟩) 2 2 ∧ (KPL (w.heap.size + 3) (fun W => InI W.heap.size W (.slice (some ⟨g9, 0, none⟩) 2 2) [H, c]) (W1.alloc (.cells #[.int .i64 H, .int .i64 c] 3)))
        exact ⟨_, rfl, KPL.ints W1 Zb.out.lt [H, c] 3⟩
      · exact (ba _ _)
    refine Steps.cons rfl (js := [8, 12]) (by kernel_rfl) rfl (fun v W1 hB hF Q9 K hK => ?_) ?_
    · obtain ⟨b_HBb, b_Gb, b_Vb, b_Yb, b_Zb⟩ := hB
      have HBb := Lib.hid (show Below w.heap.size w W1 from b_HBb)
      have Gb := Lib.hid (show GR W1 w.heap.size P Q G from b_Gb)
      have Vb := Lib.hid (show D2 W1 (w.heap.size + 1) (.int .i64 H) (.slice ya hs.length yc) from b_Vb)
      have Yb := Lib.hid (show InI B W1 (.slice ya hs.length yc) hs from b_Yb)
      have Zb := Lib.hid (show Z2 W1 (w.heap.size + 2) (.slice none 0 0) (.slice none 0 0) from b_Zb)
      clear b_HBb b_Gb b_Vb b_Yb b_Zb
      have hf8 : ∃ (g8 : Nat), v 8 = .slice (some ⟨g8, 0, none⟩) 2 2 ∧ (KPL (w.heap.size + 3) (fun W => InL W (.slice (some ⟨g8, 0, none⟩) 2 2) [([[H]], [decW P Q G c 0]), ([[H]], [decW P Q G c 1])]) W1) := hF.1
      obtain ⟨g8, e8, f8_0⟩ := hf8
      have E8 := Lib.hid e8
      have H8 := Lib.hid (show KPL (w.heap.size + 3) (fun W => InL W (.slice (some ⟨g8, 0, none⟩) 2 2) [([[H]], [decW P Q G c 0]), ([[H]], [decW P Q G c 1])]) W1 from f8_0)
      clear e8 f8_0
      have hf12 : ∃ (g9 : Nat), v 12 = .slice (some ⟨g9, 0, none⟩) 2 2 ∧ (KPL (w.heap.size + 3) (fun W => InI W.heap.size W (.slice (some ⟨g9, 0, none⟩) 2 2) [H, c]) W1) := hF.2.1
      obtain ⟨g9, e12, f12_0⟩ := hf12
      have E12 := Lib.hid e12
      have H9 := Lib.hid (show KPL (w.heap.size + 3) (fun W => InI W.heap.size W (.slice (some ⟨g9, 0, none⟩) 2 2) [H, c]) W1 from f12_0)
      clear e12 f12_0
      clear hF
      refine ⟨?_⟩
      simp only [putAll, Act.put, List.setIfInBounds_toArray, List.set_cons_succ, List.set_cons_zero, E8.out, E12.out]
      go_simp
      have hk := hK.out
      simp only [putAll, Act.put, List.setIfInBounds_toArray, List.set_cons_succ, List.set_cons_zero, E8.out, E12.out] at hk
      refine hk _ _ ?_ ?_
      · show ∃ (g : Nat) (h : Nat), (_ : Value) = .agg #[.slice (some ⟨g, 0, none⟩) 2 2, .slice (some ⟨h, 0, none⟩) 2 2] ∧ (KPL (w.heap.size + 3) (fun W => InL W (.slice (some ⟨g, 0, none⟩) 2 2) [([[H]], [decW P Q G c 0]), ([[H]], [decW P Q G c 1])]) W1) ∧ (KPL (w.heap.size + 3) (fun W => InI W.heap.size W (.slice (some ⟨h, 0, none⟩) 2 2) [H, c]) W1)
        exact ⟨_, _, rfl, H8.out, H9.out⟩
      · exact (Below.refl _ _)
    exact Steps.nil
  intro v We hB hF
  clear hB0 hHeld
  obtain ⟨b_HBb, b_Gb, b_Vb, b_Yb, b_Zb⟩ := hB
  have HBb := Lib.hid (show Below w.heap.size w We from b_HBb)
  have Gb := Lib.hid (show GR We w.heap.size P Q G from b_Gb)
  have Vb := Lib.hid (show D2 We (w.heap.size + 1) (.int .i64 H) (.slice ya hs.length yc) from b_Vb)
  have Yb := Lib.hid (show InI B We (.slice ya hs.length yc) hs from b_Yb)
  have Zb := Lib.hid (show Z2 We (w.heap.size + 2) (.slice none 0 0) (.slice none 0 0) from b_Zb)
  clear b_HBb b_Gb b_Vb b_Yb b_Zb
  have hf3 : ∃ (b3 : Nat) (d3 : Nat), v 3 = .agg #[.slice (some ⟨b3, 0, none⟩) 1 1, .slice (some ⟨d3, 0, none⟩) 1 1] ∧ (KPL (w.heap.size + 3) (fun W => LinAt W (.slice (some ⟨b3, 0, none⟩) 1 1) (.slice (some ⟨d3, 0, none⟩) 1 1) ([[H]], [decW P Q G c 0])) We) := hF.1
  obtain ⟨b3, d3, e3, f3_0⟩ := hf3
  have E3 := Lib.hid e3
  have H3 := Lib.hid (show KPL (w.heap.size + 3) (fun W => LinAt W (.slice (some ⟨b3, 0, none⟩) 1 1) (.slice (some ⟨d3, 0, none⟩) 1 1) ([[H]], [decW P Q G c 0])) We from f3_0)
  clear e3 f3_0
  have hf7 : ∃ (b7 : Nat) (d7 : Nat), v 7 = .agg #[.slice (some ⟨b7, 0, none⟩) 1 1, .slice (some ⟨d7, 0, none⟩) 1 1] ∧ (KPL (w.heap.size + 3) (fun W => LinAt W (.slice (some ⟨b7, 0, none⟩) 1 1) (.slice (some ⟨d7, 0, none⟩) 1 1) ([[H]], [decW P Q G c 1])) We) := hF.2.1
  obtain ⟨b7, d7, e7, f7_0⟩ := hf7
  have E7 := Lib.hid e7
  have H7 := Lib.hid (show KPL (w.heap.size + 3) (fun W => LinAt W (.slice (some ⟨b7, 0, none⟩) 1 1) (.slice (some ⟨d7, 0, none⟩) 1 1) ([[H]], [decW P Q G c 1])) We from f7_0)
  clear e7 f7_0
  have hf8 : ∃ (g8 : Nat), v 8 = .slice (some ⟨g8, 0, none⟩) 2 2 ∧ (KPL (w.heap.size + 3) (fun W => InL W (.slice (some ⟨g8, 0, none⟩) 2 2) [([[H]], [decW P Q G c 0]), ([[H]], [decW P Q G c 1])]) We) := hF.2.2.1
  obtain ⟨g8, e8, f8_0⟩ := hf8
  have E8 := Lib.hid e8
  have H8 := Lib.hid (show KPL (w.heap.size + 3) (fun W => InL W (.slice (some ⟨g8, 0, none⟩) 2 2) [([[H]], [decW P Q G c 0]), ([[H]], [decW P Q G c 1])]) We from f8_0)
  clear e8 f8_0
  have hf12 : ∃ (g9 : Nat), v 12 = .slice (some ⟨g9, 0, none⟩) 2 2 ∧ (KPL (w.heap.size + 3) (fun W => InI W.heap.size W (.slice (some ⟨g9, 0, none⟩) 2 2) [H, c]) We) := hF.2.2.2.1
  obtain ⟨g9, e12, f12_0⟩ := hf12
  have E12 := Lib.hid e12
  have H9 := Lib.hid (show KPL (w.heap.size + 3) (fun W => InI W.heap.size W (.slice (some ⟨g9, 0, none⟩) 2 2) [H, c]) We from f12_0)
  clear e12 f12_0
  have hf13 : ∃ (g : Nat) (h : Nat), v 13 = .agg #[.slice (some ⟨g, 0, none⟩) 2 2, .slice (some ⟨h, 0, none⟩) 2 2] ∧ (KPL (w.heap.size + 3) (fun W => InL W (.slice (some ⟨g, 0, none⟩) 2 2) [([[H]], [decW P Q G c 0]), ([[H]], [decW P Q G c 1])]) We) ∧ (KPL (w.heap.size + 3) (fun W => InI W.heap.size W (.slice (some ⟨h, 0, none⟩) 2 2) [H, c]) We) := hF.2.2.2.2.1
  obtain ⟨g, h, e13, f13_0, f13_1⟩ := hf13
  have E13 := Lib.hid e13
  have HL := Lib.hid (show KPL (w.heap.size + 3) (fun W => InL W (.slice (some ⟨g, 0, none⟩) 2 2) [([[H]], [decW P Q G c 0]), ([[H]], [decW P Q G c 1])]) We from f13_0)
  have HI := Lib.hid (show KPL (w.heap.size + 3) (fun W => InI W.heap.size W (.slice (some ⟨h, 0, none⟩) 2 2) [H, c]) We from f13_1)
  clear e13 f13_0 f13_1
  clear hF
  refine ⟨?_⟩
  simp only [putAll, Act.put, List.setIfInBounds_toArray, List.set_cons_succ, List.set_cons_zero, E3.out, E7.out, E8.out, E12.out, E13.out]
  refine wpAnyH_ready (rs := [14]) (by kernel_rfl) (by simp) ?_
  refine AllReadyH.cons rfl (fun K hK => ?_) AllReadyH.nil
  obtain ⟨⟨y0, y1⟩, yf0, yf1⟩ := Zb.out
  go_simp
  have hm5 := mid2 We (w.heap.size + 2) (.slice (some ⟨g, 0, none⟩) 2 2) (.slice (some ⟨h, 0, none⟩) 2 2)
  have Z9 := Zb.out.lt
  refine hK.out _ _ (show _ from ⟨⟨(Gb.out.mid hm5 (.inl (by omega))).1, (Gb.out.mid hm5 (.inl (by omega))).2.1, (Gb.out.mid hm5 (.inl (by omega))).2.2⟩, (mid_d2 Vb.out hm5 (.inl (by omega))).1, (mid_d2 Vb.out hm5 (.inl (by omega))).2⟩) (fun hHeld => ?_)
  clear hK K
  refine wpAnyH_done (by kernel_rfl) ?_ _
  go_wp2
  (try simp only [Exit.inBlock, Exit.then])
  refine bodyPost_ret (v := .agg #[.slice (some ⟨g, 0, none⟩) 2 2, .slice (some ⟨h, 0, none⟩) 2 2]) ?_ rfl ?_
  · rw [results_cell_one rfl]; go_simp
  · have hs5 := hm5.size
    have hk5 := (KP.and HL.out (KP.imp HI.out fun W h => (⟨_, h⟩ : ∃ B, InI B W _ _))).mid hm5 (.inr (Nat.le_refl _))
    exact ⟨_, _, rfl, hk5.wide (by omega) hs5 (Nat.le_refl _), HBb.out.trans (hm5.toBelow (by omega) HBb.out.size)⟩

set_option maxRecDepth 100000 in
set_option maxHeartbeats 3200000 in
theorem sumOf_any (P Q G H c t : Int) (hg : goodB P Q G = true) (hc : elB P Q c = true) (ht : 0 ≤ t ∧ t < Q) {B : Nat} {y : Value} {hs : List Int} {w : World} (hy : InI B w y hs) :
    Calls Try.prog 72 #[gv P Q G, .agg #[.int .i64 H, y], .int .i64 c, .int .i64 t] w (ClmOut w [([[H]], [decW P Q G c t])] [H, c, t]) := by
  obtain ⟨ya, yc, rfl⟩ := hy.shape
  have G_0 := Lib.hid ((gr_at w (w.heap.size) (by simp) P Q G 32).below (ba (w.alloc (.cells #[.int .i64 P, .int .i64 Q, .int .i64 G] 32)) (.cells #[.int .i64 H, .slice ya hs.length yc] 34)))
  have V_0 := Lib.hid (d2_at (w.alloc (.cells #[.int .i64 P, .int .i64 Q, .int .i64 G] 32)) (w.heap.size + 1) (by simp) (.int .i64 H) (.slice ya hs.length yc) 34)
  have HB_0 := Lib.hid (show Below w.heap.size w ((w.alloc (.cells #[.int .i64 P, .int .i64 Q, .int .i64 G] 32)).alloc (.cells #[.int .i64 H, .slice ya hs.length yc] 34)) from bt (ba _ _) (ba _ _))
  have Y_0 := Lib.hid (hy.below HB_0.out)
  clear hy
  have hz := z2_at ((w.alloc (.cells #[.int .i64 P, .int .i64 Q, .int .i64 G] 32)).alloc (.cells #[.int .i64 H, .slice ya hs.length yc] 34)) (w.heap.size + 2) (by simp) (.slice none 0 0) (.slice none 0 0) 82
  have hal := ba ((w.alloc (.cells #[.int .i64 P, .int .i64 Q, .int .i64 G] 32)).alloc (.cells #[.int .i64 H, .slice ya hs.length yc] 34)) (.cells #[.slice none 0 0, .slice none 0 0] 82)
  have HB_1 := Lib.hid (bt HB_0.out hal)
  have G_1 := Lib.hid (G_0.out.below hal)
  have V_1 := Lib.hid (V_0.out.below hal)
  have Y_1 := Lib.hid (Y_0.out.below hal)
  have Z_1 := Lib.hid hz
  clear hz hal HB_0 G_0 V_0 Y_0
  obtain ⟨gG0, gG1, gG2⟩ := G_1.out
  obtain ⟨cV0, cV1⟩ := V_1.out
  go_enter Try.func72, Try.ntmps72
  go_wp2_with fail
  clear gG0 gG1 gG2 cV0 cV1
  generalize hW9 : ((w.alloc (.cells #[.int .i64 P, .int .i64 Q, .int .i64 G] 32)).alloc (.cells #[.int .i64 H, .slice ya hs.length yc] 34)).alloc (.cells #[.slice none 0 0, .slice none 0 0] 82) = v0 at *
  clear hW9
  refine wp_region_held_drew (S := (fun w' => (w'.cell? ⟨w.heap.size, 0, none⟩ = some (.int .i64 P) ∧ w'.cell? ⟨w.heap.size, 1, none⟩ = some (.int .i64 Q) ∧ w'.cell? ⟨w.heap.size, 2, none⟩ = some (.int .i64 G)) ∧ w'.cell? ⟨w.heap.size + 1, 0, none⟩ = some (.int .i64 H) ∧ w'.cell? ⟨w.heap.size + 1, 1, none⟩ = some (.slice ya hs.length yc))) (by kernel_rfl) (show _ from ⟨⟨G_1.out.1, G_1.out.2.1, G_1.out.2.2⟩, V_1.out.1, V_1.out.2⟩) (fun hHeld => ?_)
  refine wpAnyH_take (i := 0) (v := ?_) rfl (by kernel_rfl) (by kernel_rfl) (by kernel_rfl) (fun _ _ _ h => h) (Or.inl ⟨by kernel_rfl, ?_⟩) (by assumption) ?_
  rotate_left 1
  · intro w9 hSw
    try dsimp only at hSw
    go_simp
    try with_reducible rfl
  try simp only [Act.put, List.getElem_toArray, List.getElem_cons_succ, List.getElem_cons_zero, List.setIfInBounds_toArray, List.set_cons_zero, List.set_cons_succ]
  refine wpAnyH_take (i := 1) (v := ?_) rfl (by kernel_rfl) (by kernel_rfl) (by kernel_rfl) (fun _ _ _ h => h) (Or.inl ⟨by kernel_rfl, ?_⟩) (by assumption) ?_
  rotate_left 1
  · intro w9 hSw
    try dsimp only at hSw
    go_simp
    try with_reducible rfl
  try simp only [Act.put, List.getElem_toArray, List.getElem_cons_succ, List.getElem_cons_zero, List.setIfInBounds_toArray, List.set_cons_zero, List.set_cons_succ]
  refine wpAnyH_take (i := 2) (v := ?_) rfl (by kernel_rfl) (by kernel_rfl) (by kernel_rfl) (fun _ _ _ h => h) (Or.inl ⟨by kernel_rfl, ?_⟩) (by assumption) ?_
  rotate_left 1
  · intro w9 hSw
    try dsimp only at hSw
    go_simp
    try with_reducible rfl
  try simp only [Act.put, List.getElem_toArray, List.getElem_cons_succ, List.getElem_cons_zero, List.setIfInBounds_toArray, List.set_cons_zero, List.set_cons_succ]
  refine wpAnyH_take (i := 3) (v := ?_) rfl (by kernel_rfl) (by kernel_rfl) (by kernel_rfl) (fun _ _ _ h => h) (Or.inl ⟨by kernel_rfl, ?_⟩) (by assumption) ?_
  rotate_left 1
  · intro w9 hSw
    try dsimp only at hSw
    go_simp
    try with_reducible rfl
  try simp only [Act.put, List.getElem_toArray, List.getElem_cons_succ, List.getElem_cons_zero, List.setIfInBounds_toArray, List.set_cons_zero, List.set_cons_succ]
  refine wpAnyH_take (i := 6) (v := ?_) rfl (by kernel_rfl) (by kernel_rfl) (by kernel_rfl) (fun _ _ _ h => h) (Or.inl ⟨by kernel_rfl, ?_⟩) (by assumption) ?_
  rotate_left 1
  · intro w9 hSw
    try dsimp only at hSw
    go_simp
    try with_reducible rfl
  try simp only [Act.put, List.getElem_toArray, List.getElem_cons_succ, List.getElem_cons_zero, List.setIfInBounds_toArray, List.set_cons_zero, List.set_cons_succ]
  refine wpAnyH_take (i := 7) (v := ?_) rfl (by kernel_rfl) (by kernel_rfl) (by kernel_rfl) (fun _ _ _ h => h) (Or.inl ⟨by kernel_rfl, ?_⟩) (by assumption) ?_
  rotate_left 1
  · intro w9 hSw
    try dsimp only at hSw
    go_simp
    try with_reducible rfl
  try simp only [Act.put, List.getElem_toArray, List.getElem_cons_succ, List.getElem_cons_zero, List.setIfInBounds_toArray, List.set_cons_zero, List.set_cons_succ]
  refine wpAnyH_take (i := 8) (v := ?_) rfl (by kernel_rfl) (by kernel_rfl) (by kernel_rfl) (fun _ _ _ h => h) (Or.inl ⟨by kernel_rfl, ?_⟩) (by assumption) ?_
  rotate_left 1
  · intro w9 hSw
    try dsimp only at hSw
    go_simp
    try with_reducible rfl
  try simp only [Act.put, List.getElem_toArray, List.getElem_cons_succ, List.getElem_cons_zero, List.setIfInBounds_toArray, List.set_cons_zero, List.set_cons_succ]
  refine wpAnyH_take (i := 9) (v := ?_) rfl (by kernel_rfl) (by kernel_rfl) (by kernel_rfl) (fun _ _ _ h => h) (Or.inl ⟨by kernel_rfl, ?_⟩) (by assumption) ?_
  rotate_left 1
  · intro w9 hSw
    try dsimp only at hSw
    go_simp
    try with_reducible rfl
  try simp only [Act.put, List.getElem_toArray, List.getElem_cons_succ, List.getElem_cons_zero, List.setIfInBounds_toArray, List.set_cons_zero, List.set_cons_succ]
  have hB0 : (fun w1 => (Below w.heap.size w w1) ∧ (GR w1 w.heap.size P Q G) ∧ (D2 w1 (w.heap.size + 1) (.int .i64 H) (.slice ya hs.length yc)) ∧ (InI B w1 (.slice ya hs.length yc) hs) ∧ (Z2 w1 (w.heap.size + 2) (.slice none 0 0) (.slice none 0 0))) v0.drew := ⟨HB_1.out.drew, G_1.out.drew, V_1.out.drew, Y_1.out.dr, Z_1.out.drew⟩
  refine wpAnyH_part (V := fun i u w1 => cond (Nat.beq i 4) (∃ (b4 : Nat) (d4 : Nat), u = .agg #[.slice (some ⟨b4, 0, none⟩) 1 1, .slice (some ⟨d4, 0, none⟩) 1 1] ∧ (KPL (w.heap.size + 3) (fun W => LinAt W (.slice (some ⟨b4, 0, none⟩) 1 1) (.slice (some ⟨d4, 0, none⟩) 1 1) ([[H]], [decW P Q G c t])) w1)) (cond (Nat.beq i 5) (∃ (g8 : Nat), u = .slice (some ⟨g8, 0, none⟩) 1 1 ∧ (KPL (w.heap.size + 3) (fun W => InL W (.slice (some ⟨g8, 0, none⟩) 1 1) [([[H]], [decW P Q G c t])]) w1)) (cond (Nat.beq i 10) (∃ (g9 : Nat), u = .slice (some ⟨g9, 0, none⟩) 3 3 ∧ (KPL (w.heap.size + 3) (fun W => InI W.heap.size W (.slice (some ⟨g9, 0, none⟩) 3 3) [H, c, t]) w1)) (cond (Nat.beq i 11) (∃ (g : Nat) (h : Nat), u = .agg #[.slice (some ⟨g, 0, none⟩) 1 1, .slice (some ⟨h, 0, none⟩) 3 3] ∧ (KPL (w.heap.size + 3) (fun W => InL W (.slice (some ⟨g, 0, none⟩) 1 1) [([[H]], [decW P Q G c t])]) w1) ∧ (KPL (w.heap.size + 3) (fun W => InI W.heap.size W (.slice (some ⟨h, 0, none⟩) 3 3) [H, c, t]) w1)) (True))))) (B := fun w1 => (Below w.heap.size w w1) ∧ (GR w1 w.heap.size P Q G) ∧ (D2 w1 (w.heap.size + 1) (.int .i64 H) (.slice ya hs.length yc)) ∧ (InI B w1 (.slice ya hs.length yc) hs) ∧ (Z2 w1 (w.heap.size + 2) (.slice none 0 0) (.slice none 0 0))) (R := fun w1 w2 => Below w1.heap.size w1 w2) 1 (rs := [4, 5, 10, 11]) (ds := [(4, some 13), (5, some 14), (10, some 19), (11, some 20)]) (by kernel_rfl) (by kernel_rfl) (by kernel_rfl) (by kernel_rfl) (by kernel_rfl) ?_ ?_ ?_ hB0 ?_ ?_
  · intro w1 w2 hB hR
    clear hB0
    obtain ⟨b_HBb, b_Gb, b_Vb, b_Yb, b_Zb⟩ := hB
    exact ⟨bt b_HBb hR, b_Gb.below hR, b_Vb.below hR, b_Yb.below hR, b_Zb.below hR⟩
  · clear hB0
    refine Last.cons (fun u w1 w2 hB h hR => ?_) ?_
    · have h1 : ∃ (b4 : Nat) (d4 : Nat), u = .agg #[.slice (some ⟨b4, 0, none⟩) 1 1, .slice (some ⟨d4, 0, none⟩) 1 1] ∧ (KPL (w.heap.size + 3) (fun W => LinAt W (.slice (some ⟨b4, 0, none⟩) 1 1) (.slice (some ⟨d4, 0, none⟩) 1 1) ([[H]], [decW P Q G c t])) w1) := h
      show ∃ (b4 : Nat) (d4 : Nat), u = .agg #[.slice (some ⟨b4, 0, none⟩) 1 1, .slice (some ⟨d4, 0, none⟩) 1 1] ∧ (KPL (w.heap.size + 3) (fun W => LinAt W (.slice (some ⟨b4, 0, none⟩) 1 1) (.slice (some ⟨d4, 0, none⟩) 1 1) ([[H]], [decW P Q G c t])) w2)
      obtain ⟨b4, d4, e, f0⟩ := h1
      exact ⟨b4, d4, e, f0.below hR⟩
    refine Last.cons (fun u w1 w2 hB h hR => ?_) ?_
    · have h1 : ∃ (g8 : Nat), u = .slice (some ⟨g8, 0, none⟩) 1 1 ∧ (KPL (w.heap.size + 3) (fun W => InL W (.slice (some ⟨g8, 0, none⟩) 1 1) [([[H]], [decW P Q G c t])]) w1) := h
      show ∃ (g8 : Nat), u = .slice (some ⟨g8, 0, none⟩) 1 1 ∧ (KPL (w.heap.size + 3) (fun W => InL W (.slice (some ⟨g8, 0, none⟩) 1 1) [([[H]], [decW P Q G c t])]) w2)
      obtain ⟨g8, e, f0⟩ := h1
      exact ⟨g8, e, f0.below hR⟩
    refine Last.cons (fun u w1 w2 hB h hR => ?_) ?_
    · have h1 : ∃ (g9 : Nat), u = .slice (some ⟨g9, 0, none⟩) 3 3 ∧ (KPL (w.heap.size + 3) (fun W => InI W.heap.size W (.slice (some ⟨g9, 0, none⟩) 3 3) [H, c, t]) w1) := h
      show ∃ (g9 : Nat), u = .slice (some ⟨g9, 0, none⟩) 3 3 ∧ (KPL (w.heap.size + 3) (fun W => InI W.heap.size W (.slice (some ⟨g9, 0, none⟩) 3 3) [H, c, t]) w2)
      obtain ⟨g9, e, f0⟩ := h1
      exact ⟨g9, e, f0.below hR⟩
    refine Last.cons (fun u w1 w2 hB h hR => ?_) ?_
    · have h1 : ∃ (g : Nat) (h : Nat), u = .agg #[.slice (some ⟨g, 0, none⟩) 1 1, .slice (some ⟨h, 0, none⟩) 3 3] ∧ (KPL (w.heap.size + 3) (fun W => InL W (.slice (some ⟨g, 0, none⟩) 1 1) [([[H]], [decW P Q G c t])]) w1) ∧ (KPL (w.heap.size + 3) (fun W => InI W.heap.size W (.slice (some ⟨h, 0, none⟩) 3 3) [H, c, t]) w1) := h
      show ∃ (g : Nat) (h : Nat), u = .agg #[.slice (some ⟨g, 0, none⟩) 1 1, .slice (some ⟨h, 0, none⟩) 3 3] ∧ (KPL (w.heap.size + 3) (fun W => InL W (.slice (some ⟨g, 0, none⟩) 1 1) [([[H]], [decW P Q G c t])]) w2) ∧ (KPL (w.heap.size + 3) (fun W => InI W.heap.size W (.slice (some ⟨h, 0, none⟩) 3 3) [H, c, t]) w2)
      obtain ⟨g, h, e, f0, f1⟩ := h1
      exact ⟨g, h, e, f0.below hR, f1.below hR⟩
    exact Last.nil
  · intro w1 hB
    clear hB0
    obtain ⟨b_HBb, b_Gb, b_Vb, b_Yb, b_Zb⟩ := hB
    have HBb := Lib.hid (show Below w.heap.size w w1 from b_HBb)
    have Gb := Lib.hid (show GR w1 w.heap.size P Q G from b_Gb)
    have Vb := Lib.hid (show D2 w1 (w.heap.size + 1) (.int .i64 H) (.slice ya hs.length yc) from b_Vb)
    have Yb := Lib.hid (show InI B w1 (.slice ya hs.length yc) hs from b_Yb)
    have Zb := Lib.hid (show Z2 w1 (w.heap.size + 2) (.slice none 0 0) (.slice none 0 0) from b_Zb)
    clear b_HBb b_Gb b_Vb b_Yb b_Zb
    exact ⟨⟨Gb.out.1, Gb.out.2.1, Gb.out.2.2⟩, Vb.out.1, Vb.out.2⟩
  · clear hB0 hHeld
    refine Steps.cons rfl (js := []) (by kernel_rfl) rfl (fun v W1 hB hF Q9 K hK => ?_) ?_
    · obtain ⟨b_HBb, b_Gb, b_Vb, b_Yb, b_Zb⟩ := hB
      have HBb := Lib.hid (show Below w.heap.size w W1 from b_HBb)
      have Gb := Lib.hid (show GR W1 w.heap.size P Q G from b_Gb)
      have Vb := Lib.hid (show D2 W1 (w.heap.size + 1) (.int .i64 H) (.slice ya hs.length yc) from b_Vb)
      have Yb := Lib.hid (show InI B W1 (.slice ya hs.length yc) hs from b_Yb)
      have Zb := Lib.hid (show Z2 W1 (w.heap.size + 2) (.slice none 0 0) (.slice none 0 0) from b_Zb)
      clear b_HBb b_Gb b_Vb b_Yb b_Zb
      clear hF
      refine ⟨?_⟩
      simp only [putAll, Act.put, List.setIfInBounds_toArray, List.set_cons_succ, List.set_cons_zero]
      go_simp
      go_at_call 97
      refine (hides_any P Q G H c t hg hc ht Yb.out).mono ?_
      rintro e' W2 ⟨b9, d9, rfl, hk9, hb⟩
      go_wp2_with fail
      have hk := hK.out
      simp only [putAll, Act.put, List.setIfInBounds_toArray, List.set_cons_succ, List.set_cons_zero] at hk
      refine hk _ _ ?_ ?_
      · show ∃ (b4 : Nat) (d4 : Nat), (_ : Value) = .agg #[.slice (some ⟨b4, 0, none⟩) 1 1, .slice (some ⟨d4, 0, none⟩) 1 1] ∧ (KPL (w.heap.size + 3) (fun W => LinAt W (.slice (some ⟨b4, 0, none⟩) 1 1) (.slice (some ⟨d4, 0, none⟩) 1 1) ([[H]], [decW P Q G c t])) W2)
        exact ⟨b9, d9, rfl, hk9.wide Zb.out.lt (Nat.le_refl _) (Nat.le_refl _)⟩
      · exact hb
    refine Steps.cons rfl (js := [4]) (by kernel_rfl) rfl (fun v W1 hB hF Q9 K hK => ?_) ?_
    · obtain ⟨b_HBb, b_Gb, b_Vb, b_Yb, b_Zb⟩ := hB
      have HBb := Lib.hid (show Below w.heap.size w W1 from b_HBb)
      have Gb := Lib.hid (show GR W1 w.heap.size P Q G from b_Gb)
      have Vb := Lib.hid (show D2 W1 (w.heap.size + 1) (.int .i64 H) (.slice ya hs.length yc) from b_Vb)
      have Yb := Lib.hid (show InI B W1 (.slice ya hs.length yc) hs from b_Yb)
      have Zb := Lib.hid (show Z2 W1 (w.heap.size + 2) (.slice none 0 0) (.slice none 0 0) from b_Zb)
      clear b_HBb b_Gb b_Vb b_Yb b_Zb
      have hf4 : ∃ (b4 : Nat) (d4 : Nat), v 4 = .agg #[.slice (some ⟨b4, 0, none⟩) 1 1, .slice (some ⟨d4, 0, none⟩) 1 1] ∧ (KPL (w.heap.size + 3) (fun W => LinAt W (.slice (some ⟨b4, 0, none⟩) 1 1) (.slice (some ⟨d4, 0, none⟩) 1 1) ([[H]], [decW P Q G c t])) W1) := hF.1
      obtain ⟨b4, d4, e4, f4_0⟩ := hf4
      have E4 := Lib.hid e4
      have H4 := Lib.hid (show KPL (w.heap.size + 3) (fun W => LinAt W (.slice (some ⟨b4, 0, none⟩) 1 1) (.slice (some ⟨d4, 0, none⟩) 1 1) ([[H]], [decW P Q G c t])) W1 from f4_0)
      clear e4 f4_0
      clear hF
      refine ⟨?_⟩
      simp only [putAll, Act.put, List.setIfInBounds_toArray, List.set_cons_succ, List.set_cons_zero, E4.out]
      go_simp
      have hk := hK.out
      simp only [putAll, Act.put, List.setIfInBounds_toArray, List.set_cons_succ, List.set_cons_zero, E4.out] at hk
      refine hk _ _ ?_ ?_
      · show ∃ (g8 : Nat), (_ : Value) = .slice (some ⟨g8, 0, none⟩) 1 1 ∧ (KPL (w.heap.size + 3) (fun W => InL W (.slice (some ⟨g8, 0, none⟩) 1 1) [([[H]], [decW P Q G c t])]) (W1.alloc (.cells #[.slice (some ⟨b4, 0, none⟩) 1 1, .slice (some ⟨d4, 0, none⟩) 1 1] 117)))
        exact ⟨_, rfl, KPL.lin1 Zb.out.lt (cell_here W1 _ 0 rfl _ _ _ rfl) (cell_here W1 _ 1 rfl _ _ _ rfl) (H4.out.below (ba _ _))⟩
      · exact (ba _ _)
    refine Steps.cons rfl (js := []) (by kernel_rfl) rfl (fun v W1 hB hF Q9 K hK => ?_) ?_
    · obtain ⟨b_HBb, b_Gb, b_Vb, b_Yb, b_Zb⟩ := hB
      have HBb := Lib.hid (show Below w.heap.size w W1 from b_HBb)
      have Gb := Lib.hid (show GR W1 w.heap.size P Q G from b_Gb)
      have Vb := Lib.hid (show D2 W1 (w.heap.size + 1) (.int .i64 H) (.slice ya hs.length yc) from b_Vb)
      have Yb := Lib.hid (show InI B W1 (.slice ya hs.length yc) hs from b_Yb)
      have Zb := Lib.hid (show Z2 W1 (w.heap.size + 2) (.slice none 0 0) (.slice none 0 0) from b_Zb)
      clear b_HBb b_Gb b_Vb b_Yb b_Zb
      clear hF
      refine ⟨?_⟩
      simp only [putAll, Act.put, List.setIfInBounds_toArray, List.set_cons_succ, List.set_cons_zero]
      go_simp
      have hk := hK.out
      simp only [putAll, Act.put, List.setIfInBounds_toArray, List.set_cons_succ, List.set_cons_zero] at hk
      refine hk _ _ ?_ ?_
      · show ∃ (g9 : Nat), (_ : Value) = .slice (some ⟨g9, 0, none⟩) 3 3 ∧ (KPL (w.heap.size + 3) (fun W => InI W.heap.size W (.slice (some ⟨g9, 0, none⟩) 3 3) [H, c, t]) (W1.alloc (.cells #[.int .i64 H, .int .i64 c, .int .i64 t] 3)))
        exact ⟨_, rfl, KPL.ints W1 Zb.out.lt [H, c, t] 3⟩
      · exact (ba _ _)
    refine Steps.cons rfl (js := [5, 10]) (by kernel_rfl) rfl (fun v W1 hB hF Q9 K hK => ?_) ?_
    · obtain ⟨b_HBb, b_Gb, b_Vb, b_Yb, b_Zb⟩ := hB
      have HBb := Lib.hid (show Below w.heap.size w W1 from b_HBb)
      have Gb := Lib.hid (show GR W1 w.heap.size P Q G from b_Gb)
      have Vb := Lib.hid (show D2 W1 (w.heap.size + 1) (.int .i64 H) (.slice ya hs.length yc) from b_Vb)
      have Yb := Lib.hid (show InI B W1 (.slice ya hs.length yc) hs from b_Yb)
      have Zb := Lib.hid (show Z2 W1 (w.heap.size + 2) (.slice none 0 0) (.slice none 0 0) from b_Zb)
      clear b_HBb b_Gb b_Vb b_Yb b_Zb
      have hf5 : ∃ (g8 : Nat), v 5 = .slice (some ⟨g8, 0, none⟩) 1 1 ∧ (KPL (w.heap.size + 3) (fun W => InL W (.slice (some ⟨g8, 0, none⟩) 1 1) [([[H]], [decW P Q G c t])]) W1) := hF.1
      obtain ⟨g8, e5, f5_0⟩ := hf5
      have E5 := Lib.hid e5
      have H8 := Lib.hid (show KPL (w.heap.size + 3) (fun W => InL W (.slice (some ⟨g8, 0, none⟩) 1 1) [([[H]], [decW P Q G c t])]) W1 from f5_0)
      clear e5 f5_0
      have hf10 : ∃ (g9 : Nat), v 10 = .slice (some ⟨g9, 0, none⟩) 3 3 ∧ (KPL (w.heap.size + 3) (fun W => InI W.heap.size W (.slice (some ⟨g9, 0, none⟩) 3 3) [H, c, t]) W1) := hF.2.1
      obtain ⟨g9, e10, f10_0⟩ := hf10
      have E10 := Lib.hid e10
      have H9 := Lib.hid (show KPL (w.heap.size + 3) (fun W => InI W.heap.size W (.slice (some ⟨g9, 0, none⟩) 3 3) [H, c, t]) W1 from f10_0)
      clear e10 f10_0
      clear hF
      refine ⟨?_⟩
      simp only [putAll, Act.put, List.setIfInBounds_toArray, List.set_cons_succ, List.set_cons_zero, E5.out, E10.out]
      go_simp
      have hk := hK.out
      simp only [putAll, Act.put, List.setIfInBounds_toArray, List.set_cons_succ, List.set_cons_zero, E5.out, E10.out] at hk
      refine hk _ _ ?_ ?_
      · show ∃ (g : Nat) (h : Nat), (_ : Value) = .agg #[.slice (some ⟨g, 0, none⟩) 1 1, .slice (some ⟨h, 0, none⟩) 3 3] ∧ (KPL (w.heap.size + 3) (fun W => InL W (.slice (some ⟨g, 0, none⟩) 1 1) [([[H]], [decW P Q G c t])]) W1) ∧ (KPL (w.heap.size + 3) (fun W => InI W.heap.size W (.slice (some ⟨h, 0, none⟩) 3 3) [H, c, t]) W1)
        exact ⟨_, _, rfl, H8.out, H9.out⟩
      · exact (Below.refl _ _)
    exact Steps.nil
  intro v We hB hF
  clear hB0 hHeld
  obtain ⟨b_HBb, b_Gb, b_Vb, b_Yb, b_Zb⟩ := hB
  have HBb := Lib.hid (show Below w.heap.size w We from b_HBb)
  have Gb := Lib.hid (show GR We w.heap.size P Q G from b_Gb)
  have Vb := Lib.hid (show D2 We (w.heap.size + 1) (.int .i64 H) (.slice ya hs.length yc) from b_Vb)
  have Yb := Lib.hid (show InI B We (.slice ya hs.length yc) hs from b_Yb)
  have Zb := Lib.hid (show Z2 We (w.heap.size + 2) (.slice none 0 0) (.slice none 0 0) from b_Zb)
  clear b_HBb b_Gb b_Vb b_Yb b_Zb
  have hf4 : ∃ (b4 : Nat) (d4 : Nat), v 4 = .agg #[.slice (some ⟨b4, 0, none⟩) 1 1, .slice (some ⟨d4, 0, none⟩) 1 1] ∧ (KPL (w.heap.size + 3) (fun W => LinAt W (.slice (some ⟨b4, 0, none⟩) 1 1) (.slice (some ⟨d4, 0, none⟩) 1 1) ([[H]], [decW P Q G c t])) We) := hF.1
  obtain ⟨b4, d4, e4, f4_0⟩ := hf4
  have E4 := Lib.hid e4
  have H4 := Lib.hid (show KPL (w.heap.size + 3) (fun W => LinAt W (.slice (some ⟨b4, 0, none⟩) 1 1) (.slice (some ⟨d4, 0, none⟩) 1 1) ([[H]], [decW P Q G c t])) We from f4_0)
  clear e4 f4_0
  have hf5 : ∃ (g8 : Nat), v 5 = .slice (some ⟨g8, 0, none⟩) 1 1 ∧ (KPL (w.heap.size + 3) (fun W => InL W (.slice (some ⟨g8, 0, none⟩) 1 1) [([[H]], [decW P Q G c t])]) We) := hF.2.1
  obtain ⟨g8, e5, f5_0⟩ := hf5
  have E5 := Lib.hid e5
  have H8 := Lib.hid (show KPL (w.heap.size + 3) (fun W => InL W (.slice (some ⟨g8, 0, none⟩) 1 1) [([[H]], [decW P Q G c t])]) We from f5_0)
  clear e5 f5_0
  have hf10 : ∃ (g9 : Nat), v 10 = .slice (some ⟨g9, 0, none⟩) 3 3 ∧ (KPL (w.heap.size + 3) (fun W => InI W.heap.size W (.slice (some ⟨g9, 0, none⟩) 3 3) [H, c, t]) We) := hF.2.2.1
  obtain ⟨g9, e10, f10_0⟩ := hf10
  have E10 := Lib.hid e10
  have H9 := Lib.hid (show KPL (w.heap.size + 3) (fun W => InI W.heap.size W (.slice (some ⟨g9, 0, none⟩) 3 3) [H, c, t]) We from f10_0)
  clear e10 f10_0
  have hf11 : ∃ (g : Nat) (h : Nat), v 11 = .agg #[.slice (some ⟨g, 0, none⟩) 1 1, .slice (some ⟨h, 0, none⟩) 3 3] ∧ (KPL (w.heap.size + 3) (fun W => InL W (.slice (some ⟨g, 0, none⟩) 1 1) [([[H]], [decW P Q G c t])]) We) ∧ (KPL (w.heap.size + 3) (fun W => InI W.heap.size W (.slice (some ⟨h, 0, none⟩) 3 3) [H, c, t]) We) := hF.2.2.2.1
  obtain ⟨g, h, e11, f11_0, f11_1⟩ := hf11
  have E11 := Lib.hid e11
  have HL := Lib.hid (show KPL (w.heap.size + 3) (fun W => InL W (.slice (some ⟨g, 0, none⟩) 1 1) [([[H]], [decW P Q G c t])]) We from f11_0)
  have HI := Lib.hid (show KPL (w.heap.size + 3) (fun W => InI W.heap.size W (.slice (some ⟨h, 0, none⟩) 3 3) [H, c, t]) We from f11_1)
  clear e11 f11_0 f11_1
  clear hF
  refine ⟨?_⟩
  simp only [putAll, Act.put, List.setIfInBounds_toArray, List.set_cons_succ, List.set_cons_zero, E4.out, E5.out, E10.out, E11.out]
  refine wpAnyH_ready (rs := [12]) (by kernel_rfl) (by simp) ?_
  refine AllReadyH.cons rfl (fun K hK => ?_) AllReadyH.nil
  obtain ⟨⟨y0, y1⟩, yf0, yf1⟩ := Zb.out
  go_simp
  have hm5 := mid2 We (w.heap.size + 2) (.slice (some ⟨g, 0, none⟩) 1 1) (.slice (some ⟨h, 0, none⟩) 3 3)
  have Z9 := Zb.out.lt
  refine hK.out _ _ (show _ from ⟨⟨(Gb.out.mid hm5 (.inl (by omega))).1, (Gb.out.mid hm5 (.inl (by omega))).2.1, (Gb.out.mid hm5 (.inl (by omega))).2.2⟩, (mid_d2 Vb.out hm5 (.inl (by omega))).1, (mid_d2 Vb.out hm5 (.inl (by omega))).2⟩) (fun hHeld => ?_)
  clear hK K
  refine wpAnyH_done (by kernel_rfl) ?_ _
  go_wp2
  (try simp only [Exit.inBlock, Exit.then])
  refine bodyPost_ret (v := .agg #[.slice (some ⟨g, 0, none⟩) 1 1, .slice (some ⟨h, 0, none⟩) 3 3]) ?_ rfl ?_
  · rw [results_cell_one rfl]; go_simp
  · have hs5 := hm5.size
    have hk5 := (KP.and HL.out (KP.imp HI.out fun W h => (⟨_, h⟩ : ∃ B, InI B W _ _))).mid hm5 (.inr (Nat.le_refl _))
    exact ⟨_, _, rfl, hk5.wide (by omega) hs5 (Nat.le_refl _), HBb.out.trans (hm5.toBelow (by omega) HBb.out.size)⟩

def vbB (P Q G H : Int) (hs : List Int) (c : Int) : Bool := bsB P Q G H hs && elB P Q c
def vbV (P Q G H : Int) (hs : List Int) (c : Int) (p : PrD) : Bool := vbB P Q G H hs c && rbV P Q G H c p
def vsB (P Q G H : Int) (hs cs : List Int) (t : Int) : Bool := bsB P Q G H hs && (decide (1 ≤ cs.length ∧ cs.length ≤ 24) && (allEl P Q cs && exB Q t))
def vsV (P Q G H : Int) (hs cs : List Int) (t : Int) (p : PrD) : Bool := vsB P Q G H hs cs t && suV P Q G H (mulFrom P 1 cs) t p

set_option maxRecDepth 100000 in
set_option maxHeartbeats 3200000 in
theorem verifyBit_any (P Q G H c : Int) {B C : Nat} {y v : Value} {hs : List Int} {p : PrD} (hl : hs.length ≤ 1048576) (hpn : p.n ≤ 1048576) {w : World} (hy : InI B w y hs) (hP : InP C w v p) :
    Calls Try.prog 26 #[gv P Q G, .agg #[.int .i64 H, y], .int .i64 c, v] w fun e w' => e = .returned (.tuple #[.bool (vbV P Q G H hs c p), .bool (vbB P Q G H hs c)]) ∧ Below w.heap.size w w' := by
  obtain ⟨ya, yc, rfl⟩ := hy.shape
  obtain ⟨a1, c1, a2, c2, a3, c3, rfl, _, _, _⟩ := hP.parts
  have G_9 := Lib.hid ((gr_at w (w.heap.size) (by simp) P Q G 32).below (ba (w.alloc (.cells #[.int .i64 P, .int .i64 Q, .int .i64 G] 32)) (.cells #[.int .i64 H, .slice ya hs.length yc] 34)))
  have V_9 := Lib.hid (d2_at (w.alloc (.cells #[.int .i64 P, .int .i64 Q, .int .i64 G] 32)) (w.heap.size + 1) (by simp) (.int .i64 H) (.slice ya hs.length yc) 34)
  have HB_9 := Lib.hid (show Below w.heap.size w ((w.alloc (.cells #[.int .i64 P, .int .i64 Q, .int .i64 G] 32)).alloc (.cells #[.int .i64 H, .slice ya hs.length yc] 34)) from bt (ba _ _) (ba _ _))
  have G_0 := Lib.hid (G_9.out.below (ba _ (.cells #[.slice a1 p.c.length c1, .slice a2 p.h.length c2, .slice a3 p.r.length c3] 29)))
  have V_0 := Lib.hid (V_9.out.below (ba _ (.cells #[.slice a1 p.c.length c1, .slice a2 p.h.length c2, .slice a3 p.r.length c3] 29)))
  have hv := b3_new ((w.alloc (.cells #[.int .i64 P, .int .i64 Q, .int .i64 G] 32)).alloc (.cells #[.int .i64 H, .slice ya hs.length yc] 34)) (.slice a1 p.c.length c1) (.slice a2 p.h.length c2) (.slice a3 p.r.length c3) 29
  rw [show ((w.alloc (.cells #[.int .i64 P, .int .i64 Q, .int .i64 G] 32)).alloc (.cells #[.int .i64 H, .slice ya hs.length yc] 34)).heap.size = w.heap.size + 2 by simp] at hv
  have X_0 := Lib.hid hv
  have HB_0 := Lib.hid (bt HB_9.out (ba _ (.cells #[.slice a1 p.c.length c1, .slice a2 p.h.length c2, .slice a3 p.r.length c3] 29)))
  have Y_0 := Lib.hid (hy.below HB_0.out)
  have PP_0 := Lib.hid (hP.below HB_0.out)
  clear hv hy hP G_9 V_9 HB_9
  cases h0 : bsB P Q G H hs
  · have K0 := Lib.hid (show bsB P Q G H hs = false from h0)
    have E1 := Lib.hid (show vbB P Q G H hs c = false by simp [vbB, h0])
    have E2 := Lib.hid (show vbV P Q G H hs c p = false by simp only [vbV, E1.out, Bool.false_and])
    rw [E1.out, E2.out]
    clear h0
    obtain ⟨gG0, gG1, gG2⟩ := G_0.out
    obtain ⟨bX0, bX1, bX2, _⟩ := X_0.out
    obtain ⟨cV0, cV1⟩ := V_0.out
    go_enter Try.func26, Try.ntmps26
    go_wp2_with fail
    refine (isValidBases_any P Q G H (by omega) Y_0.out).mono ?_
    rw [K0.out]
    rintro e v1 ⟨rfl, hb⟩
    have HB_1 := Lib.hid (bt HB_0.out hb)
    have G_1 := Lib.hid (G_0.out.below hb)
    have V_1 := Lib.hid (V_0.out.below hb)
    have X_1 := Lib.hid (X_0.out.below hb)
    have Y_1 := Lib.hid (Y_0.out.below hb)
    have PP_1 := Lib.hid (PP_0.out.below hb)
    clear hb gG0 gG1 gG2 bX0 bX1 bX2 cV0 cV1
    obtain ⟨gG0, gG1, gG2⟩ := G_1.out
    obtain ⟨bX0, bX1, bX2, _⟩ := X_1.out
    obtain ⟨cV0, cV1⟩ := V_1.out
    go_wp2
    go_ret2
    exact ⟨rfl, HB_1.out⟩
  have K0 := Lib.hid (show bsB P Q G H hs = true from h0)
  have hgd := bs_good h0
  have hmo := good_mo hgd
  have hH0 := bs_H h0
  have hQ2 := (good_rng hgd).2.1.1
  cases h1 : elB P Q c
  · have K1 := Lib.hid (show elB P Q c = false from h1)
    have E1 := Lib.hid (show vbB P Q G H hs c = false by simp [vbB, h0, h1])
    have E2 := Lib.hid (show vbV P Q G H hs c p = false by simp only [vbV, E1.out, Bool.false_and])
    rw [E1.out, E2.out]
    clear h0 h1
    obtain ⟨gG0, gG1, gG2⟩ := G_0.out
    obtain ⟨bX0, bX1, bX2, _⟩ := X_0.out
    obtain ⟨cV0, cV1⟩ := V_0.out
    go_enter Try.func26, Try.ntmps26
    go_wp2_with fail
    refine (isValidBases_any P Q G H (by omega) Y_0.out).mono ?_
    rw [K0.out]
    rintro e v1 ⟨rfl, hb⟩
    have HB_1 := Lib.hid (bt HB_0.out hb)
    have G_1 := Lib.hid (G_0.out.below hb)
    have V_1 := Lib.hid (V_0.out.below hb)
    have X_1 := Lib.hid (X_0.out.below hb)
    have Y_1 := Lib.hid (Y_0.out.below hb)
    have PP_1 := Lib.hid (PP_0.out.below hb)
    clear hb gG0 gG1 gG2 bX0 bX1 bX2 cV0 cV1
    obtain ⟨gG0, gG1, gG2⟩ := G_1.out
    obtain ⟨bX0, bX1, bX2, _⟩ := X_1.out
    obtain ⟨cV0, cV1⟩ := V_1.out
    go_wp2_with fail
    refine (hasElement_any P Q G c hmo _).mono ?_
    rw [K1.out]
    rintro e v2 ⟨rfl, hb⟩
    have HB_2 := Lib.hid (bt HB_1.out hb)
    have G_2 := Lib.hid (G_1.out.below hb)
    have V_2 := Lib.hid (V_1.out.below hb)
    have X_2 := Lib.hid (X_1.out.below hb)
    have Y_2 := Lib.hid (Y_1.out.below hb)
    have PP_2 := Lib.hid (PP_1.out.below hb)
    clear hb gG0 gG1 gG2 bX0 bX1 bX2 cV0 cV1
    obtain ⟨gG0, gG1, gG2⟩ := G_2.out
    obtain ⟨bX0, bX1, bX2, _⟩ := X_2.out
    obtain ⟨cV0, cV1⟩ := V_2.out
    go_wp2
    go_ret2
    exact ⟨rfl, HB_2.out⟩
  have K1 := Lib.hid (show elB P Q c = true from h1)
  have E1 := Lib.hid (show vbB P Q G H hs c = true by simp [vbB, h0, h1])
  rw [E1.out]
  have HOK := Lib.hid (bit_ok hgd hH0 h1)
  have HG := Lib.hid hgd
  have HC := Lib.hid h1
  obtain ⟨v, hv⟩ : ∃ v, vrV P Q G bitL (bitS P Q G H c) p = v := ⟨_, rfl⟩
  have E2 := Lib.hid (show vbV P Q G H hs c p = v by unfold vbV; rw [E1.out, Bool.true_and, ← vr_bit hgd hH0 h1]; exact hv)
  rw [E2.out]
  have HV := Lib.hid hv
  clear h0 h1 hgd hH0 hv
  obtain ⟨gG0, gG1, gG2⟩ := G_0.out
  obtain ⟨bX0, bX1, bX2, _⟩ := X_0.out
  obtain ⟨cV0, cV1⟩ := V_0.out
  go_enter Try.func26, Try.ntmps26
  go_wp2_with fail
  refine (isValidBases_any P Q G H (by omega) Y_0.out).mono ?_
  rw [K0.out]
  rintro e v1 ⟨rfl, hb⟩
  have HB_1 := Lib.hid (bt HB_0.out hb)
  have G_1 := Lib.hid (G_0.out.below hb)
  have V_1 := Lib.hid (V_0.out.below hb)
  have X_1 := Lib.hid (X_0.out.below hb)
  have Y_1 := Lib.hid (Y_0.out.below hb)
  have PP_1 := Lib.hid (PP_0.out.below hb)
  clear hb gG0 gG1 gG2 bX0 bX1 bX2 cV0 cV1
  obtain ⟨gG0, gG1, gG2⟩ := G_1.out
  obtain ⟨bX0, bX1, bX2, _⟩ := X_1.out
  obtain ⟨cV0, cV1⟩ := V_1.out
  go_wp2_with fail
  refine (hasElement_any P Q G c hmo _).mono ?_
  rw [K1.out]
  rintro e v2 ⟨rfl, hb⟩
  have HB_2 := Lib.hid (bt HB_1.out hb)
  have G_2 := Lib.hid (G_1.out.below hb)
  have V_2 := Lib.hid (V_1.out.below hb)
  have X_2 := Lib.hid (X_1.out.below hb)
  have Y_2 := Lib.hid (Y_1.out.below hb)
  have PP_2 := Lib.hid (PP_1.out.below hb)
  clear hb gG0 gG1 gG2 bX0 bX1 bX2 cV0 cV1
  obtain ⟨gG0, gG1, gG2⟩ := G_2.out
  obtain ⟨bX0, bX1, bX2, _⟩ := X_2.out
  obtain ⟨cV0, cV1⟩ := V_2.out
  go_wp2_with fail
  clear gG0 gG1 gG2 cV0 cV1 bX0 bX1 bX2
  have hbd : Below v2.heap.size v2 v2.drew := (Below.refl _ v2).drew
  have HB_s := Lib.hid (bt HB_2.out hbd)
  have G_s := Lib.hid (G_2.out.below hbd)
  have V_s := Lib.hid (V_2.out.below hbd)
  have X_s := Lib.hid (X_2.out.below hbd)
  have Y_s := Lib.hid (Y_2.out.below hbd)
  have PP_s := Lib.hid (PP_2.out.below hbd)
  clear hbd
  refine wp_region_held_drew (S := (fun w' => (w'.cell? ⟨w.heap.size, 0, none⟩ = some (.int .i64 P) ∧ w'.cell? ⟨w.heap.size, 1, none⟩ = some (.int .i64 Q) ∧ w'.cell? ⟨w.heap.size, 2, none⟩ = some (.int .i64 G)) ∧ (w'.cell? ⟨w.heap.size + 1, 0, none⟩ = some (.int .i64 H) ∧ w'.cell? ⟨w.heap.size + 1, 1, none⟩ = some (.slice ya hs.length yc)) ∧ (w'.cell? ⟨w.heap.size + 2, 0, none⟩ = some (.slice a1 p.c.length c1) ∧ w'.cell? ⟨w.heap.size + 2, 1, none⟩ = some (.slice a2 p.h.length c2) ∧ w'.cell? ⟨w.heap.size + 2, 2, none⟩ = some (.slice a3 p.r.length c3)))) (by kernel_rfl) (show _ from ⟨⟨G_2.out.1, G_2.out.2.1, G_2.out.2.2⟩, ⟨V_2.out.1, V_2.out.2⟩, X_2.out.1, X_2.out.2.1, X_2.out.2.2.1⟩) (fun hHeld => ?_)
  generalize hW0 : v2.drew = Ws at *
  clear hW0
  refine wpAnyH_take (i := 0) (v := ?_) rfl (by kernel_rfl) (by kernel_rfl) (by kernel_rfl) (fun _ _ _ h => h) (Or.inl ⟨by kernel_rfl, ?_⟩) (by assumption) ?_
  rotate_left 1
  · intro w9 hSw
    try dsimp only at hSw
    go_simp
    try with_reducible rfl
  try simp only [Act.put, List.getElem_toArray, List.getElem_cons_succ, List.getElem_cons_zero, List.setIfInBounds_toArray, List.set_cons_zero, List.set_cons_succ]
  refine wpAnyH_take (i := 1) (v := ?_) rfl (by kernel_rfl) (by kernel_rfl) (by kernel_rfl) (fun _ _ _ h => h) (Or.inl ⟨by kernel_rfl, ?_⟩) (by assumption) ?_
  rotate_left 1
  · intro w9 hSw
    try dsimp only at hSw
    go_simp
    try with_reducible rfl
  try simp only [Act.put, List.getElem_toArray, List.getElem_cons_succ, List.getElem_cons_zero, List.setIfInBounds_toArray, List.set_cons_zero, List.set_cons_succ]
  refine wpAnyH_take (i := 2) (v := ?_) rfl (by kernel_rfl) (by kernel_rfl) (by kernel_rfl) (fun _ _ _ h => h) (Or.inl ⟨by kernel_rfl, ?_⟩) (by assumption) ?_
  rotate_left 1
  · intro w9 hSw
    try dsimp only at hSw
    go_simp
    try with_reducible rfl
  try simp only [Act.put, List.getElem_toArray, List.getElem_cons_succ, List.getElem_cons_zero, List.setIfInBounds_toArray, List.set_cons_zero, List.set_cons_succ]
  refine wpAnyH_take (i := 3) (v := ?_) rfl (by kernel_rfl) (by kernel_rfl) (by kernel_rfl) (fun _ _ _ h => h) (Or.inl ⟨by kernel_rfl, ?_⟩) (by assumption) ?_
  rotate_left 1
  · intro w9 hSw
    try dsimp only at hSw
    go_simp
    try with_reducible rfl
  try simp only [Act.put, List.getElem_toArray, List.getElem_cons_succ, List.getElem_cons_zero, List.setIfInBounds_toArray, List.set_cons_zero, List.set_cons_succ]
  refine wpAnyH_take (i := 6) (v := ?_) rfl (by kernel_rfl) (by kernel_rfl) (by kernel_rfl) (fun _ _ _ h => h) (Or.inl ⟨by kernel_rfl, ?_⟩) (by assumption) ?_
  rotate_left 1
  · intro w9 hSw
    try dsimp only at hSw
    go_simp
    try with_reducible rfl
  try simp only [Act.put, List.getElem_toArray, List.getElem_cons_succ, List.getElem_cons_zero, List.setIfInBounds_toArray, List.set_cons_zero, List.set_cons_succ]
  refine wpAnyH_ready (rs := [4]) (by kernel_rfl) (by simp) ?_
  refine AllReadyH.cons rfl (fun K hK => ?_) (AllReadyH.nil)
  go_simp
  go_at_call 53
  refine (bitOf_any P Q G H c HG.out HC.out hQ2 Y_s.out).mono ?_
  rintro e' Wse ⟨v1, v2, rfl, hk, hb⟩
  have HB_se := Lib.hid (bt HB_s.out hb)
  have G_se := Lib.hid (G_s.out.below hb)
  have V_se := Lib.hid (V_s.out.below hb)
  have X_se := Lib.hid (X_s.out.below hb)
  have Y_se := Lib.hid (Y_s.out.below hb)
  have PP_se := Lib.hid (PP_s.out.below hb)
  have KC_se := Lib.hid hk
  clear hk
  clear hb
  go_wp2_with fail
  refine hK.out _ _ (show _ from ⟨⟨G_se.out.1, G_se.out.2.1, G_se.out.2.2⟩, ⟨V_se.out.1, V_se.out.2⟩, X_se.out.1, X_se.out.2.1, X_se.out.2.2.1⟩) (fun hHeld => ?_)
  clear hK K
  try simp only [Act.put, List.getElem_toArray, List.getElem_cons_succ, List.getElem_cons_zero, List.setIfInBounds_toArray, List.set_cons_zero, List.set_cons_succ]
  refine wpAnyH_take (i := 5) (v := ?_) rfl (by kernel_rfl) (by kernel_rfl) (by kernel_rfl) (fun _ _ _ h => h) (Or.inl ⟨by kernel_rfl, ?_⟩) (by assumption) ?_
  rotate_left 1
  · intro w9 hSw
    try dsimp only at hSw
    go_simp
    try with_reducible rfl
  try simp only [Act.put, List.getElem_toArray, List.getElem_cons_succ, List.getElem_cons_zero, List.setIfInBounds_toArray, List.set_cons_zero, List.set_cons_succ]
  refine wpAnyH_ready (rs := [7]) (by kernel_rfl) (by simp) ?_
  refine AllReadyH.cons rfl (fun K hK => ?_) (AllReadyH.nil)
  go_simp
  go_at_call 52
  refine (isProofClm_any P Q G HG.out bitL (by decide) HOK.out hpn KC_se.out.out.1 KC_se.out.out.2.choose_spec PP_se.out).mono ?_
  rw [HV.out]
  rintro e' Wseh ⟨rfl, hb⟩
  have HB_seh := Lib.hid (bt HB_se.out hb)
  have G_seh := Lib.hid (G_se.out.below hb)
  have V_seh := Lib.hid (V_se.out.below hb)
  have X_seh := Lib.hid (X_se.out.below hb)
  have Y_seh := Lib.hid (Y_se.out.below hb)
  have PP_seh := Lib.hid (PP_se.out.below hb)
  have KC_seh := Lib.hid (KC_se.out.below hb)
  clear hb
  go_wp2_with fail
  refine hK.out _ _ (show _ from ⟨⟨G_seh.out.1, G_seh.out.2.1, G_seh.out.2.2⟩, ⟨V_seh.out.1, V_seh.out.2⟩, X_seh.out.1, X_seh.out.2.1, X_seh.out.2.2.1⟩) (fun hHeld => ?_)
  clear hK K
  try simp only [Act.put, List.getElem_toArray, List.getElem_cons_succ, List.getElem_cons_zero, List.setIfInBounds_toArray, List.set_cons_zero, List.set_cons_succ]
  refine wpAnyH_take (i := 8) (v := ?_) rfl (by kernel_rfl) (by kernel_rfl) (by kernel_rfl) (fun _ _ _ h => h) (Or.inl ⟨by kernel_rfl, ?_⟩) (by assumption) ?_
  rotate_left 1
  · intro w9 hSw
    try dsimp only at hSw
    go_simp
    try with_reducible rfl
  try simp only [Act.put, List.getElem_toArray, List.getElem_cons_succ, List.getElem_cons_zero, List.setIfInBounds_toArray, List.set_cons_zero, List.set_cons_succ]
  refine wpAnyH_take (i := 9) (v := ?_) rfl (by kernel_rfl) (by kernel_rfl) (by kernel_rfl) (fun _ _ _ h => h) (Or.inl ⟨by kernel_rfl, ?_⟩) (by assumption) ?_
  rotate_left 1
  · intro w9 hSw
    try dsimp only at hSw
    go_simp
    try with_reducible rfl
  try simp only [Act.put, List.getElem_toArray, List.getElem_cons_succ, List.getElem_cons_zero, List.setIfInBounds_toArray, List.set_cons_zero, List.set_cons_succ]
  refine wpAnyH_take (i := 10) (v := ?_) rfl (by kernel_rfl) (by kernel_rfl) (by kernel_rfl) (fun _ _ _ h => h) (Or.inl ⟨by kernel_rfl, ?_⟩) (by assumption) ?_
  rotate_left 1
  · intro w9 hSw
    try dsimp only at hSw
    go_simp
    try with_reducible rfl
  try simp only [Act.put, List.getElem_toArray, List.getElem_cons_succ, List.getElem_cons_zero, List.setIfInBounds_toArray, List.set_cons_zero, List.set_cons_succ]
  refine wpAnyH_take (i := 11) (v := ?_) rfl (by kernel_rfl) (by kernel_rfl) (by kernel_rfl) (fun _ _ _ h => h) (Or.inl ⟨by kernel_rfl, ?_⟩) (by assumption) ?_
  rotate_left 1
  · intro w9 hSw
    try dsimp only at hSw
    go_simp
    try with_reducible rfl
  try simp only [Act.put, List.getElem_toArray, List.getElem_cons_succ, List.getElem_cons_zero, List.setIfInBounds_toArray, List.set_cons_zero, List.set_cons_succ]
  refine wpAnyH_done (by kernel_rfl) ?_ _
  go_wp2
  go_ret2
  exact ⟨rfl, HB_seh.out⟩

theorem els_mul {P Q G : Int} (hg : goodB P Q G = true) {cs : List Int} (h : allEl P Q cs = true) : elB P Q (mulFrom P 1 cs) = true := by
  have key : ∀ (cs : List Int) (a : Int), elB P Q a = true → allEl P Q cs = true → elB P Q (mulFrom P a cs) = true := by
    intro cs
    induction cs with
    | nil => intro a ha _; exact ha
    | cons z cs ih =>
      intro a ha h
      simp only [allEl, List.all_cons, Bool.and_eq_true] at h
      exact ih _ (el_mul hg ha h.1) h.2
  exact key cs 1 (one_el hg) h

set_option maxRecDepth 100000 in
set_option maxHeartbeats 3200000 in
theorem verifySum_any (P Q G H t : Int) {B C D : Nat} {y u v : Value} {hs cs : List Int} {p : PrD} (hl : hs.length ≤ 1048576) (hcs : cs.length ≤ 1048576) (hpn : p.n ≤ 1048576) {w : World} (hy : InI B w y hs) (hu : InI D w u cs) (hP : InP C w v p) :
    Calls Try.prog 37 #[gv P Q G, .agg #[.int .i64 H, y], u, .int .i64 t, v] w fun e w' => e = .returned (.tuple #[.bool (vsV P Q G H hs cs t p), .bool (vsB P Q G H hs cs t)]) ∧ Below w.heap.size w w' := by
  obtain ⟨ua, uc, rfl⟩ := hu.shape
  obtain ⟨ya, yc, rfl⟩ := hy.shape
  obtain ⟨a1, c1, a2, c2, a3, c3, rfl, _, _, _⟩ := hP.parts
  have G_9 := Lib.hid ((gr_at w (w.heap.size) (by simp) P Q G 32).below (ba (w.alloc (.cells #[.int .i64 P, .int .i64 Q, .int .i64 G] 32)) (.cells #[.int .i64 H, .slice ya hs.length yc] 34)))
  have V_9 := Lib.hid (d2_at (w.alloc (.cells #[.int .i64 P, .int .i64 Q, .int .i64 G] 32)) (w.heap.size + 1) (by simp) (.int .i64 H) (.slice ya hs.length yc) 34)
  have HB_9 := Lib.hid (show Below w.heap.size w ((w.alloc (.cells #[.int .i64 P, .int .i64 Q, .int .i64 G] 32)).alloc (.cells #[.int .i64 H, .slice ya hs.length yc] 34)) from bt (ba _ _) (ba _ _))
  have G_0 := Lib.hid (G_9.out.below (ba _ (.cells #[.slice a1 p.c.length c1, .slice a2 p.h.length c2, .slice a3 p.r.length c3] 29)))
  have V_0 := Lib.hid (V_9.out.below (ba _ (.cells #[.slice a1 p.c.length c1, .slice a2 p.h.length c2, .slice a3 p.r.length c3] 29)))
  have hv := b3_new ((w.alloc (.cells #[.int .i64 P, .int .i64 Q, .int .i64 G] 32)).alloc (.cells #[.int .i64 H, .slice ya hs.length yc] 34)) (.slice a1 p.c.length c1) (.slice a2 p.h.length c2) (.slice a3 p.r.length c3) 29
  rw [show ((w.alloc (.cells #[.int .i64 P, .int .i64 Q, .int .i64 G] 32)).alloc (.cells #[.int .i64 H, .slice ya hs.length yc] 34)).heap.size = w.heap.size + 2 by simp] at hv
  have X_0 := Lib.hid hv
  have HB_0 := Lib.hid (bt HB_9.out (ba _ (.cells #[.slice a1 p.c.length c1, .slice a2 p.h.length c2, .slice a3 p.r.length c3] 29)))
  have Y_0 := Lib.hid (hy.below HB_0.out)
  have PP_0 := Lib.hid (hP.below HB_0.out)
  have U_0 := Lib.hid (hu.below HB_0.out)
  clear hu hv hy hP G_9 V_9 HB_9
  cases h0 : bsB P Q G H hs
  · have K0 := Lib.hid (show bsB P Q G H hs = false from h0)
    have E1 := Lib.hid (show vsB P Q G H hs cs t = false by unfold vsB; rw [h0]; rfl)
    have E2 := Lib.hid (show vsV P Q G H hs cs t p = false by simp only [vsV, E1.out, Bool.false_and])
    rw [E1.out, E2.out]
    clear h0
    obtain ⟨gG0, gG1, gG2⟩ := G_0.out
    obtain ⟨bX0, bX1, bX2, _⟩ := X_0.out
    obtain ⟨cV0, cV1⟩ := V_0.out
    go_enter Try.func37, Try.ntmps37
    go_wp2_with fail
    refine (isValidBases_any P Q G H (by omega) Y_0.out).mono ?_
    rw [K0.out]
    rintro e v1 ⟨rfl, hb⟩
    have HB_1 := Lib.hid (bt HB_0.out hb)
    have G_1 := Lib.hid (G_0.out.below hb)
    have V_1 := Lib.hid (V_0.out.below hb)
    have X_1 := Lib.hid (X_0.out.below hb)
    have Y_1 := Lib.hid (Y_0.out.below hb)
    have U_1 := Lib.hid (U_0.out.below hb)
    have PP_1 := Lib.hid (PP_0.out.below hb)
    clear hb gG0 gG1 gG2 bX0 bX1 bX2 cV0 cV1
    obtain ⟨gG0, gG1, gG2⟩ := G_1.out
    obtain ⟨bX0, bX1, bX2, _⟩ := X_1.out
    obtain ⟨cV0, cV1⟩ := V_1.out
    go_wp2
    go_ret2
    exact ⟨rfl, HB_1.out⟩
  have K0 := Lib.hid (show bsB P Q G H hs = true from h0)
  have hgd := bs_good h0
  have hmo := good_mo hgd
  have hH0 := bs_H h0
  have hQ2 := (good_rng hgd).2.1.1
  by_cases h1 : ¬ (¬ cs.length = 0)
  · have B1 : ((cs.length : Int) == 0) = true := by have := Decidable.not_not.1 h1; simp [this]
    have E1 := Lib.hid (show vsB P Q G H hs cs t = false by unfold vsB; rw [decide_eq_false (by omega)]; simp)
    have E2 := Lib.hid (show vsV P Q G H hs cs t p = false by simp only [vsV, E1.out, Bool.false_and])
    rw [E1.out, E2.out]
    clear h0 h1
    obtain ⟨gG0, gG1, gG2⟩ := G_0.out
    obtain ⟨bX0, bX1, bX2, _⟩ := X_0.out
    obtain ⟨cV0, cV1⟩ := V_0.out
    go_enter Try.func37, Try.ntmps37
    go_wp2_with fail
    refine (isValidBases_any P Q G H (by omega) Y_0.out).mono ?_
    rw [K0.out]
    rintro e v1 ⟨rfl, hb⟩
    have HB_1 := Lib.hid (bt HB_0.out hb)
    have G_1 := Lib.hid (G_0.out.below hb)
    have V_1 := Lib.hid (V_0.out.below hb)
    have X_1 := Lib.hid (X_0.out.below hb)
    have Y_1 := Lib.hid (Y_0.out.below hb)
    have U_1 := Lib.hid (U_0.out.below hb)
    have PP_1 := Lib.hid (PP_0.out.below hb)
    clear hb gG0 gG1 gG2 bX0 bX1 bX2 cV0 cV1
    obtain ⟨gG0, gG1, gG2⟩ := G_1.out
    obtain ⟨bX0, bX1, bX2, _⟩ := X_1.out
    obtain ⟨cV0, cV1⟩ := V_1.out
    go_wp2
    go_ret2
    exact ⟨rfl, HB_1.out⟩
  have h1 := Decidable.not_not.1 h1
  have B1 : ((cs.length : Int) == 0) = false := by simp only [beq_eq_false_iff_ne, ne_eq]; omega
  cases h2 : elsB P Q cs
  · have K2 := Lib.hid (show elsB P Q cs = false from h2)
    have E1 := Lib.hid (show vsB P Q G H hs cs t = false by unfold vsB; rw [Bool.and_comm]; by_cases h9 : cs.length ≤ 24; (have h8 : allEl P Q cs = false := (by rw [← elsB_all h9]; exact h2); rw [h8]; simp); (rw [decide_eq_false (by omega)]; simp))
    have E2 := Lib.hid (show vsV P Q G H hs cs t p = false by simp only [vsV, E1.out, Bool.false_and])
    rw [E1.out, E2.out]
    clear h0 h1 h2
    obtain ⟨gG0, gG1, gG2⟩ := G_0.out
    obtain ⟨bX0, bX1, bX2, _⟩ := X_0.out
    obtain ⟨cV0, cV1⟩ := V_0.out
    go_enter Try.func37, Try.ntmps37
    go_wp2_with fail
    refine (isValidBases_any P Q G H (by omega) Y_0.out).mono ?_
    rw [K0.out]
    rintro e v1 ⟨rfl, hb⟩
    have HB_1 := Lib.hid (bt HB_0.out hb)
    have G_1 := Lib.hid (G_0.out.below hb)
    have V_1 := Lib.hid (V_0.out.below hb)
    have X_1 := Lib.hid (X_0.out.below hb)
    have Y_1 := Lib.hid (Y_0.out.below hb)
    have U_1 := Lib.hid (U_0.out.below hb)
    have PP_1 := Lib.hid (PP_0.out.below hb)
    clear hb gG0 gG1 gG2 bX0 bX1 bX2 cV0 cV1
    obtain ⟨gG0, gG1, gG2⟩ := G_1.out
    obtain ⟨bX0, bX1, bX2, _⟩ := X_1.out
    obtain ⟨cV0, cV1⟩ := V_1.out
    go_wp2_with fail
    refine (areElements_any P Q G hmo ua cs.length uc cs rfl (by omega) _ (U_1.out.ints).1).mono ?_
    rw [K2.out]
    rintro e v2 ⟨rfl, hb⟩
    have HB_2 := Lib.hid (bt HB_1.out hb)
    have G_2 := Lib.hid (G_1.out.below hb)
    have V_2 := Lib.hid (V_1.out.below hb)
    have X_2 := Lib.hid (X_1.out.below hb)
    have Y_2 := Lib.hid (Y_1.out.below hb)
    have U_2 := Lib.hid (U_1.out.below hb)
    have PP_2 := Lib.hid (PP_1.out.below hb)
    clear hb gG0 gG1 gG2 bX0 bX1 bX2 cV0 cV1
    obtain ⟨gG0, gG1, gG2⟩ := G_2.out
    obtain ⟨bX0, bX1, bX2, _⟩ := X_2.out
    obtain ⟨cV0, cV1⟩ := V_2.out
    go_wp2
    go_ret2
    exact ⟨rfl, HB_2.out⟩
  have K2 := Lib.hid (show elsB P Q cs = true from h2)
  cases h3 : exB Q t
  · have K3 := Lib.hid (show exB Q t = false from h3)
    have E1 := Lib.hid (show vsB P Q G H hs cs t = false by unfold vsB; rw [h3]; simp)
    have E2 := Lib.hid (show vsV P Q G H hs cs t p = false by simp only [vsV, E1.out, Bool.false_and])
    rw [E1.out, E2.out]
    clear h0 h1 h2 h3
    obtain ⟨gG0, gG1, gG2⟩ := G_0.out
    obtain ⟨bX0, bX1, bX2, _⟩ := X_0.out
    obtain ⟨cV0, cV1⟩ := V_0.out
    go_enter Try.func37, Try.ntmps37
    go_wp2_with fail
    refine (isValidBases_any P Q G H (by omega) Y_0.out).mono ?_
    rw [K0.out]
    rintro e v1 ⟨rfl, hb⟩
    have HB_1 := Lib.hid (bt HB_0.out hb)
    have G_1 := Lib.hid (G_0.out.below hb)
    have V_1 := Lib.hid (V_0.out.below hb)
    have X_1 := Lib.hid (X_0.out.below hb)
    have Y_1 := Lib.hid (Y_0.out.below hb)
    have U_1 := Lib.hid (U_0.out.below hb)
    have PP_1 := Lib.hid (PP_0.out.below hb)
    clear hb gG0 gG1 gG2 bX0 bX1 bX2 cV0 cV1
    obtain ⟨gG0, gG1, gG2⟩ := G_1.out
    obtain ⟨bX0, bX1, bX2, _⟩ := X_1.out
    obtain ⟨cV0, cV1⟩ := V_1.out
    go_wp2_with fail
    refine (areElements_any P Q G hmo ua cs.length uc cs rfl (by omega) _ (U_1.out.ints).1).mono ?_
    rw [K2.out]
    rintro e v2 ⟨rfl, hb⟩
    have HB_2 := Lib.hid (bt HB_1.out hb)
    have G_2 := Lib.hid (G_1.out.below hb)
    have V_2 := Lib.hid (V_1.out.below hb)
    have X_2 := Lib.hid (X_1.out.below hb)
    have Y_2 := Lib.hid (Y_1.out.below hb)
    have U_2 := Lib.hid (U_1.out.below hb)
    have PP_2 := Lib.hid (PP_1.out.below hb)
    clear hb gG0 gG1 gG2 bX0 bX1 bX2 cV0 cV1
    obtain ⟨gG0, gG1, gG2⟩ := G_2.out
    obtain ⟨bX0, bX1, bX2, _⟩ := X_2.out
    obtain ⟨cV0, cV1⟩ := V_2.out
    go_wp2_with fail
    refine (hasExponent_any P Q G t _).mono ?_
    rw [K3.out]
    rintro e v3 ⟨rfl, hb⟩
    have HB_3 := Lib.hid (bt HB_2.out hb)
    have G_3 := Lib.hid (G_2.out.below hb)
    have V_3 := Lib.hid (V_2.out.below hb)
    have X_3 := Lib.hid (X_2.out.below hb)
    have Y_3 := Lib.hid (Y_2.out.below hb)
    have U_3 := Lib.hid (U_2.out.below hb)
    have PP_3 := Lib.hid (PP_2.out.below hb)
    clear hb gG0 gG1 gG2 bX0 bX1 bX2 cV0 cV1
    obtain ⟨gG0, gG1, gG2⟩ := G_3.out
    obtain ⟨bX0, bX1, bX2, _⟩ := X_3.out
    obtain ⟨cV0, cV1⟩ := V_3.out
    go_wp2
    go_ret2
    exact ⟨rfl, HB_3.out⟩
  have K3 := Lib.hid (show exB Q t = true from h3)
  have hcl : cs.length ≤ 24 := by simp only [elsB, Bool.and_eq_true, decide_eq_true_eq] at h2; exact h2.1
  have hce : allEl P Q cs = true := by rw [← elsB_all hcl]; exact h2
  have ht := exB_true.1 h3
  have E1 := Lib.hid (show vsB P Q G H hs cs t = true by unfold vsB; rw [h0, hce, h3, decide_eq_true (by omega)]; rfl)
  rw [E1.out]
  have hme := els_mul hgd hce
  have HOK := Lib.hid (sum_ok hgd hH0 hme ht)
  have HG := Lib.hid hgd
  have HC := Lib.hid hme
  have EB := Lib.hid (show mulB P Q G cs = true by unfold mulB; rw [hgd, h2]; rfl)
  have EV := Lib.hid (show mulV P Q G cs = mulFrom P 1 cs by unfold mulV; rw [EB.out]; rfl)
  obtain ⟨v, hv⟩ : ∃ v, vrV P Q G sumL (sumS P Q G H (mulFrom P 1 cs) t) p = v := ⟨_, rfl⟩
  have E2 := Lib.hid (show vsV P Q G H hs cs t p = v by unfold vsV; rw [E1.out, Bool.true_and, ← vr_sum hgd hH0 hme ht]; exact hv)
  rw [E2.out]
  have HV := Lib.hid hv
  generalize mulFrom P 1 cs = mc at *
  clear h0 h1 h2 h3 hgd hH0 hv hme hce
  obtain ⟨gG0, gG1, gG2⟩ := G_0.out
  obtain ⟨bX0, bX1, bX2, _⟩ := X_0.out
  obtain ⟨cV0, cV1⟩ := V_0.out
  go_enter Try.func37, Try.ntmps37
  go_wp2_with fail
  refine (isValidBases_any P Q G H (by omega) Y_0.out).mono ?_
  rw [K0.out]
  rintro e v1 ⟨rfl, hb⟩
  have HB_1 := Lib.hid (bt HB_0.out hb)
  have G_1 := Lib.hid (G_0.out.below hb)
  have V_1 := Lib.hid (V_0.out.below hb)
  have X_1 := Lib.hid (X_0.out.below hb)
  have Y_1 := Lib.hid (Y_0.out.below hb)
  have U_1 := Lib.hid (U_0.out.below hb)
  have PP_1 := Lib.hid (PP_0.out.below hb)
  clear hb gG0 gG1 gG2 bX0 bX1 bX2 cV0 cV1
  obtain ⟨gG0, gG1, gG2⟩ := G_1.out
  obtain ⟨bX0, bX1, bX2, _⟩ := X_1.out
  obtain ⟨cV0, cV1⟩ := V_1.out
  go_wp2_with fail
  refine (areElements_any P Q G hmo ua cs.length uc cs rfl (by omega) _ (U_1.out.ints).1).mono ?_
  rw [K2.out]
  rintro e v2 ⟨rfl, hb⟩
  have HB_2 := Lib.hid (bt HB_1.out hb)
  have G_2 := Lib.hid (G_1.out.below hb)
  have V_2 := Lib.hid (V_1.out.below hb)
  have X_2 := Lib.hid (X_1.out.below hb)
  have Y_2 := Lib.hid (Y_1.out.below hb)
  have U_2 := Lib.hid (U_1.out.below hb)
  have PP_2 := Lib.hid (PP_1.out.below hb)
  clear hb gG0 gG1 gG2 bX0 bX1 bX2 cV0 cV1
  obtain ⟨gG0, gG1, gG2⟩ := G_2.out
  obtain ⟨bX0, bX1, bX2, _⟩ := X_2.out
  obtain ⟨cV0, cV1⟩ := V_2.out
  go_wp2_with fail
  refine (hasExponent_any P Q G t _).mono ?_
  rw [K3.out]
  rintro e v3 ⟨rfl, hb⟩
  have HB_3 := Lib.hid (bt HB_2.out hb)
  have G_3 := Lib.hid (G_2.out.below hb)
  have V_3 := Lib.hid (V_2.out.below hb)
  have X_3 := Lib.hid (X_2.out.below hb)
  have Y_3 := Lib.hid (Y_2.out.below hb)
  have U_3 := Lib.hid (U_2.out.below hb)
  have PP_3 := Lib.hid (PP_2.out.below hb)
  clear hb gG0 gG1 gG2 bX0 bX1 bX2 cV0 cV1
  obtain ⟨gG0, gG1, gG2⟩ := G_3.out
  obtain ⟨bX0, bX1, bX2, _⟩ := X_3.out
  obtain ⟨cV0, cV1⟩ := V_3.out
  go_wp2_with fail
  refine (mulOf_any P Q G ua cs.length uc cs rfl (by omega) _ (U_3.out.ints).1).mono ?_
  rw [EB.out, EV.out]
  rintro e v9 ⟨rfl, hb⟩
  have HB_9 := Lib.hid (bt HB_3.out hb)
  have G_9 := Lib.hid (G_3.out.below hb)
  have V_9 := Lib.hid (V_3.out.below hb)
  have X_9 := Lib.hid (X_3.out.below hb)
  have Y_9 := Lib.hid (Y_3.out.below hb)
  have PP_9 := Lib.hid (PP_3.out.below hb)
  clear hb gG0 gG1 gG2 cV0 cV1 bX0 bX1 bX2
  go_wp2_with fail
  have hbd : Below v9.heap.size v9 v9.drew := (Below.refl _ v9).drew
  have HB_s := Lib.hid (bt HB_9.out hbd)
  have G_s := Lib.hid (G_9.out.below hbd)
  have V_s := Lib.hid (V_9.out.below hbd)
  have X_s := Lib.hid (X_9.out.below hbd)
  have Y_s := Lib.hid (Y_9.out.below hbd)
  have PP_s := Lib.hid (PP_9.out.below hbd)
  clear hbd
  refine wp_region_held_drew (S := (fun w' => (w'.cell? ⟨w.heap.size, 0, none⟩ = some (.int .i64 P) ∧ w'.cell? ⟨w.heap.size, 1, none⟩ = some (.int .i64 Q) ∧ w'.cell? ⟨w.heap.size, 2, none⟩ = some (.int .i64 G)) ∧ (w'.cell? ⟨w.heap.size + 1, 0, none⟩ = some (.int .i64 H) ∧ w'.cell? ⟨w.heap.size + 1, 1, none⟩ = some (.slice ya hs.length yc)) ∧ (w'.cell? ⟨w.heap.size + 2, 0, none⟩ = some (.slice a1 p.c.length c1) ∧ w'.cell? ⟨w.heap.size + 2, 1, none⟩ = some (.slice a2 p.h.length c2) ∧ w'.cell? ⟨w.heap.size + 2, 2, none⟩ = some (.slice a3 p.r.length c3)))) (by kernel_rfl) (show _ from ⟨⟨G_9.out.1, G_9.out.2.1, G_9.out.2.2⟩, ⟨V_9.out.1, V_9.out.2⟩, X_9.out.1, X_9.out.2.1, X_9.out.2.2.1⟩) (fun hHeld => ?_)
  generalize hW0 : v9.drew = Ws at *
  clear hW0
  refine wpAnyH_take (i := 0) (v := ?_) rfl (by kernel_rfl) (by kernel_rfl) (by kernel_rfl) (fun _ _ _ h => h) (Or.inl ⟨by kernel_rfl, ?_⟩) (by assumption) ?_
  rotate_left 1
  · intro w9 hSw
    try dsimp only at hSw
    go_simp
    try with_reducible rfl
  try simp only [Act.put, List.getElem_toArray, List.getElem_cons_succ, List.getElem_cons_zero, List.setIfInBounds_toArray, List.set_cons_zero, List.set_cons_succ]
  refine wpAnyH_take (i := 1) (v := ?_) rfl (by kernel_rfl) (by kernel_rfl) (by kernel_rfl) (fun _ _ _ h => h) (Or.inl ⟨by kernel_rfl, ?_⟩) (by assumption) ?_
  rotate_left 1
  · intro w9 hSw
    try dsimp only at hSw
    go_simp
    try with_reducible rfl
  try simp only [Act.put, List.getElem_toArray, List.getElem_cons_succ, List.getElem_cons_zero, List.setIfInBounds_toArray, List.set_cons_zero, List.set_cons_succ]
  refine wpAnyH_take (i := 2) (v := ?_) rfl (by kernel_rfl) (by kernel_rfl) (by kernel_rfl) (fun _ _ _ h => h) (Or.inl ⟨by kernel_rfl, ?_⟩) (by assumption) ?_
  rotate_left 1
  · intro w9 hSw
    try dsimp only at hSw
    go_simp
    try with_reducible rfl
  try simp only [Act.put, List.getElem_toArray, List.getElem_cons_succ, List.getElem_cons_zero, List.setIfInBounds_toArray, List.set_cons_zero, List.set_cons_succ]
  refine wpAnyH_take (i := 3) (v := ?_) rfl (by kernel_rfl) (by kernel_rfl) (by kernel_rfl) (fun _ _ _ h => h) (Or.inl ⟨by kernel_rfl, ?_⟩) (by assumption) ?_
  rotate_left 1
  · intro w9 hSw
    try dsimp only at hSw
    go_simp
    try with_reducible rfl
  try simp only [Act.put, List.getElem_toArray, List.getElem_cons_succ, List.getElem_cons_zero, List.setIfInBounds_toArray, List.set_cons_zero, List.set_cons_succ]
  refine wpAnyH_take (i := 4) (v := ?_) rfl (by kernel_rfl) (by kernel_rfl) (by kernel_rfl) (fun _ _ _ h => h) (Or.inl ⟨by kernel_rfl, ?_⟩) (by assumption) ?_
  rotate_left 1
  · intro w9 hSw
    try dsimp only at hSw
    go_simp
    try with_reducible rfl
  try simp only [Act.put, List.getElem_toArray, List.getElem_cons_succ, List.getElem_cons_zero, List.setIfInBounds_toArray, List.set_cons_zero, List.set_cons_succ]
  refine wpAnyH_take (i := 7) (v := ?_) rfl (by kernel_rfl) (by kernel_rfl) (by kernel_rfl) (fun _ _ _ h => h) (Or.inl ⟨by kernel_rfl, ?_⟩) (by assumption) ?_
  rotate_left 1
  · intro w9 hSw
    try dsimp only at hSw
    go_simp
    try with_reducible rfl
  try simp only [Act.put, List.getElem_toArray, List.getElem_cons_succ, List.getElem_cons_zero, List.setIfInBounds_toArray, List.set_cons_zero, List.set_cons_succ]
  refine wpAnyH_ready (rs := [5]) (by kernel_rfl) (by simp) ?_
  refine AllReadyH.cons rfl (fun K hK => ?_) (AllReadyH.nil)
  go_simp
  go_at_call 72
  refine (sumOf_any P Q G H mc t HG.out HC.out ht Y_s.out).mono ?_
  rintro e' Wsf ⟨v1, v2, rfl, hk, hb⟩
  have HB_sf := Lib.hid (bt HB_s.out hb)
  have G_sf := Lib.hid (G_s.out.below hb)
  have V_sf := Lib.hid (V_s.out.below hb)
  have X_sf := Lib.hid (X_s.out.below hb)
  have Y_sf := Lib.hid (Y_s.out.below hb)
  have PP_sf := Lib.hid (PP_s.out.below hb)
  have KC_sf := Lib.hid hk
  clear hk
  clear hb
  go_wp2_with fail
  refine hK.out _ _ (show _ from ⟨⟨G_sf.out.1, G_sf.out.2.1, G_sf.out.2.2⟩, ⟨V_sf.out.1, V_sf.out.2⟩, X_sf.out.1, X_sf.out.2.1, X_sf.out.2.2.1⟩) (fun hHeld => ?_)
  clear hK K
  try simp only [Act.put, List.getElem_toArray, List.getElem_cons_succ, List.getElem_cons_zero, List.setIfInBounds_toArray, List.set_cons_zero, List.set_cons_succ]
  refine wpAnyH_take (i := 6) (v := ?_) rfl (by kernel_rfl) (by kernel_rfl) (by kernel_rfl) (fun _ _ _ h => h) (Or.inl ⟨by kernel_rfl, ?_⟩) (by assumption) ?_
  rotate_left 1
  · intro w9 hSw
    try dsimp only at hSw
    go_simp
    try with_reducible rfl
  try simp only [Act.put, List.getElem_toArray, List.getElem_cons_succ, List.getElem_cons_zero, List.setIfInBounds_toArray, List.set_cons_zero, List.set_cons_succ]
  refine wpAnyH_ready (rs := [8]) (by kernel_rfl) (by simp) ?_
  refine AllReadyH.cons rfl (fun K hK => ?_) (AllReadyH.nil)
  go_simp
  go_at_call 52
  refine (isProofClm_any P Q G HG.out sumL (by decide) HOK.out hpn KC_sf.out.out.1 KC_sf.out.out.2.choose_spec PP_sf.out).mono ?_
  rw [HV.out]
  rintro e' Wsfi ⟨rfl, hb⟩
  have HB_sfi := Lib.hid (bt HB_sf.out hb)
  have G_sfi := Lib.hid (G_sf.out.below hb)
  have V_sfi := Lib.hid (V_sf.out.below hb)
  have X_sfi := Lib.hid (X_sf.out.below hb)
  have Y_sfi := Lib.hid (Y_sf.out.below hb)
  have PP_sfi := Lib.hid (PP_sf.out.below hb)
  have KC_sfi := Lib.hid (KC_sf.out.below hb)
  clear hb
  go_wp2_with fail
  refine hK.out _ _ (show _ from ⟨⟨G_sfi.out.1, G_sfi.out.2.1, G_sfi.out.2.2⟩, ⟨V_sfi.out.1, V_sfi.out.2⟩, X_sfi.out.1, X_sfi.out.2.1, X_sfi.out.2.2.1⟩) (fun hHeld => ?_)
  clear hK K
  try simp only [Act.put, List.getElem_toArray, List.getElem_cons_succ, List.getElem_cons_zero, List.setIfInBounds_toArray, List.set_cons_zero, List.set_cons_succ]
  refine wpAnyH_take (i := 9) (v := ?_) rfl (by kernel_rfl) (by kernel_rfl) (by kernel_rfl) (fun _ _ _ h => h) (Or.inl ⟨by kernel_rfl, ?_⟩) (by assumption) ?_
  rotate_left 1
  · intro w9 hSw
    try dsimp only at hSw
    go_simp
    try with_reducible rfl
  try simp only [Act.put, List.getElem_toArray, List.getElem_cons_succ, List.getElem_cons_zero, List.setIfInBounds_toArray, List.set_cons_zero, List.set_cons_succ]
  refine wpAnyH_take (i := 10) (v := ?_) rfl (by kernel_rfl) (by kernel_rfl) (by kernel_rfl) (fun _ _ _ h => h) (Or.inl ⟨by kernel_rfl, ?_⟩) (by assumption) ?_
  rotate_left 1
  · intro w9 hSw
    try dsimp only at hSw
    go_simp
    try with_reducible rfl
  try simp only [Act.put, List.getElem_toArray, List.getElem_cons_succ, List.getElem_cons_zero, List.setIfInBounds_toArray, List.set_cons_zero, List.set_cons_succ]
  refine wpAnyH_take (i := 11) (v := ?_) rfl (by kernel_rfl) (by kernel_rfl) (by kernel_rfl) (fun _ _ _ h => h) (Or.inl ⟨by kernel_rfl, ?_⟩) (by assumption) ?_
  rotate_left 1
  · intro w9 hSw
    try dsimp only at hSw
    go_simp
    try with_reducible rfl
  try simp only [Act.put, List.getElem_toArray, List.getElem_cons_succ, List.getElem_cons_zero, List.setIfInBounds_toArray, List.set_cons_zero, List.set_cons_succ]
  refine wpAnyH_take (i := 12) (v := ?_) rfl (by kernel_rfl) (by kernel_rfl) (by kernel_rfl) (fun _ _ _ h => h) (Or.inl ⟨by kernel_rfl, ?_⟩) (by assumption) ?_
  rotate_left 1
  · intro w9 hSw
    try dsimp only at hSw
    go_simp
    try with_reducible rfl
  try simp only [Act.put, List.getElem_toArray, List.getElem_cons_succ, List.getElem_cons_zero, List.setIfInBounds_toArray, List.set_cons_zero, List.set_cons_succ]
  refine wpAnyH_done (by kernel_rfl) ?_ _
  go_wp2
  go_ret2
  exact ⟨rfl, HB_sfi.out⟩

end Go.Proofs.Ytblclghbabhdlaa

