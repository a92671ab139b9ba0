/- Chapter 9, the reference: a proof of an opening is made. -/
import Derived.Test.YtlgdcfficemebaaComR
import Derived.Test.YtlgdcfficemebaaComK
namespace Go.Proofs.Ytlgdcfficemebaa
open Go.RowKit
set_option linter.unusedVariables false
set_option linter.unusedSimpArgs false

theorem op_two {P Q G H m r a b : Int} (hP : 2 ≤ P) : opP P Q G H m r [a, b] = ⟨[cmW P G H a b], [chX P Q G opL [H, cmW P G H m r, cmW P G H a b]], [(a + chX P Q G opL [H, cmW P G H m r, cmW P G H a b] * m) % Q, (b + chX P Q G opL [H, cmW P G H m r, cmW P G H a b] * r) % Q]⟩ := by
  unfold opP spE
  rw [op_img hP]
  rfl
theorem cm_elB {P Q G H m r : Int} (hg : goodB P Q G = true) (hH : elB P Q H = true) (hm : 0 ≤ m ∧ m < Q) (hr : 0 ≤ r ∧ r < Q) : elB P Q (cmW P G H m r) = true := by
  have hmr : allIn [m, r] 0 (Q - 1) = true := by
    simp only [allIn, List.all_cons, List.all_nil, Bool.and_true, Bool.and_eq_true, inB_true]
    omega
  have := pows_el hg [G, H] [m, r] 1 (one_el hg) (by simp [allEl, good_el hg, hH]) hmr
  rwa [pows_two (good_mo hg).1.1] at this
theorem in_blk {B : Nat} {w : World} {ad : Option Addr} {n c : Nat} {zs : List Int} (h : InI B w (.slice ad n c) zs) : ∀ b o, ad = some ⟨b, o, none⟩ → zs ≠ [] → b < w.heap.size := by
  intro b o ha h0
  obtain ⟨h1, _⟩ := h.ints
  rcases h1 with h1 | ⟨b', off, h2, h3, _⟩
  · exact absurd h1 h0
  · rw [h2] at ha; cases ha; exact h3
theorem mid_cR {w w' : World} {A B b i : Nat} {v : Value} (hm : Mid A B w w') (h : w.cell? ⟨b, i, none⟩ = some v) (ho : b < A ∨ B ≤ b) : w'.cell? ⟨b, i, none⟩ = some v := by
  rw [World.cell?_of_block (a := ⟨b, i, none⟩) (hm.block b (World.block_lt_of_cell? w _ h) ho)]; exact h
theorem owI_lit (w : World) (zs : List Int) (hz : zs.length ≤ 1000000) : OwI w.heap.size (w.alloc (.cells (zs.map (Value.int .i64)).toArray 3)).heap.size (w.alloc (.cells (zs.map (Value.int .i64)).toArray 3)) (.slice (some ⟨w.heap.size, 0, none⟩) zs.length zs.length) zs := OwR.mk (own_lit w zs hz 3) (by simp)

set_option maxRecDepth 100000 in
set_option maxHeartbeats 12800000 in
theorem sProveOpening_any (P Q G H m r : Int) {B C : Nat} {y u : Value} {hs cs : List Int} (hl : hs.length ≤ 1048576) (hcl : cs.length ≤ 1048576) {w : World} (hy : InI B w y hs) (hu : InI C w u cs) :
    Calls Try.prog 50 #[gv P Q G, .agg #[.int .i64 H, y], .int .i64 m, .int .i64 r, u] w (AnsJ w (opV P Q G H hs m r cs) (opB P Q G H hs m r cs)) := by
  obtain ⟨ya, yc, rfl⟩ := hy.shape
  obtain ⟨xa, xc, rfl⟩ := hu.shape
  have G_9 := Lib.hid ((gr_at w (w.heap.size) (by simp) P Q G 32).below (ba (w.alloc (.cells #[.int .i64 P, .int .i64 Q, .int .i64 G] 32)) (.cells #[.int .i64 H, .slice ya hs.length yc] 73)))
  have V_9 := Lib.hid (d2_at (w.alloc (.cells #[.int .i64 P, .int .i64 Q, .int .i64 G] 32)) (w.heap.size + 1) (by simp) (.int .i64 H) (.slice ya hs.length yc) 73)
  have HB_9 := Lib.hid (show Below w.heap.size w ((w.alloc (.cells #[.int .i64 P, .int .i64 Q, .int .i64 G] 32)).alloc (.cells #[.int .i64 H, .slice ya hs.length yc] 73)) from bt (ba _ _) (ba _ _))
  have G_0 := Lib.hid (G_9.out.below (ba _ (.cells #[.slice none 0 0, .slice none 0 0, .slice none 0 0] 36)))
  have V_0 := Lib.hid (V_9.out.below (ba _ (.cells #[.slice none 0 0, .slice none 0 0, .slice none 0 0] 36)))
  have hv := b3_new ((w.alloc (.cells #[.int .i64 P, .int .i64 Q, .int .i64 G] 32)).alloc (.cells #[.int .i64 H, .slice ya hs.length yc] 73)) (.slice none 0 0) (.slice none 0 0) (.slice none 0 0) 36
  rw [show ((w.alloc (.cells #[.int .i64 P, .int .i64 Q, .int .i64 G] 32)).alloc (.cells #[.int .i64 H, .slice ya hs.length yc] 73)).heap.size = w.heap.size + 2 by simp] at hv
  have Z_0 := Lib.hid hv
  have HB_0 := Lib.hid (bt HB_9.out (ba _ (.cells #[.slice none 0 0, .slice none 0 0, .slice none 0 0] 36)))
  have Y_0 := Lib.hid (hy.below HB_0.out)
  have C_0 := Lib.hid (hu.below HB_0.out)
  have HNE := Lib.hid (in_blk hu)
  clear hv hy hu G_9 V_9 HB_9
  cases h0 : bsB P Q G H hs
  · have K0 := Lib.hid (show bsB P Q G H hs = false from h0)
    have E1 := Lib.hid (show opB P Q G H hs m r cs = false by simp [opB, cmB, h0])
    rw [E1.out, op_off E1.out]
    clear h0
    obtain ⟨gG0, gG1, gG2⟩ := G_0.out
    obtain ⟨rZ0, rZ1, rZ2, rfZ⟩ := Z_0.out
    have rfZ0 := rfZ 0
    have rfZ1 := rfZ 1
    have rfZ2 := rfZ 2
    obtain ⟨cV0, cV1⟩ := V_0.out
    go_enter Try.func50, Try.ntmps50
    go_wp2_with fail
    refine (l9Good_any P Q G H (by omega) Y_0.out).mono ?_
    rw [K0.out]
    rintro e v1 ⟨rfl, hb⟩
    have HB_1 := Lib.hid (bt HB_0.out hb)
    have G_1 := Lib.hid (G_0.out.below hb)
    have V_1 := Lib.hid (V_0.out.below hb)
    have Z_1 := Lib.hid (Z_0.out.below hb)
    have Y_1 := Lib.hid (Y_0.out.below hb)
    have C_1 := Lib.hid (C_0.out.below hb)
    clear hb gG0 gG1 gG2 rZ0 rZ1 rZ2 rfZ rfZ0 rfZ1 rfZ2 cV0 cV1
    obtain ⟨gG0, gG1, gG2⟩ := G_1.out
    obtain ⟨rZ0, rZ1, rZ2, rfZ⟩ := Z_1.out
    have rfZ0 := rfZ 0
    have rfZ1 := rfZ 1
    have rfZ2 := rfZ 2
    obtain ⟨cV0, cV1⟩ := V_1.out
    go_wp2
    (try simp only [Exit.inBlock, Exit.then])
    refine bodyPost_ret (v := .tuple #[.agg #[.slice none 0 0, .slice none 0 0, .slice none 0 0], .bool false]) ?_ rfl ?_
    · rw [results_cell_tmp rfl]; go_simp
    · have hm5 := mid3 v1 (w.heap.size + 2) (.slice none 0 0) (.slice none 0 0) (.slice none 0 0)
      exact ⟨_, _, _, rfl, owT_nil (HB_1.out.trans (hm5.toBelow (by omega) HB_1.out.size)).size, HB_1.out.trans (hm5.toBelow (by omega) HB_1.out.size)⟩
  have K0 := Lib.hid (show bsB P Q G H hs = true from h0)
  have hgd := bs_good h0
  have hmo := good_mo hgd
  have hgr := good_rng hgd
  have hH0 := bs_H h0
  cases h1 : allIn [m, r] 0 (Q - 1)
  · have K1 := Lib.hid (show allIn [m, r] 0 (Q - 1) = false from h1)
    have E1 := Lib.hid (show opB P Q G H hs m r cs = false by simp [opB, cmB, h0, h1])
    rw [E1.out, op_off E1.out]
    clear h0 h1
    obtain ⟨gG0, gG1, gG2⟩ := G_0.out
    obtain ⟨rZ0, rZ1, rZ2, rfZ⟩ := Z_0.out
    have rfZ0 := rfZ 0
    have rfZ1 := rfZ 1
    have rfZ2 := rfZ 2
    obtain ⟨cV0, cV1⟩ := V_0.out
    go_enter Try.func50, Try.ntmps50
    go_wp2_with fail
    refine (l9Good_any P Q G H (by omega) Y_0.out).mono ?_
    rw [K0.out]
    rintro e v1 ⟨rfl, hb⟩
    have HB_1 := Lib.hid (bt HB_0.out hb)
    have G_1 := Lib.hid (G_0.out.below hb)
    have V_1 := Lib.hid (V_0.out.below hb)
    have Z_1 := Lib.hid (Z_0.out.below hb)
    have Y_1 := Lib.hid (Y_0.out.below hb)
    have C_1 := Lib.hid (C_0.out.below hb)
    clear hb gG0 gG1 gG2 rZ0 rZ1 rZ2 rfZ rfZ0 rfZ1 rfZ2 cV0 cV1
    obtain ⟨gG0, gG1, gG2⟩ := G_1.out
    obtain ⟨rZ0, rZ1, rZ2, rfZ⟩ := Z_1.out
    have rfZ0 := rfZ 0
    have rfZ1 := rfZ 1
    have rfZ2 := rfZ 2
    obtain ⟨cV0, cV1⟩ := V_1.out
    go_wp2_with fail
    refine (gExps_any P Q G ⟨by omega, by omega⟩ _ 2 2 [m, r] rfl (by decide) _ (ints_lit v1 [m, r] 3)).mono ?_
    rw [K1.out]
    rintro e v2 ⟨rfl, hb0⟩
    have hb := bt (ba v1 _) hb0
    clear hb0
    have HB_2 := Lib.hid (bt HB_1.out hb)
    have G_2 := Lib.hid (G_1.out.below hb)
    have V_2 := Lib.hid (V_1.out.below hb)
    have Z_2 := Lib.hid (Z_1.out.below hb)
    have Y_2 := Lib.hid (Y_1.out.below hb)
    have C_2 := Lib.hid (C_1.out.below hb)
    clear hb gG0 gG1 gG2 rZ0 rZ1 rZ2 rfZ rfZ0 rfZ1 rfZ2 cV0 cV1
    obtain ⟨gG0, gG1, gG2⟩ := G_2.out
    obtain ⟨rZ0, rZ1, rZ2, rfZ⟩ := Z_2.out
    have rfZ0 := rfZ 0
    have rfZ1 := rfZ 1
    have rfZ2 := rfZ 2
    obtain ⟨cV0, cV1⟩ := V_2.out
    go_wp2
    (try simp only [Exit.inBlock, Exit.then])
    refine bodyPost_ret (v := .tuple #[.agg #[.slice none 0 0, .slice none 0 0, .slice none 0 0], .bool false]) ?_ rfl ?_
    · rw [results_cell_tmp rfl]; go_simp
    · have hm5 := mid3 v2 (w.heap.size + 2) (.slice none 0 0) (.slice none 0 0) (.slice none 0 0)
      exact ⟨_, _, _, rfl, owT_nil (HB_2.out.trans (hm5.toBelow (by omega) HB_2.out.size)).size, HB_2.out.trans (hm5.toBelow (by omega) HB_2.out.size)⟩
  have K1 := Lib.hid (show allIn [m, r] 0 (Q - 1) = true from h1)
  obtain ⟨hm9, hr9⟩ := in_pair h1
  by_cases h2 : ¬ (cs.length = 2)
  · have B2 : ((cs.length : Int) != 2) = true := by simp; omega
    have E1 := Lib.hid (show opB P Q G H hs m r cs = false by simp [opB, cmB, h0, h1, h2])
    rw [E1.out, op_off E1.out]
    clear h0 h1 h2
    obtain ⟨gG0, gG1, gG2⟩ := G_0.out
    obtain ⟨rZ0, rZ1, rZ2, rfZ⟩ := Z_0.out
    have rfZ0 := rfZ 0
    have rfZ1 := rfZ 1
    have rfZ2 := rfZ 2
    obtain ⟨cV0, cV1⟩ := V_0.out
    go_enter Try.func50, Try.ntmps50
    go_wp2_with fail
    refine (l9Good_any P Q G H (by omega) Y_0.out).mono ?_
    rw [K0.out]
    rintro e v1 ⟨rfl, hb⟩
    have HB_1 := Lib.hid (bt HB_0.out hb)
    have G_1 := Lib.hid (G_0.out.below hb)
    have V_1 := Lib.hid (V_0.out.below hb)
    have Z_1 := Lib.hid (Z_0.out.below hb)
    have Y_1 := Lib.hid (Y_0.out.below hb)
    have C_1 := Lib.hid (C_0.out.below hb)
    clear hb gG0 gG1 gG2 rZ0 rZ1 rZ2 rfZ rfZ0 rfZ1 rfZ2 cV0 cV1
    obtain ⟨gG0, gG1, gG2⟩ := G_1.out
    obtain ⟨rZ0, rZ1, rZ2, rfZ⟩ := Z_1.out
    have rfZ0 := rfZ 0
    have rfZ1 := rfZ 1
    have rfZ2 := rfZ 2
    obtain ⟨cV0, cV1⟩ := V_1.out
    go_wp2_with fail
    refine (gExps_any P Q G ⟨by omega, by omega⟩ _ 2 2 [m, r] rfl (by decide) _ (ints_lit v1 [m, r] 3)).mono ?_
    rw [K1.out]
    rintro e v2 ⟨rfl, hb0⟩
    have hb := bt (ba v1 _) hb0
    clear hb0
    have HB_2 := Lib.hid (bt HB_1.out hb)
    have G_2 := Lib.hid (G_1.out.below hb)
    have V_2 := Lib.hid (V_1.out.below hb)
    have Z_2 := Lib.hid (Z_1.out.below hb)
    have Y_2 := Lib.hid (Y_1.out.below hb)
    have C_2 := Lib.hid (C_1.out.below hb)
    clear hb gG0 gG1 gG2 rZ0 rZ1 rZ2 rfZ rfZ0 rfZ1 rfZ2 cV0 cV1
    obtain ⟨gG0, gG1, gG2⟩ := G_2.out
    obtain ⟨rZ0, rZ1, rZ2, rfZ⟩ := Z_2.out
    have rfZ0 := rfZ 0
    have rfZ1 := rfZ 1
    have rfZ2 := rfZ 2
    obtain ⟨cV0, cV1⟩ := V_2.out
    go_wp2
    (try simp only [Exit.inBlock, Exit.then])
    refine bodyPost_ret (v := .tuple #[.agg #[.slice none 0 0, .slice none 0 0, .slice none 0 0], .bool false]) ?_ rfl ?_
    · rw [results_cell_tmp rfl]; go_simp
    · have hm5 := mid3 v2 (w.heap.size + 2) (.slice none 0 0) (.slice none 0 0) (.slice none 0 0)
      exact ⟨_, _, _, rfl, owT_nil (HB_2.out.trans (hm5.toBelow (by omega) HB_2.out.size)).size, HB_2.out.trans (hm5.toBelow (by omega) HB_2.out.size)⟩
  replace h2 := Decidable.not_not.1 h2
  have B2 : ((cs.length : Int) != 2) = false := by simp [h2]
  cases h3 : allIn cs 0 (Q - 1)
  · have K3 := Lib.hid (show allIn cs 0 (Q - 1) = false from h3)
    have E1 := Lib.hid (show opB P Q G H hs m r cs = false by simp [opB, cmB, h0, h1, h2, h3])
    rw [E1.out, op_off E1.out]
    clear h0 h1 h2 h3
    obtain ⟨gG0, gG1, gG2⟩ := G_0.out
    obtain ⟨rZ0, rZ1, rZ2, rfZ⟩ := Z_0.out
    have rfZ0 := rfZ 0
    have rfZ1 := rfZ 1
    have rfZ2 := rfZ 2
    obtain ⟨cV0, cV1⟩ := V_0.out
    go_enter Try.func50, Try.ntmps50
    go_wp2_with fail
    refine (l9Good_any P Q G H (by omega) Y_0.out).mono ?_
    rw [K0.out]
    rintro e v1 ⟨rfl, hb⟩
    have HB_1 := Lib.hid (bt HB_0.out hb)
    have G_1 := Lib.hid (G_0.out.below hb)
    have V_1 := Lib.hid (V_0.out.below hb)
    have Z_1 := Lib.hid (Z_0.out.below hb)
    have Y_1 := Lib.hid (Y_0.out.below hb)
    have C_1 := Lib.hid (C_0.out.below hb)
    clear hb gG0 gG1 gG2 rZ0 rZ1 rZ2 rfZ rfZ0 rfZ1 rfZ2 cV0 cV1
    obtain ⟨gG0, gG1, gG2⟩ := G_1.out
    obtain ⟨rZ0, rZ1, rZ2, rfZ⟩ := Z_1.out
    have rfZ0 := rfZ 0
    have rfZ1 := rfZ 1
    have rfZ2 := rfZ 2
    obtain ⟨cV0, cV1⟩ := V_1.out
    go_wp2_with fail
    refine (gExps_any P Q G ⟨by omega, by omega⟩ _ 2 2 [m, r] rfl (by decide) _ (ints_lit v1 [m, r] 3)).mono ?_
    rw [K1.out]
    rintro e v2 ⟨rfl, hb0⟩
    have hb := bt (ba v1 _) hb0
    clear hb0
    have HB_2 := Lib.hid (bt HB_1.out hb)
    have G_2 := Lib.hid (G_1.out.below hb)
    have V_2 := Lib.hid (V_1.out.below hb)
    have Z_2 := Lib.hid (Z_1.out.below hb)
    have Y_2 := Lib.hid (Y_1.out.below hb)
    have C_2 := Lib.hid (C_1.out.below hb)
    clear hb gG0 gG1 gG2 rZ0 rZ1 rZ2 rfZ rfZ0 rfZ1 rfZ2 cV0 cV1
    obtain ⟨gG0, gG1, gG2⟩ := G_2.out
    obtain ⟨rZ0, rZ1, rZ2, rfZ⟩ := Z_2.out
    have rfZ0 := rfZ 0
    have rfZ1 := rfZ 1
    have rfZ2 := rfZ 2
    obtain ⟨cV0, cV1⟩ := V_2.out
    go_wp2_with fail
    refine (gExps_any P Q G ⟨by omega, by omega⟩ xa _ xc _ rfl (by first | omega | decide) _ (C_2.out.ints).1).mono ?_
    rw [K3.out]
    rintro e v3 ⟨rfl, hb⟩
    have HB_3 := Lib.hid (bt HB_2.out hb)
    have G_3 := Lib.hid (G_2.out.below hb)
    have V_3 := Lib.hid (V_2.out.below hb)
    have Z_3 := Lib.hid (Z_2.out.below hb)
    have Y_3 := Lib.hid (Y_2.out.below hb)
    have C_3 := Lib.hid (C_2.out.below hb)
    clear hb gG0 gG1 gG2 rZ0 rZ1 rZ2 rfZ rfZ0 rfZ1 rfZ2 cV0 cV1
    obtain ⟨gG0, gG1, gG2⟩ := G_3.out
    obtain ⟨rZ0, rZ1, rZ2, rfZ⟩ := Z_3.out
    have rfZ0 := rfZ 0
    have rfZ1 := rfZ 1
    have rfZ2 := rfZ 2
    obtain ⟨cV0, cV1⟩ := V_3.out
    go_wp2
    (try simp only [Exit.inBlock, Exit.then])
    refine bodyPost_ret (v := .tuple #[.agg #[.slice none 0 0, .slice none 0 0, .slice none 0 0], .bool false]) ?_ rfl ?_
    · rw [results_cell_tmp rfl]; go_simp
    · have hm5 := mid3 v3 (w.heap.size + 2) (.slice none 0 0) (.slice none 0 0) (.slice none 0 0)
      exact ⟨_, _, _, rfl, owT_nil (HB_3.out.trans (hm5.toBelow (by omega) HB_3.out.size)).size, HB_3.out.trans (hm5.toBelow (by omega) HB_3.out.size)⟩
  have K3 := Lib.hid (show allIn cs 0 (Q - 1) = true from h3)
  have E1 := Lib.hid (show opB P Q G H hs m r cs = true by simp [opB, cmB, h0, h1, h2, h3])
  have E2 := Lib.hid (show opV P Q G H hs m r cs = opP P Q G H m r cs by simp [opV, E1.out])
  rw [E1.out, E2.out]
  obtain ⟨a, b, rfl⟩ := len_two h2
  rw [op_two hmo.1.1]
  obtain ⟨ha9, hb9⟩ := in_pair h3
  have hce := cm_elB hgd hH0 hm9 hr9
  have hxe := cm_elB hgd hH0 ha9 hb9
  have hchr := chX_rng (P := P) (Q := Q) (G := G) (s := opL) (zs := [H, cmW P G H m r, cmW P G H a b]) (by omega)
  obtain ⟨c0, hc0⟩ : ∃ c, cmW P G H m r = c := ⟨_, rfl⟩
  obtain ⟨x, hx0⟩ : ∃ c, cmW P G H a b = c := ⟨_, rfl⟩
  rw [hc0] at hce hchr ⊢
  rw [hx0] at hxe hchr ⊢
  obtain ⟨e, he0⟩ : ∃ c, chX P Q G opL [H, c0, x] = c := ⟨_, rfl⟩
  rw [he0] at hchr ⊢
  obtain ⟨p0, p1⟩ := prod_bd (a := e) (z := m) hchr.1 (by omega) hm9.1 (by omega)
  obtain ⟨p2, p3⟩ := prod_bd (a := e) (z := r) hchr.1 (by omega) hr9.1 (by omega)
  obtain ⟨em, hem⟩ : ∃ c, e * m = c := ⟨_, rfl⟩
  obtain ⟨er, her⟩ : ∃ c, e * r = c := ⟨_, rfl⟩
  rw [hem] at p0 p1 ⊢
  rw [her] at p2 p3 ⊢
  obtain ⟨z1, hz1⟩ : ∃ c, (a + em) % Q = c := ⟨_, rfl⟩
  obtain ⟨z2, hz2⟩ : ∃ c, (b + er) % Q = c := ⟨_, rfl⟩
  rw [hz1, hz2]
  have HZ1 := Lib.hid hz1
  have HZ2 := Lib.hid hz2
  have HG := Lib.hid hgd
  have HH := Lib.hid hH0
  have HAB := Lib.hid (And.intro ha9 hb9)
  have HMR := Lib.hid (And.intro hm9 hr9)
  have HABV := Lib.hid hx0
  have HMRV := Lib.hid hc0
  have HC0 := Lib.hid hce
  have HX := Lib.hid hxe
  have HCH := Lib.hid he0
  have HA1 := Lib.hid (show 0 ≤ a + em ∧ a + em ≤ 9000000000000000000 by omega)
  have HA2 := Lib.hid (show 0 ≤ b + er ∧ b + er ≤ 9000000000000000000 by omega)
  have hw1 : IntKind.i64.wrap (e * m) = em := by rw [hem, IntKind.wrap_i64]; omega
  have hw2 : IntKind.i64.wrap (e * r) = er := by rw [her, IntKind.wrap_i64]; omega
  have hw3 : IntKind.i64.wrap (a + em) = a + em := by rw [IntKind.wrap_i64]; omega
  have hw4 : IntKind.i64.wrap (b + er) = b + er := by rw [IntKind.wrap_i64]; omega
  clear h0 h1 h2 h3 hgd hH0 ha9 hb9 hce hxe hc0 hx0 he0 hem her hz1 hz2 p0 p1 p2 p3
  obtain ⟨gG0, gG1, gG2⟩ := G_0.out
  obtain ⟨rZ0, rZ1, rZ2, rfZ⟩ := Z_0.out
  have rfZ0 := rfZ 0
  have rfZ1 := rfZ 1
  have rfZ2 := rfZ 2
  obtain ⟨cV0, cV1⟩ := V_0.out
  go_enter Try.func50, Try.ntmps50
  go_wp2_with fail
  refine (l9Good_any P Q G H (by omega) Y_0.out).mono ?_
  rw [K0.out]
  rintro e v1 ⟨rfl, hb⟩
  have HB_1 := Lib.hid (bt HB_0.out hb)
  have G_1 := Lib.hid (G_0.out.below hb)
  have V_1 := Lib.hid (V_0.out.below hb)
  have Z_1 := Lib.hid (Z_0.out.below hb)
  have Y_1 := Lib.hid (Y_0.out.below hb)
  have C_1 := Lib.hid (C_0.out.below hb)
  clear hb gG0 gG1 gG2 rZ0 rZ1 rZ2 rfZ rfZ0 rfZ1 rfZ2 cV0 cV1
  obtain ⟨gG0, gG1, gG2⟩ := G_1.out
  obtain ⟨rZ0, rZ1, rZ2, rfZ⟩ := Z_1.out
  have rfZ0 := rfZ 0
  have rfZ1 := rfZ 1
  have rfZ2 := rfZ 2
  obtain ⟨cV0, cV1⟩ := V_1.out
  go_wp2_with fail
  refine (gExps_any P Q G ⟨by omega, by omega⟩ _ 2 2 [m, r] rfl (by decide) _ (ints_lit v1 [m, r] 3)).mono ?_
  rw [K1.out]
  rintro e v2 ⟨rfl, hb0⟩
  have hb := bt (ba v1 _) hb0
  clear hb0
  have HB_2 := Lib.hid (bt HB_1.out hb)
  have G_2 := Lib.hid (G_1.out.below hb)
  have V_2 := Lib.hid (V_1.out.below hb)
  have Z_2 := Lib.hid (Z_1.out.below hb)
  have Y_2 := Lib.hid (Y_1.out.below hb)
  have C_2 := Lib.hid (C_1.out.below hb)
  clear hb gG0 gG1 gG2 rZ0 rZ1 rZ2 rfZ rfZ0 rfZ1 rfZ2 cV0 cV1
  obtain ⟨gG0, gG1, gG2⟩ := G_2.out
  obtain ⟨rZ0, rZ1, rZ2, rfZ⟩ := Z_2.out
  have rfZ0 := rfZ 0
  have rfZ1 := rfZ 1
  have rfZ2 := rfZ 2
  obtain ⟨cV0, cV1⟩ := V_2.out
  go_wp2_with fail
  refine (gExps_any P Q G ⟨by omega, by omega⟩ xa _ xc _ rfl (by first | omega | decide) _ (C_2.out.ints).1).mono ?_
  rw [K3.out]
  rintro e v3 ⟨rfl, hb⟩
  have HB_3 := Lib.hid (bt HB_2.out hb)
  have G_3 := Lib.hid (G_2.out.below hb)
  have V_3 := Lib.hid (V_2.out.below hb)
  have Z_3 := Lib.hid (Z_2.out.below hb)
  have Y_3 := Lib.hid (Y_2.out.below hb)
  have C_3 := Lib.hid (C_2.out.below hb)
  clear hb gG0 gG1 gG2 rZ0 rZ1 rZ2 rfZ rfZ0 rfZ1 rfZ2 cV0 cV1
  obtain ⟨gG0, gG1, gG2⟩ := G_3.out
  obtain ⟨rZ0, rZ1, rZ2, rfZ⟩ := Z_3.out
  have rfZ0 := rfZ 0
  have rfZ1 := rfZ 1
  have rfZ2 := rfZ 2
  obtain ⟨cV0, cV1⟩ := V_3.out
  obtain ⟨rb, ro, hxa, hcc⟩ := InI.twoC C_3.out
  subst hxa
  have CR_3 := Lib.hid hcc
  clear hcc
  have HRB := Lib.hid (show rb < w.heap.size + 2 ∨ w.heap.size + 3 ≤ rb from .inl (Nat.lt_of_lt_of_le (HNE.out rb ro rfl (by simp)) (Nat.le_add_right _ _)))
  go_wp2_with fail
  clear gG0 gG1 gG2 cV0 cV1 rZ0 rZ1 rZ2 rfZ rfZ0 rfZ1 rfZ2
  have hbd : Below v3.heap.size v3 v3.drew := (Below.refl _ v3).drew
  have HB_s := Lib.hid (bt HB_3.out hbd)
  have G_s := Lib.hid (G_3.out.below hbd)
  have V_s := Lib.hid (V_3.out.below hbd)
  have Z_s := Lib.hid (Z_3.out.below hbd)
  have CR_s := Lib.hid (CR_3.out.below hbd)
  clear hbd
  refine wp_region_held_drew (S := (fun w' => (w'.cell? ⟨w.heap.size, 0, none⟩ = some (.int .i64 P) ∧ w'.cell? ⟨w.heap.size, 1, none⟩ = some (.int .i64 Q) ∧ w'.cell? ⟨w.heap.size, 2, none⟩ = some (.int .i64 G)) ∧ (w'.cell? ⟨w.heap.size + 1, 0, none⟩ = some (.int .i64 H) ∧ w'.cell? ⟨w.heap.size + 1, 1, none⟩ = some (.slice ya hs.length yc)) ∧ (w'.cell? ⟨rb, ro, none⟩ = some (.int .i64 a) ∧ w'.cell? ⟨rb, ro + 1, none⟩ = some (.int .i64 b)))) (by kernel_rfl) (show _ from ⟨⟨G_3.out.1, G_3.out.2.1, G_3.out.2.2⟩, ⟨V_3.out.1, V_3.out.2⟩, CR_3.out.1, CR_3.out.2⟩) (fun hHeld => ?_)
  generalize hW0 : v3.drew = Ws at *
  clear hW0
  refine wpAnyH_take (i := 0) (v := ?_) rfl (by kernel_rfl) (by kernel_rfl) (by kernel_rfl) (fun _ _ _ h => h) (Or.inl ⟨by kernel_rfl, ?_⟩) (by assumption) ?_
  rotate_left 1
  · intro w9 hSw
    try dsimp only at hSw
    go_simp
    try with_reducible rfl
  try simp only [Act.put, List.getElem_toArray, List.getElem_cons_succ, List.getElem_cons_zero, List.setIfInBounds_toArray, List.set_cons_zero, List.set_cons_succ]
  refine wpAnyH_take (i := 1) (v := ?_) rfl (by kernel_rfl) (by kernel_rfl) (by kernel_rfl) (fun _ _ _ h => h) (Or.inl ⟨by kernel_rfl, ?_⟩) (by assumption) ?_
  rotate_left 1
  · intro w9 hSw
    try dsimp only at hSw
    go_simp
    try with_reducible rfl
  try simp only [Act.put, List.getElem_toArray, List.getElem_cons_succ, List.getElem_cons_zero, List.setIfInBounds_toArray, List.set_cons_zero, List.set_cons_succ]
  refine wpAnyH_take (i := 2) (v := ?_) rfl (by kernel_rfl) (by kernel_rfl) (by kernel_rfl) (fun _ _ _ h => h) (Or.inl ⟨by kernel_rfl, ?_⟩) (by assumption) ?_
  rotate_left 1
  · intro w9 hSw
    try dsimp only at hSw
    go_simp
    try with_reducible rfl
  try simp only [Act.put, List.getElem_toArray, List.getElem_cons_succ, List.getElem_cons_zero, List.setIfInBounds_toArray, List.set_cons_zero, List.set_cons_succ]
  refine wpAnyH_take (i := 3) (v := ?_) rfl (by kernel_rfl) (by kernel_rfl) (by kernel_rfl) (fun _ _ _ h => h) (Or.inl ⟨by kernel_rfl, ?_⟩) (by assumption) ?_
  rotate_left 1
  · intro w9 hSw
    try dsimp only at hSw
    go_simp
    try with_reducible rfl
  try simp only [Act.put, List.getElem_toArray, List.getElem_cons_succ, List.getElem_cons_zero, List.setIfInBounds_toArray, List.set_cons_zero, List.set_cons_succ]
  refine wpAnyH_take (i := 4) (v := ?_) rfl (by kernel_rfl) (by kernel_rfl) (by kernel_rfl) (fun _ _ _ h => h) (Or.inl ⟨by kernel_rfl, ?_⟩) (by assumption) ?_
  rotate_left 1
  · intro w9 hSw
    try dsimp only at hSw
    go_simp
    try with_reducible rfl
  try simp only [Act.put, List.getElem_toArray, List.getElem_cons_succ, List.getElem_cons_zero, List.setIfInBounds_toArray, List.set_cons_zero, List.set_cons_succ]
  refine wpAnyH_take (i := 5) (v := ?_) rfl (by kernel_rfl) (by kernel_rfl) (by kernel_rfl) (fun _ _ _ h => h) (Or.inl ⟨by kernel_rfl, ?_⟩) (by assumption) ?_
  rotate_left 1
  · intro w9 hSw
    try dsimp only at hSw
    go_simp
    try with_reducible rfl
  try simp only [Act.put, List.getElem_toArray, List.getElem_cons_succ, List.getElem_cons_zero, List.setIfInBounds_toArray, List.set_cons_zero, List.set_cons_succ]
  refine wpAnyH_take (i := 6) (v := ?_) rfl (by kernel_rfl) (by kernel_rfl) (by kernel_rfl) (fun _ _ _ h => h) (Or.inl ⟨by kernel_rfl, ?_⟩) (by assumption) ?_
  rotate_left 1
  · intro w9 hSw
    try dsimp only at hSw
    go_simp
    try with_reducible rfl
  try simp only [Act.put, List.getElem_toArray, List.getElem_cons_succ, List.getElem_cons_zero, List.setIfInBounds_toArray, List.set_cons_zero, List.set_cons_succ]
  refine wpAnyH_take (i := 7) (v := ?_) rfl (by kernel_rfl) (by kernel_rfl) (by kernel_rfl) (fun _ _ _ h => h) (Or.inl ⟨by kernel_rfl, ?_⟩) (by assumption) ?_
  rotate_left 1
  · intro w9 hSw
    try dsimp only at hSw
    go_simp
    try with_reducible rfl
  try simp only [Act.put, List.getElem_toArray, List.getElem_cons_succ, List.getElem_cons_zero, List.setIfInBounds_toArray, List.set_cons_zero, List.set_cons_succ]
  refine wpAnyH_ready (rs := [8]) (by kernel_rfl) (by simp) ?_
  refine AllReadyH.cons rfl (fun K hK => ?_) (AllReadyH.nil)
  go_simp
  go_at_call 89
  refine (pCommit_any P Q G H a b HG.out HH.out HAB.out.1 HAB.out.2 _).mono ?_
  rw [HABV.out]
  rintro e' Wsi ⟨rfl, hb⟩
  have HB_si := Lib.hid (bt HB_s.out hb)
  have G_si := Lib.hid (G_s.out.below hb)
  have V_si := Lib.hid (V_s.out.below hb)
  have Z_si := Lib.hid (Z_s.out.below hb)
  have CR_si := Lib.hid (CR_s.out.below hb)
  clear hb
  go_wp2_with fail
  refine hK.out _ _ (show _ from ⟨⟨G_si.out.1, G_si.out.2.1, G_si.out.2.2⟩, ⟨V_si.out.1, V_si.out.2⟩, CR_si.out.1, CR_si.out.2⟩) (fun hHeld => ?_)
  clear hK K
  try simp only [Act.put, List.getElem_toArray, List.getElem_cons_succ, List.getElem_cons_zero, List.setIfInBounds_toArray, List.set_cons_zero, List.set_cons_succ]
  refine wpAnyH_take (i := 9) (v := ?_) rfl (by kernel_rfl) (by kernel_rfl) (by kernel_rfl) (fun _ _ _ h => h) (Or.inl ⟨by kernel_rfl, ?_⟩) (by assumption) ?_
  rotate_left 1
  · intro w9 hSw
    try dsimp only at hSw
    go_simp
    try with_reducible rfl
  try simp only [Act.put, List.getElem_toArray, List.getElem_cons_succ, List.getElem_cons_zero, List.setIfInBounds_toArray, List.set_cons_zero, List.set_cons_succ]
  refine wpAnyH_done (by kernel_rfl) ?_ _
  have HB_11 := Lib.hid HB_si.out
  have G_11 := Lib.hid G_si.out
  have V_11 := Lib.hid V_si.out
  have Z_11 := Lib.hid Z_si.out
  have CR_11 := Lib.hid CR_si.out
  clear HB_si G_si V_si Z_si CR_si
  go_wp2_with fail
  have hbd : Below Wsi.heap.size Wsi Wsi.drew := (Below.refl _ Wsi).drew
  have HB_s := Lib.hid (bt HB_11.out hbd)
  have G_s := Lib.hid (G_11.out.below hbd)
  have V_s := Lib.hid (V_11.out.below hbd)
  have Z_s := Lib.hid (Z_11.out.below hbd)
  have CR_s := Lib.hid (CR_11.out.below hbd)
  clear hbd
  refine wp_region_held_drew (S := (fun w' => (w'.cell? ⟨w.heap.size, 0, none⟩ = some (.int .i64 P) ∧ w'.cell? ⟨w.heap.size, 1, none⟩ = some (.int .i64 Q) ∧ w'.cell? ⟨w.heap.size, 2, none⟩ = some (.int .i64 G)) ∧ (w'.cell? ⟨w.heap.size + 1, 0, none⟩ = some (.int .i64 H) ∧ w'.cell? ⟨w.heap.size + 1, 1, none⟩ = some (.slice ya hs.length yc)) ∧ (w'.cell? ⟨rb, ro, none⟩ = some (.int .i64 a) ∧ w'.cell? ⟨rb, ro + 1, none⟩ = some (.int .i64 b)))) (by kernel_rfl) (show _ from ⟨⟨G_11.out.1, G_11.out.2.1, G_11.out.2.2⟩, ⟨V_11.out.1, V_11.out.2⟩, CR_11.out.1, CR_11.out.2⟩) (fun hHeld => ?_)
  generalize hW0 : Wsi.drew = Wt at *
  clear hW0
  refine wpAnyH_take (i := 0) (v := ?_) rfl (by kernel_rfl) (by kernel_rfl) (by kernel_rfl) (fun _ _ _ h => h) (Or.inl ⟨by kernel_rfl, ?_⟩) (by assumption) ?_
  rotate_left 1
  · intro w9 hSw
    try dsimp only at hSw
    go_simp
    try with_reducible rfl
  try simp only [Act.put, List.getElem_toArray, List.getElem_cons_succ, List.getElem_cons_zero, List.setIfInBounds_toArray, List.set_cons_zero, List.set_cons_succ]
  refine wpAnyH_take (i := 1) (v := ?_) rfl (by kernel_rfl) (by kernel_rfl) (by kernel_rfl) (fun _ _ _ h => h) (Or.inl ⟨by kernel_rfl, ?_⟩) (by assumption) ?_
  rotate_left 1
  · intro w9 hSw
    try dsimp only at hSw
    go_simp
    try with_reducible rfl
  try simp only [Act.put, List.getElem_toArray, List.getElem_cons_succ, List.getElem_cons_zero, List.setIfInBounds_toArray, List.set_cons_zero, List.set_cons_succ]
  refine wpAnyH_take (i := 2) (v := ?_) rfl (by kernel_rfl) (by kernel_rfl) (by kernel_rfl) (fun _ _ _ h => h) (Or.inl ⟨by kernel_rfl, ?_⟩) (by assumption) ?_
  rotate_left 1
  · intro w9 hSw
    try dsimp only at hSw
    go_simp
    try with_reducible rfl
  try simp only [Act.put, List.getElem_toArray, List.getElem_cons_succ, List.getElem_cons_zero, List.setIfInBounds_toArray, List.set_cons_zero, List.set_cons_succ]
  refine wpAnyH_take (i := 3) (v := ?_) rfl (by kernel_rfl) (by kernel_rfl) (by kernel_rfl) (fun _ _ _ h => h) (Or.inl ⟨by kernel_rfl, ?_⟩) (by assumption) ?_
  rotate_left 1
  · intro w9 hSw
    try dsimp only at hSw
    go_simp
    try with_reducible rfl
  try simp only [Act.put, List.getElem_toArray, List.getElem_cons_succ, List.getElem_cons_zero, List.setIfInBounds_toArray, List.set_cons_zero, List.set_cons_succ]
  refine wpAnyH_take (i := 4) (v := ?_) rfl (by kernel_rfl) (by kernel_rfl) (by kernel_rfl) (fun _ _ _ h => h) (Or.inl ⟨by kernel_rfl, ?_⟩) (by assumption) ?_
  rotate_left 1
  · intro w9 hSw
    try dsimp only at hSw
    go_simp
    try with_reducible rfl
  try simp only [Act.put, List.getElem_toArray, List.getElem_cons_succ, List.getElem_cons_zero, List.setIfInBounds_toArray, List.set_cons_zero, List.set_cons_succ]
  refine wpAnyH_take (i := 5) (v := ?_) rfl (by kernel_rfl) (by kernel_rfl) (by kernel_rfl) (fun _ _ _ h => h) (Or.inl ⟨by kernel_rfl, ?_⟩) (by assumption) ?_
  rotate_left 1
  · intro w9 hSw
    try dsimp only at hSw
    go_simp
    try with_reducible rfl
  try simp only [Act.put, List.getElem_toArray, List.getElem_cons_succ, List.getElem_cons_zero, List.setIfInBounds_toArray, List.set_cons_zero, List.set_cons_succ]
  refine wpAnyH_take (i := 7) (v := ?_) rfl (by kernel_rfl) (by kernel_rfl) (by kernel_rfl) (fun _ _ _ h => h) (Or.inl ⟨by kernel_rfl, ?_⟩) (by assumption) ?_
  rotate_left 1
  · intro w9 hSw
    try dsimp only at hSw
    go_simp
    try with_reducible rfl
  try simp only [Act.put, List.getElem_toArray, List.getElem_cons_succ, List.getElem_cons_zero, List.setIfInBounds_toArray, List.set_cons_zero, List.set_cons_succ]
  refine wpAnyH_ready (rs := [6]) (by kernel_rfl) (by simp) ?_
  refine AllReadyH.cons rfl (fun K hK => ?_) (AllReadyH.nil)
  go_simp
  go_at_call 89
  refine (pCommit_any P Q G H m r HG.out HH.out HMR.out.1 HMR.out.2 _).mono ?_
  rw [HMRV.out]
  rintro e' Wtg ⟨rfl, hb⟩
  have HB_sg := Lib.hid (bt HB_s.out hb)
  have G_sg := Lib.hid (G_s.out.below hb)
  have V_sg := Lib.hid (V_s.out.below hb)
  have Z_sg := Lib.hid (Z_s.out.below hb)
  have CR_sg := Lib.hid (CR_s.out.below hb)
  clear hb
  go_wp2_with fail
  refine hK.out _ _ (show _ from ⟨⟨G_sg.out.1, G_sg.out.2.1, G_sg.out.2.2⟩, ⟨V_sg.out.1, V_sg.out.2⟩, CR_sg.out.1, CR_sg.out.2⟩) (fun hHeld => ?_)
  clear hK K
  try simp only [Act.put, List.getElem_toArray, List.getElem_cons_succ, List.getElem_cons_zero, List.setIfInBounds_toArray, List.set_cons_zero, List.set_cons_succ]
  refine wpAnyH_ready (rs := [8]) (by kernel_rfl) (by simp) ?_
  refine AllReadyH.cons rfl (fun K hK => ?_) (AllReadyH.nil)
  go_simp
  go_at_call 90
  refine (l9Challenge_any P Q G H c0 x HG.out HH.out HC0.out HX.out _).mono ?_
  rw [HCH.out]
  rintro e' Wtgi ⟨rfl, hb⟩
  have HB_sgi := Lib.hid (bt HB_sg.out hb)
  have G_sgi := Lib.hid (G_sg.out.below hb)
  have V_sgi := Lib.hid (V_sg.out.below hb)
  have Z_sgi := Lib.hid (Z_sg.out.below hb)
  have CR_sgi := Lib.hid (CR_sg.out.below hb)
  clear hb
  go_wp2_with fail
  refine hK.out _ _ (show _ from ⟨⟨G_sgi.out.1, G_sgi.out.2.1, G_sgi.out.2.2⟩, ⟨V_sgi.out.1, V_sgi.out.2⟩, CR_sgi.out.1, CR_sgi.out.2⟩) (fun hHeld => ?_)
  clear hK K
  try simp only [Act.put, List.getElem_toArray, List.getElem_cons_succ, List.getElem_cons_zero, List.setIfInBounds_toArray, List.set_cons_zero, List.set_cons_succ]
  refine wpAnyH_take (i := 9) (v := ?_) rfl (by kernel_rfl) (by kernel_rfl) (by kernel_rfl) (fun _ _ _ h => h) (Or.inl ⟨by kernel_rfl, ?_⟩) (by assumption) ?_
  rotate_left 1
  · intro w9 hSw
    try dsimp only at hSw
    go_simp
    try with_reducible rfl
  try simp only [Act.put, List.getElem_toArray, List.getElem_cons_succ, List.getElem_cons_zero, List.setIfInBounds_toArray, List.set_cons_zero, List.set_cons_succ]
  refine wpAnyH_done (by kernel_rfl) ?_ _
  have HB_12 := Lib.hid HB_sgi.out
  have G_12 := Lib.hid G_sgi.out
  have V_12 := Lib.hid V_sgi.out
  have Z_12 := Lib.hid Z_sgi.out
  have CR_12 := Lib.hid CR_sgi.out
  clear HB_sgi G_sgi V_sgi Z_sgi CR_sgi
  go_wp2_with fail
  have hbd : Below Wtgi.heap.size Wtgi Wtgi.drew := (Below.refl _ Wtgi).drew
  have HB_s := Lib.hid (bt HB_12.out hbd)
  have G_s := Lib.hid (G_12.out.below hbd)
  have V_s := Lib.hid (V_12.out.below hbd)
  have Z_s := Lib.hid (Z_12.out.below hbd)
  have CR_s := Lib.hid (CR_12.out.below hbd)
  clear hbd
  refine wp_region_held_drew (S := (fun w' => (w'.cell? ⟨w.heap.size, 0, none⟩ = some (.int .i64 P) ∧ w'.cell? ⟨w.heap.size, 1, none⟩ = some (.int .i64 Q) ∧ w'.cell? ⟨w.heap.size, 2, none⟩ = some (.int .i64 G)) ∧ (w'.cell? ⟨w.heap.size + 1, 0, none⟩ = some (.int .i64 H) ∧ w'.cell? ⟨w.heap.size + 1, 1, none⟩ = some (.slice ya hs.length yc)) ∧ (w'.cell? ⟨rb, ro, none⟩ = some (.int .i64 a) ∧ w'.cell? ⟨rb, ro + 1, none⟩ = some (.int .i64 b)))) (by kernel_rfl) (show _ from ⟨⟨G_12.out.1, G_12.out.2.1, G_12.out.2.2⟩, ⟨V_12.out.1, V_12.out.2⟩, CR_12.out.1, CR_12.out.2⟩) (fun hHeld => ?_)
  generalize hW0 : Wtgi.drew = Wq at *
  clear hW0
  refine wpAnyH_take (i := 0) (v := ?_) rfl (by kernel_rfl) (by kernel_rfl) (by kernel_rfl) (fun _ _ _ h => h) (Or.inl ⟨by kernel_rfl, ?_⟩) (by assumption) ?_
  rotate_left 1
  · intro w9 hSw
    try dsimp only at hSw
    go_simp
    try with_reducible rfl
  try simp only [Act.put, List.getElem_toArray, List.getElem_cons_succ, List.getElem_cons_zero, List.setIfInBounds_toArray, List.set_cons_zero, List.set_cons_succ]
  refine wpAnyH_take (i := 2) (v := ?_) rfl (by kernel_rfl) (by kernel_rfl) (by kernel_rfl) (fun _ _ _ h => h) (Or.inl ⟨by kernel_rfl, ?_⟩) (by assumption) ?_
  rotate_left 1
  · intro w9 hSw
    try dsimp only at hSw
    go_simp
    try with_reducible rfl
  try simp only [Act.put, List.getElem_toArray, List.getElem_cons_succ, List.getElem_cons_zero, List.setIfInBounds_toArray, List.set_cons_zero, List.set_cons_succ]
  refine wpAnyH_take (i := 4) (v := ?_) rfl (by kernel_rfl) (by kernel_rfl) (by kernel_rfl) (fun _ _ _ h => h) (Or.inl ⟨by kernel_rfl, ?_⟩) (by assumption) ?_
  rotate_left 1
  · intro w9 hSw
    try dsimp only at hSw
    go_simp
    try with_reducible rfl
  try simp only [Act.put, List.getElem_toArray, List.getElem_cons_succ, List.getElem_cons_zero, List.setIfInBounds_toArray, List.set_cons_zero, List.set_cons_succ]
  refine wpAnyH_take (i := 5) (v := ?_) rfl (by kernel_rfl) (by kernel_rfl) (by kernel_rfl) (fun _ _ _ h => h) (Or.inl ⟨by kernel_rfl, ?_⟩) (by assumption) ?_
  rotate_left 1
  · intro w9 hSw
    try dsimp only at hSw
    go_simp
    try with_reducible rfl
  try simp only [Act.put, List.getElem_toArray, List.getElem_cons_succ, List.getElem_cons_zero, List.setIfInBounds_toArray, List.set_cons_zero, List.set_cons_succ]
  refine wpAnyH_take (i := 6) (v := ?_) rfl (by kernel_rfl) (by kernel_rfl) (by kernel_rfl) (fun _ _ _ h => h) (Or.inl ⟨by kernel_rfl, ?_⟩) (by assumption) ?_
  rotate_left 1
  · intro w9 hSw
    try dsimp only at hSw
    go_simp
    try with_reducible rfl
  try simp only [Act.put, List.getElem_toArray, List.getElem_cons_succ, List.getElem_cons_zero, List.setIfInBounds_toArray, List.set_cons_zero, List.set_cons_succ]
  refine wpAnyH_take (i := 7) (v := ?_) rfl (by kernel_rfl) (by kernel_rfl) (by kernel_rfl) (fun _ _ _ h => h) (Or.inl ⟨by kernel_rfl, ?_⟩) (by assumption) ?_
  rotate_left 1
  · intro w9 hSw
    try dsimp only at hSw
    go_simp
    try with_reducible rfl
  try simp only [Act.put, List.getElem_toArray, List.getElem_cons_succ, List.getElem_cons_zero, List.setIfInBounds_toArray, List.set_cons_zero, List.set_cons_succ]
  refine wpAnyH_take (i := 8) (v := ?_) rfl (by kernel_rfl) (by kernel_rfl) (by kernel_rfl) (fun _ _ _ h => h) (Or.inl ⟨by kernel_rfl, ?_⟩) (by assumption) ?_
  rotate_left 1
  · intro w9 hSw
    try dsimp only at hSw
    go_simp
    try with_reducible rfl
  try simp only [Act.put, List.getElem_toArray, List.getElem_cons_succ, List.getElem_cons_zero, List.setIfInBounds_toArray, List.set_cons_zero, List.set_cons_succ]
  refine wpAnyH_take (i := 9) (v := ?_) rfl (by kernel_rfl) (by kernel_rfl) (by kernel_rfl) (fun _ _ _ h => h) (Or.inl ⟨by kernel_rfl, ?_⟩) (by assumption) ?_
  rotate_left 1
  · intro w9 hSw
    try dsimp only at hSw
    go_simp
    try with_reducible rfl
  try simp only [Act.put, List.getElem_toArray, List.getElem_cons_succ, List.getElem_cons_zero, List.setIfInBounds_toArray, List.set_cons_zero, List.set_cons_succ]
  refine wpAnyH_take (i := 10) (v := ?_) rfl (by kernel_rfl) (by kernel_rfl) (by kernel_rfl) (fun _ _ _ h => h) (Or.inl ⟨by kernel_rfl, ?_⟩) (by assumption) ?_
  rotate_left 1
  · intro w9 hSw
    try dsimp only at hSw
    go_simp
    try with_reducible rfl
  try simp only [Act.put, List.getElem_toArray, List.getElem_cons_succ, List.getElem_cons_zero, List.setIfInBounds_toArray, List.set_cons_zero, List.set_cons_succ]
  refine wpAnyH_take (i := 11) (v := ?_) rfl (by kernel_rfl) (by kernel_rfl) (by kernel_rfl) (fun _ _ _ h => h) (Or.inl ⟨by kernel_rfl, ?_⟩) (by assumption) ?_
  rotate_left 1
  · intro w9 hSw
    try dsimp only at hSw
    go_simp
    try with_reducible rfl
  try simp only [Act.put, List.getElem_toArray, List.getElem_cons_succ, List.getElem_cons_zero, List.setIfInBounds_toArray, List.set_cons_zero, List.set_cons_succ]
  refine wpAnyH_take (i := 12) (v := ?_) rfl (by kernel_rfl) (by kernel_rfl) (by kernel_rfl) (fun _ _ _ h => h) (Or.inl ⟨by kernel_rfl, ?_⟩) (by assumption) ?_
  rotate_left 1
  · intro w9 hSw
    try dsimp only at hSw
    go_simp
    try with_reducible rfl
  try simp only [Act.put, List.getElem_toArray, List.getElem_cons_succ, List.getElem_cons_zero, List.setIfInBounds_toArray, List.set_cons_zero, List.set_cons_succ]
  refine wpAnyH_take (i := 14) (v := ?_) rfl (by kernel_rfl) (by kernel_rfl) (by kernel_rfl) (fun _ _ _ h => h) (Or.inl ⟨by kernel_rfl, ?_⟩) (by assumption) ?_
  rotate_left 1
  · intro w9 hSw
    try dsimp only at hSw
    go_simp
    try with_reducible rfl
  try simp only [Act.put, List.getElem_toArray, List.getElem_cons_succ, List.getElem_cons_zero, List.setIfInBounds_toArray, List.set_cons_zero, List.set_cons_succ]
  refine wpAnyH_take (i := 15) (v := ?_) rfl (by kernel_rfl) (by kernel_rfl) (by kernel_rfl) (fun _ _ _ h => h) (Or.inl ⟨by kernel_rfl, ?_⟩) (by assumption) ?_
  rotate_left 1
  · intro w9 hSw
    try dsimp only at hSw
    go_simp
    try with_reducible rfl
  try simp only [Act.put, List.getElem_toArray, List.getElem_cons_succ, List.getElem_cons_zero, List.setIfInBounds_toArray, List.set_cons_zero, List.set_cons_succ]
  refine wpAnyH_take (i := 16) (v := ?_) rfl (by kernel_rfl) (by kernel_rfl) (by kernel_rfl) (fun _ _ _ h => h) (Or.inl ⟨by kernel_rfl, ?_⟩) (by assumption) ?_
  rotate_left 1
  · intro w9 hSw
    try dsimp only at hSw
    go_simp
    try with_reducible rfl
  try simp only [Act.put, List.getElem_toArray, List.getElem_cons_succ, List.getElem_cons_zero, List.setIfInBounds_toArray, List.set_cons_zero, List.set_cons_succ]
  refine wpAnyH_take (i := 17) (v := ?_) rfl (by kernel_rfl) (by kernel_rfl) (by kernel_rfl) (fun _ _ _ h => h) (Or.inl ⟨by kernel_rfl, ?_⟩) (by assumption) ?_
  rotate_left 1
  · intro w9 hSw
    try dsimp only at hSw
    go_simp
    try with_reducible rfl
  try simp only [Act.put, List.getElem_toArray, List.getElem_cons_succ, List.getElem_cons_zero, List.setIfInBounds_toArray, List.set_cons_zero, List.set_cons_succ]
  refine wpAnyH_take (i := 18) (v := ?_) rfl (by kernel_rfl) (by kernel_rfl) (by kernel_rfl) (fun _ _ _ h => h) (Or.inl ⟨by kernel_rfl, ?_⟩) (by assumption) ?_
  rotate_left 1
  · intro w9 hSw
    try dsimp only at hSw
    go_simp
    try with_reducible rfl
  try simp only [Act.put, List.getElem_toArray, List.getElem_cons_succ, List.getElem_cons_zero, List.setIfInBounds_toArray, List.set_cons_zero, List.set_cons_succ]
  refine wpAnyH_take (i := 19) (v := ?_) rfl (by kernel_rfl) (by kernel_rfl) (by kernel_rfl) (fun _ _ _ h => h) (Or.inl ⟨by kernel_rfl, ?_⟩) (by assumption) ?_
  rotate_left 1
  · intro w9 hSw
    try dsimp only at hSw
    go_simp
    try with_reducible rfl
  try simp only [Act.put, List.getElem_toArray, List.getElem_cons_succ, List.getElem_cons_zero, List.setIfInBounds_toArray, List.set_cons_zero, List.set_cons_succ]
  refine wpAnyH_take (i := 20) (v := ?_) rfl (by kernel_rfl) (by kernel_rfl) (by kernel_rfl) (fun _ _ _ h => h) (Or.inl ⟨by kernel_rfl, ?_⟩) (by assumption) ?_
  rotate_left 1
  · intro w9 hSw
    try dsimp only at hSw
    go_simp
    try with_reducible rfl
  try simp only [Act.put, List.getElem_toArray, List.getElem_cons_succ, List.getElem_cons_zero, List.setIfInBounds_toArray, List.set_cons_zero, List.set_cons_succ]
  refine wpAnyH_take (i := 21) (v := ?_) rfl (by kernel_rfl) (by kernel_rfl) (by kernel_rfl) (fun _ _ _ h => h) (Or.inl ⟨by kernel_rfl, ?_⟩) (by assumption) ?_
  rotate_left 1
  · intro w9 hSw
    try dsimp only at hSw
    go_simp
    try with_reducible rfl
  try simp only [Act.put, List.getElem_toArray, List.getElem_cons_succ, List.getElem_cons_zero, List.setIfInBounds_toArray, List.set_cons_zero, List.set_cons_succ]
  refine wpAnyH_take (i := 22) (v := ?_) rfl (by kernel_rfl) (by kernel_rfl) (by kernel_rfl) (fun _ _ _ h => h) (Or.inl ⟨by kernel_rfl, ?_⟩) (by assumption) ?_
  rotate_left 1
  · intro w9 hSw
    try dsimp only at hSw
    go_simp
    try with_reducible rfl
  try simp only [Act.put, List.getElem_toArray, List.getElem_cons_succ, List.getElem_cons_zero, List.setIfInBounds_toArray, List.set_cons_zero, List.set_cons_succ]
  refine wpAnyH_ready (rs := [1, 3, 13]) (by kernel_rfl) (by simp) ?_
  refine AllReadyH.cons rfl (fun K hK => ?_) (AllReadyH.cons rfl (fun K hK => ?_) (AllReadyH.cons rfl (fun K hK => ?_) (AllReadyH.nil)))
  · go_simp
    have hb := ba Wq (.cells #[.int .i64 x] 3)
    have HB_sb := Lib.hid (bt HB_s.out hb)
    have G_sb := Lib.hid (G_s.out.below hb)
    have V_sb := Lib.hid (V_s.out.below hb)
    have Z_sb := Lib.hid (Z_s.out.below hb)
    have CR_sb := Lib.hid (CR_s.out.below hb)
    have XC_sb := Lib.hid (show OwI Wq.heap.size (Wq.alloc (.cells #[.int .i64 x] 3)).heap.size (Wq.alloc (.cells #[.int .i64 x] 3)) (.slice (some ⟨Wq.heap.size, 0, none⟩) 1 1) [x] from owI_lit Wq [x] (by simp))
    have LXC := Lib.hid (show w.heap.size + 2 < Wq.heap.size from Z_s.out.lt)
    clear hb
    refine hK.out _ _ (show _ from ⟨⟨G_sb.out.1, G_sb.out.2.1, G_sb.out.2.2⟩, ⟨V_sb.out.1, V_sb.out.2⟩, CR_sb.out.1, CR_sb.out.2⟩) (fun hHeld => ?_)
    clear hK K
    try simp only [Act.put, List.getElem_toArray, List.getElem_cons_succ, List.getElem_cons_zero, List.setIfInBounds_toArray, List.set_cons_zero, List.set_cons_succ]
    generalize hW9 : Wq.alloc (.cells #[.int .i64 x] 3) = Wqb at *
    clear hW9
    refine wpAnyH_ready (rs := [3, 13]) (by kernel_rfl) (by simp) ?_
    refine AllReadyH.cons rfl (fun K hK => ?_) (AllReadyH.cons rfl (fun K hK => ?_) (AllReadyH.nil))
    · go_simp
      have hb := ba Wqb (.cells #[.int .i64 e] 3)
      have HB_sbd := Lib.hid (bt HB_sb.out hb)
      have G_sbd := Lib.hid (G_sb.out.below hb)
      have V_sbd := Lib.hid (V_sb.out.below hb)
      have Z_sbd := Lib.hid (Z_sb.out.below hb)
      have CR_sbd := Lib.hid (CR_sb.out.below hb)
      have XC_sbd := Lib.hid (XC_sb.out.below hb)
      have XH_sbd := Lib.hid (show OwI Wqb.heap.size (Wqb.alloc (.cells #[.int .i64 e] 3)).heap.size (Wqb.alloc (.cells #[.int .i64 e] 3)) (.slice (some ⟨Wqb.heap.size, 0, none⟩) 1 1) [e] from owI_lit Wqb [e] (by simp))
      have LXH := Lib.hid (show w.heap.size + 2 < Wqb.heap.size from Z_sb.out.lt)
      clear hb
      refine hK.out _ _ (show _ from ⟨⟨G_sbd.out.1, G_sbd.out.2.1, G_sbd.out.2.2⟩, ⟨V_sbd.out.1, V_sbd.out.2⟩, CR_sbd.out.1, CR_sbd.out.2⟩) (fun hHeld => ?_)
      clear hK K
      try simp only [Act.put, List.getElem_toArray, List.getElem_cons_succ, List.getElem_cons_zero, List.setIfInBounds_toArray, List.set_cons_zero, List.set_cons_succ]
      generalize hW9 : Wqb.alloc (.cells #[.int .i64 e] 3) = Wqbd at *
      clear hW9
      refine wpAnyH_ready (rs := [13]) (by kernel_rfl) (by simp) ?_
      refine AllReadyH.cons rfl (fun K hK => ?_) (AllReadyH.nil)
      go_simp
      go_at_call 91
      refine (o_nn (a + em) Q HA1.out.1 HA1.out.2 hgr.2.1.1 hgr.2.1.2 _).mono ?_
      rw [HZ1.out]
      rintro e' w' ⟨rfl, rfl⟩
      go_wp2_with fail
      refine hK.out _ _ (show _ from ⟨⟨G_sbd.out.1, G_sbd.out.2.1, G_sbd.out.2.2⟩, ⟨V_sbd.out.1, V_sbd.out.2⟩, CR_sbd.out.1, CR_sbd.out.2⟩) (fun hHeld => ?_)
      clear hK K
      try simp only [Act.put, List.getElem_toArray, List.getElem_cons_succ, List.getElem_cons_zero, List.setIfInBounds_toArray, List.set_cons_zero, List.set_cons_succ]
      refine wpAnyH_ready (rs := [23]) (by kernel_rfl) (by simp) ?_
      refine AllReadyH.cons rfl (fun K hK => ?_) (AllReadyH.nil)
      go_simp
      go_at_call 91
      refine (o_nn (b + er) Q HA2.out.1 HA2.out.2 hgr.2.1.1 hgr.2.1.2 _).mono ?_
      rw [HZ2.out]
      rintro e' w' ⟨rfl, rfl⟩
      go_wp2_with fail
      refine hK.out _ _ (show _ from ⟨⟨G_sbd.out.1, G_sbd.out.2.1, G_sbd.out.2.2⟩, ⟨V_sbd.out.1, V_sbd.out.2⟩, CR_sbd.out.1, CR_sbd.out.2⟩) (fun hHeld => ?_)
      clear hK K
      try simp only [Act.put, List.getElem_toArray, List.getElem_cons_succ, List.getElem_cons_zero, List.setIfInBounds_toArray, List.set_cons_zero, List.set_cons_succ]
      refine wpAnyH_ready (rs := [24]) (by kernel_rfl) (by simp) ?_
      refine AllReadyH.cons rfl (fun K hK => ?_) (AllReadyH.nil)
      go_simp
      have hb := ba Wqbd (.cells #[.int .i64 z1, .int .i64 z2] 3)
      have HB_sbdy := Lib.hid (bt HB_sbd.out hb)
      have G_sbdy := Lib.hid (G_sbd.out.below hb)
      have V_sbdy := Lib.hid (V_sbd.out.below hb)
      have Z_sbdy := Lib.hid (Z_sbd.out.below hb)
      have CR_sbdy := Lib.hid (CR_sbd.out.below hb)
      have XC_sbdy := Lib.hid (XC_sbd.out.below hb)
      have XH_sbdy := Lib.hid (XH_sbd.out.below hb)
      have XR_sbdy := Lib.hid (show OwI Wqbd.heap.size (Wqbd.alloc (.cells #[.int .i64 z1, .int .i64 z2] 3)).heap.size (Wqbd.alloc (.cells #[.int .i64 z1, .int .i64 z2] 3)) (.slice (some ⟨Wqbd.heap.size, 0, none⟩) 2 2) [z1, z2] from owI_lit Wqbd [z1, z2] (by simp))
      have LXR := Lib.hid (show w.heap.size + 2 < Wqbd.heap.size from Z_sbd.out.lt)
      clear hb
      refine hK.out _ _ (show _ from ⟨⟨G_sbdy.out.1, G_sbdy.out.2.1, G_sbdy.out.2.2⟩, ⟨V_sbdy.out.1, V_sbdy.out.2⟩, CR_sbdy.out.1, CR_sbdy.out.2⟩) (fun hHeld => ?_)
      clear hK K
      try simp only [Act.put, List.getElem_toArray, List.getElem_cons_succ, List.getElem_cons_zero, List.setIfInBounds_toArray, List.set_cons_zero, List.set_cons_succ]
      generalize hW9 : Wqbd.alloc (.cells #[.int .i64 z1, .int .i64 z2] 3) = Wqbdy at *
      clear hW9
      refine wpAnyH_take (i := 25) (v := ?_) rfl (by kernel_rfl) (by kernel_rfl) (by kernel_rfl) (fun _ _ _ h => h) (Or.inl ⟨by kernel_rfl, ?_⟩) (by assumption) ?_
      rotate_left 1
      · intro w9 hSw
        try dsimp only at hSw
        go_simp
        try with_reducible rfl
      try simp only [Act.put, List.getElem_toArray, List.getElem_cons_succ, List.getElem_cons_zero, List.setIfInBounds_toArray, List.set_cons_zero, List.set_cons_succ]
      have hm5 := mid3 Wqbdy (w.heap.size + 2) (.slice (some ⟨Wq.heap.size, 0, none⟩) 1 1) (.slice (some ⟨Wqb.heap.size, 0, none⟩) 1 1) (.slice (some ⟨Wqbd.heap.size, 0, none⟩) 2 2)
      have hsz := hm5.size
      have G_y := Lib.hid (show GR _ w.heap.size P Q G from ⟨mid_cR hm5 G_sbdy.out.1 (by omega), mid_cR hm5 G_sbdy.out.2.1 (by omega), mid_cR hm5 G_sbdy.out.2.2 (by omega)⟩)
      have V_y := Lib.hid (show D2 _ (w.heap.size + 1) (.int .i64 H) (.slice ya hs.length yc) from ⟨mid_cR hm5 V_sbdy.out.1 (by omega), mid_cR hm5 V_sbdy.out.2 (by omega)⟩)
      have CR_y := Lib.hid (show CC _ rb ro a b from ⟨mid_cR hm5 CR_sbdy.out.1 (by have := HRB.out; omega), mid_cR hm5 CR_sbdy.out.2 (by have := HRB.out; omega)⟩)
      have C_y := Lib.hid (XC_sbdy.out.mid hm5 (.inr (by have := LXC.out; omega)))
      have H_y := Lib.hid (XH_sbdy.out.mid hm5 (.inr (by have := LXH.out; omega)))
      have R_y := Lib.hid (XR_sbdy.out.mid hm5 (.inr (by have := LXR.out; omega)))
      have HB_y := Lib.hid (HB_sbdy.out.trans (hm5.toBelow (by omega) HB_sbdy.out.size))
      clear hm5
      refine wpAnyH_ready (rs := [26]) (by kernel_rfl) (by simp) ?_
      refine AllReadyH.cons rfl (fun K hK => ?_) AllReadyH.nil
      obtain ⟨y0, y1, y2, yf⟩ := Z_sbdy.out
      have yf0 := yf 0
      have yf1 := yf 1
      have yf2 := yf 2
      clear yf
      go_simp
      refine hK.out _ _ (show _ from ⟨⟨G_y.out.1, G_y.out.2.1, G_y.out.2.2⟩, ⟨V_y.out.1, V_y.out.2⟩, CR_y.out.1, CR_y.out.2⟩) (fun hHeld => ?_)
      clear hK K
      try simp only [Act.put, List.getElem_toArray, List.getElem_cons_succ, List.getElem_cons_zero, List.setIfInBounds_toArray, List.set_cons_zero, List.set_cons_succ]
      refine wpAnyH_take (i := 27) (v := ?_) rfl (by kernel_rfl) (by kernel_rfl) (by kernel_rfl) (fun _ _ _ h => h) (Or.inl ⟨by kernel_rfl, ?_⟩) (by assumption) ?_
      rotate_left 1
      · intro w9 hSw
        try dsimp only at hSw
        go_simp
        try with_reducible rfl
      try simp only [Act.put, List.getElem_toArray, List.getElem_cons_succ, List.getElem_cons_zero, List.setIfInBounds_toArray, List.set_cons_zero, List.set_cons_succ]
      refine wpAnyH_done (by kernel_rfl) ?_ _
      go_wp2
      (try simp only [Exit.inBlock, Exit.then])
      refine bodyPost_ret (v := .tuple #[.agg #[.slice (some ⟨Wq.heap.size, 0, none⟩) 1 1, .slice (some ⟨Wqb.heap.size, 0, none⟩) 1 1, .slice (some ⟨Wqbd.heap.size, 0, none⟩) 2 2], .bool true]) ?_ rfl ?_
      · rw [results_cell_tmp rfl]; go_simp
      · exact ⟨_, _, _, rfl, ⟨_, _, _, rfl, C_y.out.wide (by have := LXC.out; omega) C_y.out.toIn.le (Nat.le_refl _), H_y.out.wide (by have := LXH.out; omega) H_y.out.toIn.le (Nat.le_refl _), R_y.out.wide (by have := LXR.out; omega) R_y.out.toIn.le (Nat.le_refl _)⟩, HB_y.out⟩
    · go_simp
      go_at_call 91
      refine (o_nn (a + em) Q HA1.out.1 HA1.out.2 hgr.2.1.1 hgr.2.1.2 _).mono ?_
      rw [HZ1.out]
      rintro e' w' ⟨rfl, rfl⟩
      go_wp2_with fail
      refine hK.out _ _ (show _ from ⟨⟨G_sb.out.1, G_sb.out.2.1, G_sb.out.2.2⟩, ⟨V_sb.out.1, V_sb.out.2⟩, CR_sb.out.1, CR_sb.out.2⟩) (fun hHeld => ?_)
      clear hK K
      try simp only [Act.put, List.getElem_toArray, List.getElem_cons_succ, List.getElem_cons_zero, List.setIfInBounds_toArray, List.set_cons_zero, List.set_cons_succ]
      refine wpAnyH_ready (rs := [3, 23]) (by kernel_rfl) (by simp) ?_
      refine AllReadyH.cons rfl (fun K hK => ?_) (AllReadyH.cons rfl (fun K hK => ?_) (AllReadyH.nil))
      · go_simp
        have hb := ba Wqb (.cells #[.int .i64 e] 3)
        have HB_sbd := Lib.hid (bt HB_sb.out hb)
        have G_sbd := Lib.hid (G_sb.out.below hb)
        have V_sbd := Lib.hid (V_sb.out.below hb)
        have Z_sbd := Lib.hid (Z_sb.out.below hb)
        have CR_sbd := Lib.hid (CR_sb.out.below hb)
        have XC_sbd := Lib.hid (XC_sb.out.below hb)
        have XH_sbd := Lib.hid (show OwI Wqb.heap.size (Wqb.alloc (.cells #[.int .i64 e] 3)).heap.size (Wqb.alloc (.cells #[.int .i64 e] 3)) (.slice (some ⟨Wqb.heap.size, 0, none⟩) 1 1) [e] from owI_lit Wqb [e] (by simp))
        have LXH := Lib.hid (show w.heap.size + 2 < Wqb.heap.size from Z_sb.out.lt)
        clear hb
        refine hK.out _ _ (show _ from ⟨⟨G_sbd.out.1, G_sbd.out.2.1, G_sbd.out.2.2⟩, ⟨V_sbd.out.1, V_sbd.out.2⟩, CR_sbd.out.1, CR_sbd.out.2⟩) (fun hHeld => ?_)
        clear hK K
        try simp only [Act.put, List.getElem_toArray, List.getElem_cons_succ, List.getElem_cons_zero, List.setIfInBounds_toArray, List.set_cons_zero, List.set_cons_succ]
        generalize hW9 : Wqb.alloc (.cells #[.int .i64 e] 3) = Wqbd at *
        clear hW9
        refine wpAnyH_ready (rs := [23]) (by kernel_rfl) (by simp) ?_
        refine AllReadyH.cons rfl (fun K hK => ?_) (AllReadyH.nil)
        go_simp
        go_at_call 91
        refine (o_nn (b + er) Q HA2.out.1 HA2.out.2 hgr.2.1.1 hgr.2.1.2 _).mono ?_
        rw [HZ2.out]
        rintro e' w' ⟨rfl, rfl⟩
        go_wp2_with fail
        refine hK.out _ _ (show _ from ⟨⟨G_sbd.out.1, G_sbd.out.2.1, G_sbd.out.2.2⟩, ⟨V_sbd.out.1, V_sbd.out.2⟩, CR_sbd.out.1, CR_sbd.out.2⟩) (fun hHeld => ?_)
        clear hK K
        try simp only [Act.put, List.getElem_toArray, List.getElem_cons_succ, List.getElem_cons_zero, List.setIfInBounds_toArray, List.set_cons_zero, List.set_cons_succ]
        refine wpAnyH_ready (rs := [24]) (by kernel_rfl) (by simp) ?_
        refine AllReadyH.cons rfl (fun K hK => ?_) (AllReadyH.nil)
        go_simp
        have hb := ba Wqbd (.cells #[.int .i64 z1, .int .i64 z2] 3)
        have HB_sbdy := Lib.hid (bt HB_sbd.out hb)
        have G_sbdy := Lib.hid (G_sbd.out.below hb)
        have V_sbdy := Lib.hid (V_sbd.out.below hb)
        have Z_sbdy := Lib.hid (Z_sbd.out.below hb)
        have CR_sbdy := Lib.hid (CR_sbd.out.below hb)
        have XC_sbdy := Lib.hid (XC_sbd.out.below hb)
        have XH_sbdy := Lib.hid (XH_sbd.out.below hb)
        have XR_sbdy := Lib.hid (show OwI Wqbd.heap.size (Wqbd.alloc (.cells #[.int .i64 z1, .int .i64 z2] 3)).heap.size (Wqbd.alloc (.cells #[.int .i64 z1, .int .i64 z2] 3)) (.slice (some ⟨Wqbd.heap.size, 0, none⟩) 2 2) [z1, z2] from owI_lit Wqbd [z1, z2] (by simp))
        have LXR := Lib.hid (show w.heap.size + 2 < Wqbd.heap.size from Z_sbd.out.lt)
        clear hb
        refine hK.out _ _ (show _ from ⟨⟨G_sbdy.out.1, G_sbdy.out.2.1, G_sbdy.out.2.2⟩, ⟨V_sbdy.out.1, V_sbdy.out.2⟩, CR_sbdy.out.1, CR_sbdy.out.2⟩) (fun hHeld => ?_)
        clear hK K
        try simp only [Act.put, List.getElem_toArray, List.getElem_cons_succ, List.getElem_cons_zero, List.setIfInBounds_toArray, List.set_cons_zero, List.set_cons_succ]
        generalize hW9 : Wqbd.alloc (.cells #[.int .i64 z1, .int .i64 z2] 3) = Wqbdy at *
        clear hW9
        refine wpAnyH_take (i := 25) (v := ?_) rfl (by kernel_rfl) (by kernel_rfl) (by kernel_rfl) (fun _ _ _ h => h) (Or.inl ⟨by kernel_rfl, ?_⟩) (by assumption) ?_
        rotate_left 1
        · intro w9 hSw
          try dsimp only at hSw
          go_simp
          try with_reducible rfl
        try simp only [Act.put, List.getElem_toArray, List.getElem_cons_succ, List.getElem_cons_zero, List.setIfInBounds_toArray, List.set_cons_zero, List.set_cons_succ]
        have hm5 := mid3 Wqbdy (w.heap.size + 2) (.slice (some ⟨Wq.heap.size, 0, none⟩) 1 1) (.slice (some ⟨Wqb.heap.size, 0, none⟩) 1 1) (.slice (some ⟨Wqbd.heap.size, 0, none⟩) 2 2)
        have hsz := hm5.size
        have G_y := Lib.hid (show GR _ w.heap.size P Q G from ⟨mid_cR hm5 G_sbdy.out.1 (by omega), mid_cR hm5 G_sbdy.out.2.1 (by omega), mid_cR hm5 G_sbdy.out.2.2 (by omega)⟩)
        have V_y := Lib.hid (show D2 _ (w.heap.size + 1) (.int .i64 H) (.slice ya hs.length yc) from ⟨mid_cR hm5 V_sbdy.out.1 (by omega), mid_cR hm5 V_sbdy.out.2 (by omega)⟩)
        have CR_y := Lib.hid (show CC _ rb ro a b from ⟨mid_cR hm5 CR_sbdy.out.1 (by have := HRB.out; omega), mid_cR hm5 CR_sbdy.out.2 (by have := HRB.out; omega)⟩)
        have C_y := Lib.hid (XC_sbdy.out.mid hm5 (.inr (by have := LXC.out; omega)))
        have H_y := Lib.hid (XH_sbdy.out.mid hm5 (.inr (by have := LXH.out; omega)))
        have R_y := Lib.hid (XR_sbdy.out.mid hm5 (.inr (by have := LXR.out; omega)))
        have HB_y := Lib.hid (HB_sbdy.out.trans (hm5.toBelow (by omega) HB_sbdy.out.size))
        clear hm5
        refine wpAnyH_ready (rs := [26]) (by kernel_rfl) (by simp) ?_
        refine AllReadyH.cons rfl (fun K hK => ?_) AllReadyH.nil
        obtain ⟨y0, y1, y2, yf⟩ := Z_sbdy.out
        have yf0 := yf 0
        have yf1 := yf 1
        have yf2 := yf 2
        clear yf
        go_simp
        refine hK.out _ _ (show _ from ⟨⟨G_y.out.1, G_y.out.2.1, G_y.out.2.2⟩, ⟨V_y.out.1, V_y.out.2⟩, CR_y.out.1, CR_y.out.2⟩) (fun hHeld => ?_)
        clear hK K
        try simp only [Act.put, List.getElem_toArray, List.getElem_cons_succ, List.getElem_cons_zero, List.setIfInBounds_toArray, List.set_cons_zero, List.set_cons_succ]
        refine wpAnyH_take (i := 27) (v := ?_) rfl (by kernel_rfl) (by kernel_rfl) (by kernel_rfl) (fun _ _ _ h => h) (Or.inl ⟨by kernel_rfl, ?_⟩) (by assumption) ?_
        rotate_left 1
        · intro w9 hSw
          try dsimp only at hSw
          go_simp
          try with_reducible rfl
        try simp only [Act.put, List.getElem_toArray, List.getElem_cons_succ, List.getElem_cons_zero, List.setIfInBounds_toArray, List.set_cons_zero, List.set_cons_succ]
        refine wpAnyH_done (by kernel_rfl) ?_ _
        go_wp2
        (try simp only [Exit.inBlock, Exit.then])
        refine bodyPost_ret (v := .tuple #[.agg #[.slice (some ⟨Wq.heap.size, 0, none⟩) 1 1, .slice (some ⟨Wqb.heap.size, 0, none⟩) 1 1, .slice (some ⟨Wqbd.heap.size, 0, none⟩) 2 2], .bool true]) ?_ rfl ?_
        · rw [results_cell_tmp rfl]; go_simp
        · exact ⟨_, _, _, rfl, ⟨_, _, _, rfl, C_y.out.wide (by have := LXC.out; omega) C_y.out.toIn.le (Nat.le_refl _), H_y.out.wide (by have := LXH.out; omega) H_y.out.toIn.le (Nat.le_refl _), R_y.out.wide (by have := LXR.out; omega) R_y.out.toIn.le (Nat.le_refl _)⟩, HB_y.out⟩
      · go_simp
        go_at_call 91
        refine (o_nn (b + er) Q HA2.out.1 HA2.out.2 hgr.2.1.1 hgr.2.1.2 _).mono ?_
        rw [HZ2.out]
        rintro e' w' ⟨rfl, rfl⟩
        go_wp2_with fail
        refine hK.out _ _ (show _ from ⟨⟨G_sb.out.1, G_sb.out.2.1, G_sb.out.2.2⟩, ⟨V_sb.out.1, V_sb.out.2⟩, CR_sb.out.1, CR_sb.out.2⟩) (fun hHeld => ?_)
        clear hK K
        try simp only [Act.put, List.getElem_toArray, List.getElem_cons_succ, List.getElem_cons_zero, List.setIfInBounds_toArray, List.set_cons_zero, List.set_cons_succ]
        refine wpAnyH_ready (rs := [3, 24]) (by kernel_rfl) (by simp) ?_
        refine AllReadyH.cons rfl (fun K hK => ?_) (AllReadyH.cons rfl (fun K hK => ?_) (AllReadyH.nil))
        · go_simp
          have hb := ba Wqb (.cells #[.int .i64 e] 3)
          have HB_sbd := Lib.hid (bt HB_sb.out hb)
          have G_sbd := Lib.hid (G_sb.out.below hb)
          have V_sbd := Lib.hid (V_sb.out.below hb)
          have Z_sbd := Lib.hid (Z_sb.out.below hb)
          have CR_sbd := Lib.hid (CR_sb.out.below hb)
          have XC_sbd := Lib.hid (XC_sb.out.below hb)
          have XH_sbd := Lib.hid (show OwI Wqb.heap.size (Wqb.alloc (.cells #[.int .i64 e] 3)).heap.size (Wqb.alloc (.cells #[.int .i64 e] 3)) (.slice (some ⟨Wqb.heap.size, 0, none⟩) 1 1) [e] from owI_lit Wqb [e] (by simp))
          have LXH := Lib.hid (show w.heap.size + 2 < Wqb.heap.size from Z_sb.out.lt)
          clear hb
          refine hK.out _ _ (show _ from ⟨⟨G_sbd.out.1, G_sbd.out.2.1, G_sbd.out.2.2⟩, ⟨V_sbd.out.1, V_sbd.out.2⟩, CR_sbd.out.1, CR_sbd.out.2⟩) (fun hHeld => ?_)
          clear hK K
          try simp only [Act.put, List.getElem_toArray, List.getElem_cons_succ, List.getElem_cons_zero, List.setIfInBounds_toArray, List.set_cons_zero, List.set_cons_succ]
          generalize hW9 : Wqb.alloc (.cells #[.int .i64 e] 3) = Wqbd at *
          clear hW9
          refine wpAnyH_ready (rs := [24]) (by kernel_rfl) (by simp) ?_
          refine AllReadyH.cons rfl (fun K hK => ?_) (AllReadyH.nil)
          go_simp
          have hb := ba Wqbd (.cells #[.int .i64 z1, .int .i64 z2] 3)
          have HB_sbdy := Lib.hid (bt HB_sbd.out hb)
          have G_sbdy := Lib.hid (G_sbd.out.below hb)
          have V_sbdy := Lib.hid (V_sbd.out.below hb)
          have Z_sbdy := Lib.hid (Z_sbd.out.below hb)
          have CR_sbdy := Lib.hid (CR_sbd.out.below hb)
          have XC_sbdy := Lib.hid (XC_sbd.out.below hb)
          have XH_sbdy := Lib.hid (XH_sbd.out.below hb)
          have XR_sbdy := Lib.hid (show OwI Wqbd.heap.size (Wqbd.alloc (.cells #[.int .i64 z1, .int .i64 z2] 3)).heap.size (Wqbd.alloc (.cells #[.int .i64 z1, .int .i64 z2] 3)) (.slice (some ⟨Wqbd.heap.size, 0, none⟩) 2 2) [z1, z2] from owI_lit Wqbd [z1, z2] (by simp))
          have LXR := Lib.hid (show w.heap.size + 2 < Wqbd.heap.size from Z_sbd.out.lt)
          clear hb
          refine hK.out _ _ (show _ from ⟨⟨G_sbdy.out.1, G_sbdy.out.2.1, G_sbdy.out.2.2⟩, ⟨V_sbdy.out.1, V_sbdy.out.2⟩, CR_sbdy.out.1, CR_sbdy.out.2⟩) (fun hHeld => ?_)
          clear hK K
          try simp only [Act.put, List.getElem_toArray, List.getElem_cons_succ, List.getElem_cons_zero, List.setIfInBounds_toArray, List.set_cons_zero, List.set_cons_succ]
          generalize hW9 : Wqbd.alloc (.cells #[.int .i64 z1, .int .i64 z2] 3) = Wqbdy at *
          clear hW9
          refine wpAnyH_take (i := 25) (v := ?_) rfl (by kernel_rfl) (by kernel_rfl) (by kernel_rfl) (fun _ _ _ h => h) (Or.inl ⟨by kernel_rfl, ?_⟩) (by assumption) ?_
          rotate_left 1
          · intro w9 hSw
            try dsimp only at hSw
            go_simp
            try with_reducible rfl
          try simp only [Act.put, List.getElem_toArray, List.getElem_cons_succ, List.getElem_cons_zero, List.setIfInBounds_toArray, List.set_cons_zero, List.set_cons_succ]
          have hm5 := mid3 Wqbdy (w.heap.size + 2) (.slice (some ⟨Wq.heap.size, 0, none⟩) 1 1) (.slice (some ⟨Wqb.heap.size, 0, none⟩) 1 1) (.slice (some ⟨Wqbd.heap.size, 0, none⟩) 2 2)
          have hsz := hm5.size
          have G_y := Lib.hid (show GR _ w.heap.size P Q G from ⟨mid_cR hm5 G_sbdy.out.1 (by omega), mid_cR hm5 G_sbdy.out.2.1 (by omega), mid_cR hm5 G_sbdy.out.2.2 (by omega)⟩)
          have V_y := Lib.hid (show D2 _ (w.heap.size + 1) (.int .i64 H) (.slice ya hs.length yc) from ⟨mid_cR hm5 V_sbdy.out.1 (by omega), mid_cR hm5 V_sbdy.out.2 (by omega)⟩)
          have CR_y := Lib.hid (show CC _ rb ro a b from ⟨mid_cR hm5 CR_sbdy.out.1 (by have := HRB.out; omega), mid_cR hm5 CR_sbdy.out.2 (by have := HRB.out; omega)⟩)
          have C_y := Lib.hid (XC_sbdy.out.mid hm5 (.inr (by have := LXC.out; omega)))
          have H_y := Lib.hid (XH_sbdy.out.mid hm5 (.inr (by have := LXH.out; omega)))
          have R_y := Lib.hid (XR_sbdy.out.mid hm5 (.inr (by have := LXR.out; omega)))
          have HB_y := Lib.hid (HB_sbdy.out.trans (hm5.toBelow (by omega) HB_sbdy.out.size))
          clear hm5
          refine wpAnyH_ready (rs := [26]) (by kernel_rfl) (by simp) ?_
          refine AllReadyH.cons rfl (fun K hK => ?_) AllReadyH.nil
          obtain ⟨y0, y1, y2, yf⟩ := Z_sbdy.out
          have yf0 := yf 0
          have yf1 := yf 1
          have yf2 := yf 2
          clear yf
          go_simp
          refine hK.out _ _ (show _ from ⟨⟨G_y.out.1, G_y.out.2.1, G_y.out.2.2⟩, ⟨V_y.out.1, V_y.out.2⟩, CR_y.out.1, CR_y.out.2⟩) (fun hHeld => ?_)
          clear hK K
          try simp only [Act.put, List.getElem_toArray, List.getElem_cons_succ, List.getElem_cons_zero, List.setIfInBounds_toArray, List.set_cons_zero, List.set_cons_succ]
          refine wpAnyH_take (i := 27) (v := ?_) rfl (by kernel_rfl) (by kernel_rfl) (by kernel_rfl) (fun _ _ _ h => h) (Or.inl ⟨by kernel_rfl, ?_⟩) (by assumption) ?_
          rotate_left 1
          · intro w9 hSw
            try dsimp only at hSw
            go_simp
            try with_reducible rfl
          try simp only [Act.put, List.getElem_toArray, List.getElem_cons_succ, List.getElem_cons_zero, List.setIfInBounds_toArray, List.set_cons_zero, List.set_cons_succ]
          refine wpAnyH_done (by kernel_rfl) ?_ _
          go_wp2
          (try simp only [Exit.inBlock, Exit.then])
          refine bodyPost_ret (v := .tuple #[.agg #[.slice (some ⟨Wq.heap.size, 0, none⟩) 1 1, .slice (some ⟨Wqb.heap.size, 0, none⟩) 1 1, .slice (some ⟨Wqbd.heap.size, 0, none⟩) 2 2], .bool true]) ?_ rfl ?_
          · rw [results_cell_tmp rfl]; go_simp
          · exact ⟨_, _, _, rfl, ⟨_, _, _, rfl, C_y.out.wide (by have := LXC.out; omega) C_y.out.toIn.le (Nat.le_refl _), H_y.out.wide (by have := LXH.out; omega) H_y.out.toIn.le (Nat.le_refl _), R_y.out.wide (by have := LXR.out; omega) R_y.out.toIn.le (Nat.le_refl _)⟩, HB_y.out⟩
        · go_simp
          have hb := ba Wqb (.cells #[.int .i64 z1, .int .i64 z2] 3)
          have HB_sby := Lib.hid (bt HB_sb.out hb)
          have G_sby := Lib.hid (G_sb.out.below hb)
          have V_sby := Lib.hid (V_sb.out.below hb)
          have Z_sby := Lib.hid (Z_sb.out.below hb)
          have CR_sby := Lib.hid (CR_sb.out.below hb)
          have XC_sby := Lib.hid (XC_sb.out.below hb)
          have XR_sby := Lib.hid (show OwI Wqb.heap.size (Wqb.alloc (.cells #[.int .i64 z1, .int .i64 z2] 3)).heap.size (Wqb.alloc (.cells #[.int .i64 z1, .int .i64 z2] 3)) (.slice (some ⟨Wqb.heap.size, 0, none⟩) 2 2) [z1, z2] from owI_lit Wqb [z1, z2] (by simp))
          have LXR := Lib.hid (show w.heap.size + 2 < Wqb.heap.size from Z_sb.out.lt)
          clear hb
          refine hK.out _ _ (show _ from ⟨⟨G_sby.out.1, G_sby.out.2.1, G_sby.out.2.2⟩, ⟨V_sby.out.1, V_sby.out.2⟩, CR_sby.out.1, CR_sby.out.2⟩) (fun hHeld => ?_)
          clear hK K
          try simp only [Act.put, List.getElem_toArray, List.getElem_cons_succ, List.getElem_cons_zero, List.setIfInBounds_toArray, List.set_cons_zero, List.set_cons_succ]
          generalize hW9 : Wqb.alloc (.cells #[.int .i64 z1, .int .i64 z2] 3) = Wqby at *
          clear hW9
          refine wpAnyH_ready (rs := [3]) (by kernel_rfl) (by simp) ?_
          refine AllReadyH.cons rfl (fun K hK => ?_) (AllReadyH.nil)
          go_simp
          have hb := ba Wqby (.cells #[.int .i64 e] 3)
          have HB_sbyd := Lib.hid (bt HB_sby.out hb)
          have G_sbyd := Lib.hid (G_sby.out.below hb)
          have V_sbyd := Lib.hid (V_sby.out.below hb)
          have Z_sbyd := Lib.hid (Z_sby.out.below hb)
          have CR_sbyd := Lib.hid (CR_sby.out.below hb)
          have XC_sbyd := Lib.hid (XC_sby.out.below hb)
          have XR_sbyd := Lib.hid (XR_sby.out.below hb)
          have XH_sbyd := Lib.hid (show OwI Wqby.heap.size (Wqby.alloc (.cells #[.int .i64 e] 3)).heap.size (Wqby.alloc (.cells #[.int .i64 e] 3)) (.slice (some ⟨Wqby.heap.size, 0, none⟩) 1 1) [e] from owI_lit Wqby [e] (by simp))
          have LXH := Lib.hid (show w.heap.size + 2 < Wqby.heap.size from Z_sby.out.lt)
          clear hb
          refine hK.out _ _ (show _ from ⟨⟨G_sbyd.out.1, G_sbyd.out.2.1, G_sbyd.out.2.2⟩, ⟨V_sbyd.out.1, V_sbyd.out.2⟩, CR_sbyd.out.1, CR_sbyd.out.2⟩) (fun hHeld => ?_)
          clear hK K
          try simp only [Act.put, List.getElem_toArray, List.getElem_cons_succ, List.getElem_cons_zero, List.setIfInBounds_toArray, List.set_cons_zero, List.set_cons_succ]
          generalize hW9 : Wqby.alloc (.cells #[.int .i64 e] 3) = Wqbyd at *
          clear hW9
          refine wpAnyH_take (i := 25) (v := ?_) rfl (by kernel_rfl) (by kernel_rfl) (by kernel_rfl) (fun _ _ _ h => h) (Or.inl ⟨by kernel_rfl, ?_⟩) (by assumption) ?_
          rotate_left 1
          · intro w9 hSw
            try dsimp only at hSw
            go_simp
            try with_reducible rfl
          try simp only [Act.put, List.getElem_toArray, List.getElem_cons_succ, List.getElem_cons_zero, List.setIfInBounds_toArray, List.set_cons_zero, List.set_cons_succ]
          have hm5 := mid3 Wqbyd (w.heap.size + 2) (.slice (some ⟨Wq.heap.size, 0, none⟩) 1 1) (.slice (some ⟨Wqby.heap.size, 0, none⟩) 1 1) (.slice (some ⟨Wqb.heap.size, 0, none⟩) 2 2)
          have hsz := hm5.size
          have G_y := Lib.hid (show GR _ w.heap.size P Q G from ⟨mid_cR hm5 G_sbyd.out.1 (by omega), mid_cR hm5 G_sbyd.out.2.1 (by omega), mid_cR hm5 G_sbyd.out.2.2 (by omega)⟩)
          have V_y := Lib.hid (show D2 _ (w.heap.size + 1) (.int .i64 H) (.slice ya hs.length yc) from ⟨mid_cR hm5 V_sbyd.out.1 (by omega), mid_cR hm5 V_sbyd.out.2 (by omega)⟩)
          have CR_y := Lib.hid (show CC _ rb ro a b from ⟨mid_cR hm5 CR_sbyd.out.1 (by have := HRB.out; omega), mid_cR hm5 CR_sbyd.out.2 (by have := HRB.out; omega)⟩)
          have C_y := Lib.hid (XC_sbyd.out.mid hm5 (.inr (by have := LXC.out; omega)))
          have H_y := Lib.hid (XH_sbyd.out.mid hm5 (.inr (by have := LXH.out; omega)))
          have R_y := Lib.hid (XR_sbyd.out.mid hm5 (.inr (by have := LXR.out; omega)))
          have HB_y := Lib.hid (HB_sbyd.out.trans (hm5.toBelow (by omega) HB_sbyd.out.size))
          clear hm5
          refine wpAnyH_ready (rs := [26]) (by kernel_rfl) (by simp) ?_
          refine AllReadyH.cons rfl (fun K hK => ?_) AllReadyH.nil
          obtain ⟨y0, y1, y2, yf⟩ := Z_sbyd.out
          have yf0 := yf 0
          have yf1 := yf 1
          have yf2 := yf 2
          clear yf
          go_simp
          refine hK.out _ _ (show _ from ⟨⟨G_y.out.1, G_y.out.2.1, G_y.out.2.2⟩, ⟨V_y.out.1, V_y.out.2⟩, CR_y.out.1, CR_y.out.2⟩) (fun hHeld => ?_)
          clear hK K
          try simp only [Act.put, List.getElem_toArray, List.getElem_cons_succ, List.getElem_cons_zero, List.setIfInBounds_toArray, List.set_cons_zero, List.set_cons_succ]
          refine wpAnyH_take (i := 27) (v := ?_) rfl (by kernel_rfl) (by kernel_rfl) (by kernel_rfl) (fun _ _ _ h => h) (Or.inl ⟨by kernel_rfl, ?_⟩) (by assumption) ?_
          rotate_left 1
          · intro w9 hSw
            try dsimp only at hSw
            go_simp
            try with_reducible rfl
          try simp only [Act.put, List.getElem_toArray, List.getElem_cons_succ, List.getElem_cons_zero, List.setIfInBounds_toArray, List.set_cons_zero, List.set_cons_succ]
          refine wpAnyH_done (by kernel_rfl) ?_ _
          go_wp2
          (try simp only [Exit.inBlock, Exit.then])
          refine bodyPost_ret (v := .tuple #[.agg #[.slice (some ⟨Wq.heap.size, 0, none⟩) 1 1, .slice (some ⟨Wqby.heap.size, 0, none⟩) 1 1, .slice (some ⟨Wqb.heap.size, 0, none⟩) 2 2], .bool true]) ?_ rfl ?_
          · rw [results_cell_tmp rfl]; go_simp
          · exact ⟨_, _, _, rfl, ⟨_, _, _, rfl, C_y.out.wide (by have := LXC.out; omega) C_y.out.toIn.le (Nat.le_refl _), H_y.out.wide (by have := LXH.out; omega) H_y.out.toIn.le (Nat.le_refl _), R_y.out.wide (by have := LXR.out; omega) R_y.out.toIn.le (Nat.le_refl _)⟩, HB_y.out⟩
  · go_simp
    have hb := ba Wq (.cells #[.int .i64 e] 3)
    have HB_sd := Lib.hid (bt HB_s.out hb)
    have G_sd := Lib.hid (G_s.out.below hb)
    have V_sd := Lib.hid (V_s.out.below hb)
    have Z_sd := Lib.hid (Z_s.out.below hb)
    have CR_sd := Lib.hid (CR_s.out.below hb)
    have XH_sd := Lib.hid (show OwI Wq.heap.size (Wq.alloc (.cells #[.int .i64 e] 3)).heap.size (Wq.alloc (.cells #[.int .i64 e] 3)) (.slice (some ⟨Wq.heap.size, 0, none⟩) 1 1) [e] from owI_lit Wq [e] (by simp))
    have LXH := Lib.hid (show w.heap.size + 2 < Wq.heap.size from Z_s.out.lt)
    clear hb
    refine hK.out _ _ (show _ from ⟨⟨G_sd.out.1, G_sd.out.2.1, G_sd.out.2.2⟩, ⟨V_sd.out.1, V_sd.out.2⟩, CR_sd.out.1, CR_sd.out.2⟩) (fun hHeld => ?_)
    clear hK K
    try simp only [Act.put, List.getElem_toArray, List.getElem_cons_succ, List.getElem_cons_zero, List.setIfInBounds_toArray, List.set_cons_zero, List.set_cons_succ]
    generalize hW9 : Wq.alloc (.cells #[.int .i64 e] 3) = Wqd at *
    clear hW9
    refine wpAnyH_ready (rs := [1, 13]) (by kernel_rfl) (by simp) ?_
    refine AllReadyH.cons rfl (fun K hK => ?_) (AllReadyH.cons rfl (fun K hK => ?_) (AllReadyH.nil))
    · go_simp
      have hb := ba Wqd (.cells #[.int .i64 x] 3)
      have HB_sdb := Lib.hid (bt HB_sd.out hb)
      have G_sdb := Lib.hid (G_sd.out.below hb)
      have V_sdb := Lib.hid (V_sd.out.below hb)
      have Z_sdb := Lib.hid (Z_sd.out.below hb)
      have CR_sdb := Lib.hid (CR_sd.out.below hb)
      have XH_sdb := Lib.hid (XH_sd.out.below hb)
      have XC_sdb := Lib.hid (show OwI Wqd.heap.size (Wqd.alloc (.cells #[.int .i64 x] 3)).heap.size (Wqd.alloc (.cells #[.int .i64 x] 3)) (.slice (some ⟨Wqd.heap.size, 0, none⟩) 1 1) [x] from owI_lit Wqd [x] (by simp))
      have LXC := Lib.hid (show w.heap.size + 2 < Wqd.heap.size from Z_sd.out.lt)
      clear hb
      refine hK.out _ _ (show _ from ⟨⟨G_sdb.out.1, G_sdb.out.2.1, G_sdb.out.2.2⟩, ⟨V_sdb.out.1, V_sdb.out.2⟩, CR_sdb.out.1, CR_sdb.out.2⟩) (fun hHeld => ?_)
      clear hK K
      try simp only [Act.put, List.getElem_toArray, List.getElem_cons_succ, List.getElem_cons_zero, List.setIfInBounds_toArray, List.set_cons_zero, List.set_cons_succ]
      generalize hW9 : Wqd.alloc (.cells #[.int .i64 x] 3) = Wqdb at *
      clear hW9
      refine wpAnyH_ready (rs := [13]) (by kernel_rfl) (by simp) ?_
      refine AllReadyH.cons rfl (fun K hK => ?_) (AllReadyH.nil)
      go_simp
      go_at_call 91
      refine (o_nn (a + em) Q HA1.out.1 HA1.out.2 hgr.2.1.1 hgr.2.1.2 _).mono ?_
      rw [HZ1.out]
      rintro e' w' ⟨rfl, rfl⟩
      go_wp2_with fail
      refine hK.out _ _ (show _ from ⟨⟨G_sdb.out.1, G_sdb.out.2.1, G_sdb.out.2.2⟩, ⟨V_sdb.out.1, V_sdb.out.2⟩, CR_sdb.out.1, CR_sdb.out.2⟩) (fun hHeld => ?_)
      clear hK K
      try simp only [Act.put, List.getElem_toArray, List.getElem_cons_succ, List.getElem_cons_zero, List.setIfInBounds_toArray, List.set_cons_zero, List.set_cons_succ]
      refine wpAnyH_ready (rs := [23]) (by kernel_rfl) (by simp) ?_
      refine AllReadyH.cons rfl (fun K hK => ?_) (AllReadyH.nil)
      go_simp
      go_at_call 91
      refine (o_nn (b + er) Q HA2.out.1 HA2.out.2 hgr.2.1.1 hgr.2.1.2 _).mono ?_
      rw [HZ2.out]
      rintro e' w' ⟨rfl, rfl⟩
      go_wp2_with fail
      refine hK.out _ _ (show _ from ⟨⟨G_sdb.out.1, G_sdb.out.2.1, G_sdb.out.2.2⟩, ⟨V_sdb.out.1, V_sdb.out.2⟩, CR_sdb.out.1, CR_sdb.out.2⟩) (fun hHeld => ?_)
      clear hK K
      try simp only [Act.put, List.getElem_toArray, List.getElem_cons_succ, List.getElem_cons_zero, List.setIfInBounds_toArray, List.set_cons_zero, List.set_cons_succ]
      refine wpAnyH_ready (rs := [24]) (by kernel_rfl) (by simp) ?_
      refine AllReadyH.cons rfl (fun K hK => ?_) (AllReadyH.nil)
      go_simp
      have hb := ba Wqdb (.cells #[.int .i64 z1, .int .i64 z2] 3)
      have HB_sdby := Lib.hid (bt HB_sdb.out hb)
      have G_sdby := Lib.hid (G_sdb.out.below hb)
      have V_sdby := Lib.hid (V_sdb.out.below hb)
      have Z_sdby := Lib.hid (Z_sdb.out.below hb)
      have CR_sdby := Lib.hid (CR_sdb.out.below hb)
      have XH_sdby := Lib.hid (XH_sdb.out.below hb)
      have XC_sdby := Lib.hid (XC_sdb.out.below hb)
      have XR_sdby := Lib.hid (show OwI Wqdb.heap.size (Wqdb.alloc (.cells #[.int .i64 z1, .int .i64 z2] 3)).heap.size (Wqdb.alloc (.cells #[.int .i64 z1, .int .i64 z2] 3)) (.slice (some ⟨Wqdb.heap.size, 0, none⟩) 2 2) [z1, z2] from owI_lit Wqdb [z1, z2] (by simp))
      have LXR := Lib.hid (show w.heap.size + 2 < Wqdb.heap.size from Z_sdb.out.lt)
      clear hb
      refine hK.out _ _ (show _ from ⟨⟨G_sdby.out.1, G_sdby.out.2.1, G_sdby.out.2.2⟩, ⟨V_sdby.out.1, V_sdby.out.2⟩, CR_sdby.out.1, CR_sdby.out.2⟩) (fun hHeld => ?_)
      clear hK K
      try simp only [Act.put, List.getElem_toArray, List.getElem_cons_succ, List.getElem_cons_zero, List.setIfInBounds_toArray, List.set_cons_zero, List.set_cons_succ]
      generalize hW9 : Wqdb.alloc (.cells #[.int .i64 z1, .int .i64 z2] 3) = Wqdby at *
      clear hW9
      refine wpAnyH_take (i := 25) (v := ?_) rfl (by kernel_rfl) (by kernel_rfl) (by kernel_rfl) (fun _ _ _ h => h) (Or.inl ⟨by kernel_rfl, ?_⟩) (by assumption) ?_
      rotate_left 1
      · intro w9 hSw
        try dsimp only at hSw
        go_simp
        try with_reducible rfl
      try simp only [Act.put, List.getElem_toArray, List.getElem_cons_succ, List.getElem_cons_zero, List.setIfInBounds_toArray, List.set_cons_zero, List.set_cons_succ]
      have hm5 := mid3 Wqdby (w.heap.size + 2) (.slice (some ⟨Wqd.heap.size, 0, none⟩) 1 1) (.slice (some ⟨Wq.heap.size, 0, none⟩) 1 1) (.slice (some ⟨Wqdb.heap.size, 0, none⟩) 2 2)
      have hsz := hm5.size
      have G_y := Lib.hid (show GR _ w.heap.size P Q G from ⟨mid_cR hm5 G_sdby.out.1 (by omega), mid_cR hm5 G_sdby.out.2.1 (by omega), mid_cR hm5 G_sdby.out.2.2 (by omega)⟩)
      have V_y := Lib.hid (show D2 _ (w.heap.size + 1) (.int .i64 H) (.slice ya hs.length yc) from ⟨mid_cR hm5 V_sdby.out.1 (by omega), mid_cR hm5 V_sdby.out.2 (by omega)⟩)
      have CR_y := Lib.hid (show CC _ rb ro a b from ⟨mid_cR hm5 CR_sdby.out.1 (by have := HRB.out; omega), mid_cR hm5 CR_sdby.out.2 (by have := HRB.out; omega)⟩)
      have C_y := Lib.hid (XC_sdby.out.mid hm5 (.inr (by have := LXC.out; omega)))
      have H_y := Lib.hid (XH_sdby.out.mid hm5 (.inr (by have := LXH.out; omega)))
      have R_y := Lib.hid (XR_sdby.out.mid hm5 (.inr (by have := LXR.out; omega)))
      have HB_y := Lib.hid (HB_sdby.out.trans (hm5.toBelow (by omega) HB_sdby.out.size))
      clear hm5
      refine wpAnyH_ready (rs := [26]) (by kernel_rfl) (by simp) ?_
      refine AllReadyH.cons rfl (fun K hK => ?_) AllReadyH.nil
      obtain ⟨y0, y1, y2, yf⟩ := Z_sdby.out
      have yf0 := yf 0
      have yf1 := yf 1
      have yf2 := yf 2
      clear yf
      go_simp
      refine hK.out _ _ (show _ from ⟨⟨G_y.out.1, G_y.out.2.1, G_y.out.2.2⟩, ⟨V_y.out.1, V_y.out.2⟩, CR_y.out.1, CR_y.out.2⟩) (fun hHeld => ?_)
      clear hK K
      try simp only [Act.put, List.getElem_toArray, List.getElem_cons_succ, List.getElem_cons_zero, List.setIfInBounds_toArray, List.set_cons_zero, List.set_cons_succ]
      refine wpAnyH_take (i := 27) (v := ?_) rfl (by kernel_rfl) (by kernel_rfl) (by kernel_rfl) (fun _ _ _ h => h) (Or.inl ⟨by kernel_rfl, ?_⟩) (by assumption) ?_
      rotate_left 1
      · intro w9 hSw
        try dsimp only at hSw
        go_simp
        try with_reducible rfl
      try simp only [Act.put, List.getElem_toArray, List.getElem_cons_succ, List.getElem_cons_zero, List.setIfInBounds_toArray, List.set_cons_zero, List.set_cons_succ]
      refine wpAnyH_done (by kernel_rfl) ?_ _
      go_wp2
      (try simp only [Exit.inBlock, Exit.then])
      refine bodyPost_ret (v := .tuple #[.agg #[.slice (some ⟨Wqd.heap.size, 0, none⟩) 1 1, .slice (some ⟨Wq.heap.size, 0, none⟩) 1 1, .slice (some ⟨Wqdb.heap.size, 0, none⟩) 2 2], .bool true]) ?_ rfl ?_
      · rw [results_cell_tmp rfl]; go_simp
      · exact ⟨_, _, _, rfl, ⟨_, _, _, rfl, C_y.out.wide (by have := LXC.out; omega) C_y.out.toIn.le (Nat.le_refl _), H_y.out.wide (by have := LXH.out; omega) H_y.out.toIn.le (Nat.le_refl _), R_y.out.wide (by have := LXR.out; omega) R_y.out.toIn.le (Nat.le_refl _)⟩, HB_y.out⟩
    · go_simp
      go_at_call 91
      refine (o_nn (a + em) Q HA1.out.1 HA1.out.2 hgr.2.1.1 hgr.2.1.2 _).mono ?_
      rw [HZ1.out]
      rintro e' w' ⟨rfl, rfl⟩
      go_wp2_with fail
      refine hK.out _ _ (show _ from ⟨⟨G_sd.out.1, G_sd.out.2.1, G_sd.out.2.2⟩, ⟨V_sd.out.1, V_sd.out.2⟩, CR_sd.out.1, CR_sd.out.2⟩) (fun hHeld => ?_)
      clear hK K
      try simp only [Act.put, List.getElem_toArray, List.getElem_cons_succ, List.getElem_cons_zero, List.setIfInBounds_toArray, List.set_cons_zero, List.set_cons_succ]
      refine wpAnyH_ready (rs := [1, 23]) (by kernel_rfl) (by simp) ?_
      refine AllReadyH.cons rfl (fun K hK => ?_) (AllReadyH.cons rfl (fun K hK => ?_) (AllReadyH.nil))
      · go_simp
        have hb := ba Wqd (.cells #[.int .i64 x] 3)
        have HB_sdb := Lib.hid (bt HB_sd.out hb)
        have G_sdb := Lib.hid (G_sd.out.below hb)
        have V_sdb := Lib.hid (V_sd.out.below hb)
        have Z_sdb := Lib.hid (Z_sd.out.below hb)
        have CR_sdb := Lib.hid (CR_sd.out.below hb)
        have XH_sdb := Lib.hid (XH_sd.out.below hb)
        have XC_sdb := Lib.hid (show OwI Wqd.heap.size (Wqd.alloc (.cells #[.int .i64 x] 3)).heap.size (Wqd.alloc (.cells #[.int .i64 x] 3)) (.slice (some ⟨Wqd.heap.size, 0, none⟩) 1 1) [x] from owI_lit Wqd [x] (by simp))
        have LXC := Lib.hid (show w.heap.size + 2 < Wqd.heap.size from Z_sd.out.lt)
        clear hb
        refine hK.out _ _ (show _ from ⟨⟨G_sdb.out.1, G_sdb.out.2.1, G_sdb.out.2.2⟩, ⟨V_sdb.out.1, V_sdb.out.2⟩, CR_sdb.out.1, CR_sdb.out.2⟩) (fun hHeld => ?_)
        clear hK K
        try simp only [Act.put, List.getElem_toArray, List.getElem_cons_succ, List.getElem_cons_zero, List.setIfInBounds_toArray, List.set_cons_zero, List.set_cons_succ]
        generalize hW9 : Wqd.alloc (.cells #[.int .i64 x] 3) = Wqdb at *
        clear hW9
        refine wpAnyH_ready (rs := [23]) (by kernel_rfl) (by simp) ?_
        refine AllReadyH.cons rfl (fun K hK => ?_) (AllReadyH.nil)
        go_simp
        go_at_call 91
        refine (o_nn (b + er) Q HA2.out.1 HA2.out.2 hgr.2.1.1 hgr.2.1.2 _).mono ?_
        rw [HZ2.out]
        rintro e' w' ⟨rfl, rfl⟩
        go_wp2_with fail
        refine hK.out _ _ (show _ from ⟨⟨G_sdb.out.1, G_sdb.out.2.1, G_sdb.out.2.2⟩, ⟨V_sdb.out.1, V_sdb.out.2⟩, CR_sdb.out.1, CR_sdb.out.2⟩) (fun hHeld => ?_)
        clear hK K
        try simp only [Act.put, List.getElem_toArray, List.getElem_cons_succ, List.getElem_cons_zero, List.setIfInBounds_toArray, List.set_cons_zero, List.set_cons_succ]
        refine wpAnyH_ready (rs := [24]) (by kernel_rfl) (by simp) ?_
        refine AllReadyH.cons rfl (fun K hK => ?_) (AllReadyH.nil)
        go_simp
        have hb := ba Wqdb (.cells #[.int .i64 z1, .int .i64 z2] 3)
        have HB_sdby := Lib.hid (bt HB_sdb.out hb)
        have G_sdby := Lib.hid (G_sdb.out.below hb)
        have V_sdby := Lib.hid (V_sdb.out.below hb)
        have Z_sdby := Lib.hid (Z_sdb.out.below hb)
        have CR_sdby := Lib.hid (CR_sdb.out.below hb)
        have XH_sdby := Lib.hid (XH_sdb.out.below hb)
        have XC_sdby := Lib.hid (XC_sdb.out.below hb)
        have XR_sdby := Lib.hid (show OwI Wqdb.heap.size (Wqdb.alloc (.cells #[.int .i64 z1, .int .i64 z2] 3)).heap.size (Wqdb.alloc (.cells #[.int .i64 z1, .int .i64 z2] 3)) (.slice (some ⟨Wqdb.heap.size, 0, none⟩) 2 2) [z1, z2] from owI_lit Wqdb [z1, z2] (by simp))
        have LXR := Lib.hid (show w.heap.size + 2 < Wqdb.heap.size from Z_sdb.out.lt)
        clear hb
        refine hK.out _ _ (show _ from ⟨⟨G_sdby.out.1, G_sdby.out.2.1, G_sdby.out.2.2⟩, ⟨V_sdby.out.1, V_sdby.out.2⟩, CR_sdby.out.1, CR_sdby.out.2⟩) (fun hHeld => ?_)
        clear hK K
        try simp only [Act.put, List.getElem_toArray, List.getElem_cons_succ, List.getElem_cons_zero, List.setIfInBounds_toArray, List.set_cons_zero, List.set_cons_succ]
        generalize hW9 : Wqdb.alloc (.cells #[.int .i64 z1, .int .i64 z2] 3) = Wqdby at *
        clear hW9
        refine wpAnyH_take (i := 25) (v := ?_) rfl (by kernel_rfl) (by kernel_rfl) (by kernel_rfl) (fun _ _ _ h => h) (Or.inl ⟨by kernel_rfl, ?_⟩) (by assumption) ?_
        rotate_left 1
        · intro w9 hSw
          try dsimp only at hSw
          go_simp
          try with_reducible rfl
        try simp only [Act.put, List.getElem_toArray, List.getElem_cons_succ, List.getElem_cons_zero, List.setIfInBounds_toArray, List.set_cons_zero, List.set_cons_succ]
        have hm5 := mid3 Wqdby (w.heap.size + 2) (.slice (some ⟨Wqd.heap.size, 0, none⟩) 1 1) (.slice (some ⟨Wq.heap.size, 0, none⟩) 1 1) (.slice (some ⟨Wqdb.heap.size, 0, none⟩) 2 2)
        have hsz := hm5.size
        have G_y := Lib.hid (show GR _ w.heap.size P Q G from ⟨mid_cR hm5 G_sdby.out.1 (by omega), mid_cR hm5 G_sdby.out.2.1 (by omega), mid_cR hm5 G_sdby.out.2.2 (by omega)⟩)
        have V_y := Lib.hid (show D2 _ (w.heap.size + 1) (.int .i64 H) (.slice ya hs.length yc) from ⟨mid_cR hm5 V_sdby.out.1 (by omega), mid_cR hm5 V_sdby.out.2 (by omega)⟩)
        have CR_y := Lib.hid (show CC _ rb ro a b from ⟨mid_cR hm5 CR_sdby.out.1 (by have := HRB.out; omega), mid_cR hm5 CR_sdby.out.2 (by have := HRB.out; omega)⟩)
        have C_y := Lib.hid (XC_sdby.out.mid hm5 (.inr (by have := LXC.out; omega)))
        have H_y := Lib.hid (XH_sdby.out.mid hm5 (.inr (by have := LXH.out; omega)))
        have R_y := Lib.hid (XR_sdby.out.mid hm5 (.inr (by have := LXR.out; omega)))
        have HB_y := Lib.hid (HB_sdby.out.trans (hm5.toBelow (by omega) HB_sdby.out.size))
        clear hm5
        refine wpAnyH_ready (rs := [26]) (by kernel_rfl) (by simp) ?_
        refine AllReadyH.cons rfl (fun K hK => ?_) AllReadyH.nil
        obtain ⟨y0, y1, y2, yf⟩ := Z_sdby.out
        have yf0 := yf 0
        have yf1 := yf 1
        have yf2 := yf 2
        clear yf
        go_simp
        refine hK.out _ _ (show _ from ⟨⟨G_y.out.1, G_y.out.2.1, G_y.out.2.2⟩, ⟨V_y.out.1, V_y.out.2⟩, CR_y.out.1, CR_y.out.2⟩) (fun hHeld => ?_)
        clear hK K
        try simp only [Act.put, List.getElem_toArray, List.getElem_cons_succ, List.getElem_cons_zero, List.setIfInBounds_toArray, List.set_cons_zero, List.set_cons_succ]
        refine wpAnyH_take (i := 27) (v := ?_) rfl (by kernel_rfl) (by kernel_rfl) (by kernel_rfl) (fun _ _ _ h => h) (Or.inl ⟨by kernel_rfl, ?_⟩) (by assumption) ?_
        rotate_left 1
        · intro w9 hSw
          try dsimp only at hSw
          go_simp
          try with_reducible rfl
        try simp only [Act.put, List.getElem_toArray, List.getElem_cons_succ, List.getElem_cons_zero, List.setIfInBounds_toArray, List.set_cons_zero, List.set_cons_succ]
        refine wpAnyH_done (by kernel_rfl) ?_ _
        go_wp2
        (try simp only [Exit.inBlock, Exit.then])
        refine bodyPost_ret (v := .tuple #[.agg #[.slice (some ⟨Wqd.heap.size, 0, none⟩) 1 1, .slice (some ⟨Wq.heap.size, 0, none⟩) 1 1, .slice (some ⟨Wqdb.heap.size, 0, none⟩) 2 2], .bool true]) ?_ rfl ?_
        · rw [results_cell_tmp rfl]; go_simp
        · exact ⟨_, _, _, rfl, ⟨_, _, _, rfl, C_y.out.wide (by have := LXC.out; omega) C_y.out.toIn.le (Nat.le_refl _), H_y.out.wide (by have := LXH.out; omega) H_y.out.toIn.le (Nat.le_refl _), R_y.out.wide (by have := LXR.out; omega) R_y.out.toIn.le (Nat.le_refl _)⟩, HB_y.out⟩
      · go_simp
        go_at_call 91
        refine (o_nn (b + er) Q HA2.out.1 HA2.out.2 hgr.2.1.1 hgr.2.1.2 _).mono ?_
        rw [HZ2.out]
        rintro e' w' ⟨rfl, rfl⟩
        go_wp2_with fail
        refine hK.out _ _ (show _ from ⟨⟨G_sd.out.1, G_sd.out.2.1, G_sd.out.2.2⟩, ⟨V_sd.out.1, V_sd.out.2⟩, CR_sd.out.1, CR_sd.out.2⟩) (fun hHeld => ?_)
        clear hK K
        try simp only [Act.put, List.getElem_toArray, List.getElem_cons_succ, List.getElem_cons_zero, List.setIfInBounds_toArray, List.set_cons_zero, List.set_cons_succ]
        refine wpAnyH_ready (rs := [1, 24]) (by kernel_rfl) (by simp) ?_
        refine AllReadyH.cons rfl (fun K hK => ?_) (AllReadyH.cons rfl (fun K hK => ?_) (AllReadyH.nil))
        · go_simp
          have hb := ba Wqd (.cells #[.int .i64 x] 3)
          have HB_sdb := Lib.hid (bt HB_sd.out hb)
          have G_sdb := Lib.hid (G_sd.out.below hb)
          have V_sdb := Lib.hid (V_sd.out.below hb)
          have Z_sdb := Lib.hid (Z_sd.out.below hb)
          have CR_sdb := Lib.hid (CR_sd.out.below hb)
          have XH_sdb := Lib.hid (XH_sd.out.below hb)
          have XC_sdb := Lib.hid (show OwI Wqd.heap.size (Wqd.alloc (.cells #[.int .i64 x] 3)).heap.size (Wqd.alloc (.cells #[.int .i64 x] 3)) (.slice (some ⟨Wqd.heap.size, 0, none⟩) 1 1) [x] from owI_lit Wqd [x] (by simp))
          have LXC := Lib.hid (show w.heap.size + 2 < Wqd.heap.size from Z_sd.out.lt)
          clear hb
          refine hK.out _ _ (show _ from ⟨⟨G_sdb.out.1, G_sdb.out.2.1, G_sdb.out.2.2⟩, ⟨V_sdb.out.1, V_sdb.out.2⟩, CR_sdb.out.1, CR_sdb.out.2⟩) (fun hHeld => ?_)
          clear hK K
          try simp only [Act.put, List.getElem_toArray, List.getElem_cons_succ, List.getElem_cons_zero, List.setIfInBounds_toArray, List.set_cons_zero, List.set_cons_succ]
          generalize hW9 : Wqd.alloc (.cells #[.int .i64 x] 3) = Wqdb at *
          clear hW9
          refine wpAnyH_ready (rs := [24]) (by kernel_rfl) (by simp) ?_
          refine AllReadyH.cons rfl (fun K hK => ?_) (AllReadyH.nil)
          go_simp
          have hb := ba Wqdb (.cells #[.int .i64 z1, .int .i64 z2] 3)
          have HB_sdby := Lib.hid (bt HB_sdb.out hb)
          have G_sdby := Lib.hid (G_sdb.out.below hb)
          have V_sdby := Lib.hid (V_sdb.out.below hb)
          have Z_sdby := Lib.hid (Z_sdb.out.below hb)
          have CR_sdby := Lib.hid (CR_sdb.out.below hb)
          have XH_sdby := Lib.hid (XH_sdb.out.below hb)
          have XC_sdby := Lib.hid (XC_sdb.out.below hb)
          have XR_sdby := Lib.hid (show OwI Wqdb.heap.size (Wqdb.alloc (.cells #[.int .i64 z1, .int .i64 z2] 3)).heap.size (Wqdb.alloc (.cells #[.int .i64 z1, .int .i64 z2] 3)) (.slice (some ⟨Wqdb.heap.size, 0, none⟩) 2 2) [z1, z2] from owI_lit Wqdb [z1, z2] (by simp))
          have LXR := Lib.hid (show w.heap.size + 2 < Wqdb.heap.size from Z_sdb.out.lt)
          clear hb
          refine hK.out _ _ (show _ from ⟨⟨G_sdby.out.1, G_sdby.out.2.1, G_sdby.out.2.2⟩, ⟨V_sdby.out.1, V_sdby.out.2⟩, CR_sdby.out.1, CR_sdby.out.2⟩) (fun hHeld => ?_)
          clear hK K
          try simp only [Act.put, List.getElem_toArray, List.getElem_cons_succ, List.getElem_cons_zero, List.setIfInBounds_toArray, List.set_cons_zero, List.set_cons_succ]
          generalize hW9 : Wqdb.alloc (.cells #[.int .i64 z1, .int .i64 z2] 3) = Wqdby at *
          clear hW9
          refine wpAnyH_take (i := 25) (v := ?_) rfl (by kernel_rfl) (by kernel_rfl) (by kernel_rfl) (fun _ _ _ h => h) (Or.inl ⟨by kernel_rfl, ?_⟩) (by assumption) ?_
          rotate_left 1
          · intro w9 hSw
            try dsimp only at hSw
            go_simp
            try with_reducible rfl
          try simp only [Act.put, List.getElem_toArray, List.getElem_cons_succ, List.getElem_cons_zero, List.setIfInBounds_toArray, List.set_cons_zero, List.set_cons_succ]
          have hm5 := mid3 Wqdby (w.heap.size + 2) (.slice (some ⟨Wqd.heap.size, 0, none⟩) 1 1) (.slice (some ⟨Wq.heap.size, 0, none⟩) 1 1) (.slice (some ⟨Wqdb.heap.size, 0, none⟩) 2 2)
          have hsz := hm5.size
          have G_y := Lib.hid (show GR _ w.heap.size P Q G from ⟨mid_cR hm5 G_sdby.out.1 (by omega), mid_cR hm5 G_sdby.out.2.1 (by omega), mid_cR hm5 G_sdby.out.2.2 (by omega)⟩)
          have V_y := Lib.hid (show D2 _ (w.heap.size + 1) (.int .i64 H) (.slice ya hs.length yc) from ⟨mid_cR hm5 V_sdby.out.1 (by omega), mid_cR hm5 V_sdby.out.2 (by omega)⟩)
          have CR_y := Lib.hid (show CC _ rb ro a b from ⟨mid_cR hm5 CR_sdby.out.1 (by have := HRB.out; omega), mid_cR hm5 CR_sdby.out.2 (by have := HRB.out; omega)⟩)
          have C_y := Lib.hid (XC_sdby.out.mid hm5 (.inr (by have := LXC.out; omega)))
          have H_y := Lib.hid (XH_sdby.out.mid hm5 (.inr (by have := LXH.out; omega)))
          have R_y := Lib.hid (XR_sdby.out.mid hm5 (.inr (by have := LXR.out; omega)))
          have HB_y := Lib.hid (HB_sdby.out.trans (hm5.toBelow (by omega) HB_sdby.out.size))
          clear hm5
          refine wpAnyH_ready (rs := [26]) (by kernel_rfl) (by simp) ?_
          refine AllReadyH.cons rfl (fun K hK => ?_) AllReadyH.nil
          obtain ⟨y0, y1, y2, yf⟩ := Z_sdby.out
          have yf0 := yf 0
          have yf1 := yf 1
          have yf2 := yf 2
          clear yf
          go_simp
          refine hK.out _ _ (show _ from ⟨⟨G_y.out.1, G_y.out.2.1, G_y.out.2.2⟩, ⟨V_y.out.1, V_y.out.2⟩, CR_y.out.1, CR_y.out.2⟩) (fun hHeld => ?_)
          clear hK K
          try simp only [Act.put, List.getElem_toArray, List.getElem_cons_succ, List.getElem_cons_zero, List.setIfInBounds_toArray, List.set_cons_zero, List.set_cons_succ]
          refine wpAnyH_take (i := 27) (v := ?_) rfl (by kernel_rfl) (by kernel_rfl) (by kernel_rfl) (fun _ _ _ h => h) (Or.inl ⟨by kernel_rfl, ?_⟩) (by assumption) ?_
          rotate_left 1
          · intro w9 hSw
            try dsimp only at hSw
            go_simp
            try with_reducible rfl
          try simp only [Act.put, List.getElem_toArray, List.getElem_cons_succ, List.getElem_cons_zero, List.setIfInBounds_toArray, List.set_cons_zero, List.set_cons_succ]
          refine wpAnyH_done (by kernel_rfl) ?_ _
          go_wp2
          (try simp only [Exit.inBlock, Exit.then])
          refine bodyPost_ret (v := .tuple #[.agg #[.slice (some ⟨Wqd.heap.size, 0, none⟩) 1 1, .slice (some ⟨Wq.heap.size, 0, none⟩) 1 1, .slice (some ⟨Wqdb.heap.size, 0, none⟩) 2 2], .bool true]) ?_ rfl ?_
          · rw [results_cell_tmp rfl]; go_simp
          · exact ⟨_, _, _, rfl, ⟨_, _, _, rfl, C_y.out.wide (by have := LXC.out; omega) C_y.out.toIn.le (Nat.le_refl _), H_y.out.wide (by have := LXH.out; omega) H_y.out.toIn.le (Nat.le_refl _), R_y.out.wide (by have := LXR.out; omega) R_y.out.toIn.le (Nat.le_refl _)⟩, HB_y.out⟩
        · go_simp
          have hb := ba Wqd (.cells #[.int .i64 z1, .int .i64 z2] 3)
          have HB_sdy := Lib.hid (bt HB_sd.out hb)
          have G_sdy := Lib.hid (G_sd.out.below hb)
          have V_sdy := Lib.hid (V_sd.out.below hb)
          have Z_sdy := Lib.hid (Z_sd.out.below hb)
          have CR_sdy := Lib.hid (CR_sd.out.below hb)
          have XH_sdy := Lib.hid (XH_sd.out.below hb)
          have XR_sdy := Lib.hid (show OwI Wqd.heap.size (Wqd.alloc (.cells #[.int .i64 z1, .int .i64 z2] 3)).heap.size (Wqd.alloc (.cells #[.int .i64 z1, .int .i64 z2] 3)) (.slice (some ⟨Wqd.heap.size, 0, none⟩) 2 2) [z1, z2] from owI_lit Wqd [z1, z2] (by simp))
          have LXR := Lib.hid (show w.heap.size + 2 < Wqd.heap.size from Z_sd.out.lt)
          clear hb
          refine hK.out _ _ (show _ from ⟨⟨G_sdy.out.1, G_sdy.out.2.1, G_sdy.out.2.2⟩, ⟨V_sdy.out.1, V_sdy.out.2⟩, CR_sdy.out.1, CR_sdy.out.2⟩) (fun hHeld => ?_)
          clear hK K
          try simp only [Act.put, List.getElem_toArray, List.getElem_cons_succ, List.getElem_cons_zero, List.setIfInBounds_toArray, List.set_cons_zero, List.set_cons_succ]
          generalize hW9 : Wqd.alloc (.cells #[.int .i64 z1, .int .i64 z2] 3) = Wqdy at *
          clear hW9
          refine wpAnyH_ready (rs := [1]) (by kernel_rfl) (by simp) ?_
          refine AllReadyH.cons rfl (fun K hK => ?_) (AllReadyH.nil)
          go_simp
          have hb := ba Wqdy (.cells #[.int .i64 x] 3)
          have HB_sdyb := Lib.hid (bt HB_sdy.out hb)
          have G_sdyb := Lib.hid (G_sdy.out.below hb)
          have V_sdyb := Lib.hid (V_sdy.out.below hb)
          have Z_sdyb := Lib.hid (Z_sdy.out.below hb)
          have CR_sdyb := Lib.hid (CR_sdy.out.below hb)
          have XH_sdyb := Lib.hid (XH_sdy.out.below hb)
          have XR_sdyb := Lib.hid (XR_sdy.out.below hb)
          have XC_sdyb := Lib.hid (show OwI Wqdy.heap.size (Wqdy.alloc (.cells #[.int .i64 x] 3)).heap.size (Wqdy.alloc (.cells #[.int .i64 x] 3)) (.slice (some ⟨Wqdy.heap.size, 0, none⟩) 1 1) [x] from owI_lit Wqdy [x] (by simp))
          have LXC := Lib.hid (show w.heap.size + 2 < Wqdy.heap.size from Z_sdy.out.lt)
          clear hb
          refine hK.out _ _ (show _ from ⟨⟨G_sdyb.out.1, G_sdyb.out.2.1, G_sdyb.out.2.2⟩, ⟨V_sdyb.out.1, V_sdyb.out.2⟩, CR_sdyb.out.1, CR_sdyb.out.2⟩) (fun hHeld => ?_)
          clear hK K
          try simp only [Act.put, List.getElem_toArray, List.getElem_cons_succ, List.getElem_cons_zero, List.setIfInBounds_toArray, List.set_cons_zero, List.set_cons_succ]
          generalize hW9 : Wqdy.alloc (.cells #[.int .i64 x] 3) = Wqdyb at *
          clear hW9
          refine wpAnyH_take (i := 25) (v := ?_) rfl (by kernel_rfl) (by kernel_rfl) (by kernel_rfl) (fun _ _ _ h => h) (Or.inl ⟨by kernel_rfl, ?_⟩) (by assumption) ?_
          rotate_left 1
          · intro w9 hSw
            try dsimp only at hSw
            go_simp
            try with_reducible rfl
          try simp only [Act.put, List.getElem_toArray, List.getElem_cons_succ, List.getElem_cons_zero, List.setIfInBounds_toArray, List.set_cons_zero, List.set_cons_succ]
          have hm5 := mid3 Wqdyb (w.heap.size + 2) (.slice (some ⟨Wqdy.heap.size, 0, none⟩) 1 1) (.slice (some ⟨Wq.heap.size, 0, none⟩) 1 1) (.slice (some ⟨Wqd.heap.size, 0, none⟩) 2 2)
          have hsz := hm5.size
          have G_y := Lib.hid (show GR _ w.heap.size P Q G from ⟨mid_cR hm5 G_sdyb.out.1 (by omega), mid_cR hm5 G_sdyb.out.2.1 (by omega), mid_cR hm5 G_sdyb.out.2.2 (by omega)⟩)
          have V_y := Lib.hid (show D2 _ (w.heap.size + 1) (.int .i64 H) (.slice ya hs.length yc) from ⟨mid_cR hm5 V_sdyb.out.1 (by omega), mid_cR hm5 V_sdyb.out.2 (by omega)⟩)
          have CR_y := Lib.hid (show CC _ rb ro a b from ⟨mid_cR hm5 CR_sdyb.out.1 (by have := HRB.out; omega), mid_cR hm5 CR_sdyb.out.2 (by have := HRB.out; omega)⟩)
          have C_y := Lib.hid (XC_sdyb.out.mid hm5 (.inr (by have := LXC.out; omega)))
          have H_y := Lib.hid (XH_sdyb.out.mid hm5 (.inr (by have := LXH.out; omega)))
          have R_y := Lib.hid (XR_sdyb.out.mid hm5 (.inr (by have := LXR.out; omega)))
          have HB_y := Lib.hid (HB_sdyb.out.trans (hm5.toBelow (by omega) HB_sdyb.out.size))
          clear hm5
          refine wpAnyH_ready (rs := [26]) (by kernel_rfl) (by simp) ?_
          refine AllReadyH.cons rfl (fun K hK => ?_) AllReadyH.nil
          obtain ⟨y0, y1, y2, yf⟩ := Z_sdyb.out
          have yf0 := yf 0
          have yf1 := yf 1
          have yf2 := yf 2
          clear yf
          go_simp
          refine hK.out _ _ (show _ from ⟨⟨G_y.out.1, G_y.out.2.1, G_y.out.2.2⟩, ⟨V_y.out.1, V_y.out.2⟩, CR_y.out.1, CR_y.out.2⟩) (fun hHeld => ?_)
          clear hK K
          try simp only [Act.put, List.getElem_toArray, List.getElem_cons_succ, List.getElem_cons_zero, List.setIfInBounds_toArray, List.set_cons_zero, List.set_cons_succ]
          refine wpAnyH_take (i := 27) (v := ?_) rfl (by kernel_rfl) (by kernel_rfl) (by kernel_rfl) (fun _ _ _ h => h) (Or.inl ⟨by kernel_rfl, ?_⟩) (by assumption) ?_
          rotate_left 1
          · intro w9 hSw
            try dsimp only at hSw
            go_simp
            try with_reducible rfl
          try simp only [Act.put, List.getElem_toArray, List.getElem_cons_succ, List.getElem_cons_zero, List.setIfInBounds_toArray, List.set_cons_zero, List.set_cons_succ]
          refine wpAnyH_done (by kernel_rfl) ?_ _
          go_wp2
          (try simp only [Exit.inBlock, Exit.then])
          refine bodyPost_ret (v := .tuple #[.agg #[.slice (some ⟨Wqdy.heap.size, 0, none⟩) 1 1, .slice (some ⟨Wq.heap.size, 0, none⟩) 1 1, .slice (some ⟨Wqd.heap.size, 0, none⟩) 2 2], .bool true]) ?_ rfl ?_
          · rw [results_cell_tmp rfl]; go_simp
          · exact ⟨_, _, _, rfl, ⟨_, _, _, rfl, C_y.out.wide (by have := LXC.out; omega) C_y.out.toIn.le (Nat.le_refl _), H_y.out.wide (by have := LXH.out; omega) H_y.out.toIn.le (Nat.le_refl _), R_y.out.wide (by have := LXR.out; omega) R_y.out.toIn.le (Nat.le_refl _)⟩, HB_y.out⟩
  · go_simp
    go_at_call 91
    refine (o_nn (a + em) Q HA1.out.1 HA1.out.2 hgr.2.1.1 hgr.2.1.2 _).mono ?_
    rw [HZ1.out]
    rintro e' w' ⟨rfl, rfl⟩
    go_wp2_with fail
    refine hK.out _ _ (show _ from ⟨⟨G_s.out.1, G_s.out.2.1, G_s.out.2.2⟩, ⟨V_s.out.1, V_s.out.2⟩, CR_s.out.1, CR_s.out.2⟩) (fun hHeld => ?_)
    clear hK K
    try simp only [Act.put, List.getElem_toArray, List.getElem_cons_succ, List.getElem_cons_zero, List.setIfInBounds_toArray, List.set_cons_zero, List.set_cons_succ]
    refine wpAnyH_ready (rs := [1, 3, 23]) (by kernel_rfl) (by simp) ?_
    refine AllReadyH.cons rfl (fun K hK => ?_) (AllReadyH.cons rfl (fun K hK => ?_) (AllReadyH.cons rfl (fun K hK => ?_) (AllReadyH.nil)))
    · go_simp
      have hb := ba Wq (.cells #[.int .i64 x] 3)
      have HB_sb := Lib.hid (bt HB_s.out hb)
      have G_sb := Lib.hid (G_s.out.below hb)
      have V_sb := Lib.hid (V_s.out.below hb)
      have Z_sb := Lib.hid (Z_s.out.below hb)
      have CR_sb := Lib.hid (CR_s.out.below hb)
      have XC_sb := Lib.hid (show OwI Wq.heap.size (Wq.alloc (.cells #[.int .i64 x] 3)).heap.size (Wq.alloc (.cells #[.int .i64 x] 3)) (.slice (some ⟨Wq.heap.size, 0, none⟩) 1 1) [x] from owI_lit Wq [x] (by simp))
      have LXC := Lib.hid (show w.heap.size + 2 < Wq.heap.size from Z_s.out.lt)
      clear hb
      refine hK.out _ _ (show _ from ⟨⟨G_sb.out.1, G_sb.out.2.1, G_sb.out.2.2⟩, ⟨V_sb.out.1, V_sb.out.2⟩, CR_sb.out.1, CR_sb.out.2⟩) (fun hHeld => ?_)
      clear hK K
      try simp only [Act.put, List.getElem_toArray, List.getElem_cons_succ, List.getElem_cons_zero, List.setIfInBounds_toArray, List.set_cons_zero, List.set_cons_succ]
      generalize hW9 : Wq.alloc (.cells #[.int .i64 x] 3) = Wqb at *
      clear hW9
      refine wpAnyH_ready (rs := [3, 23]) (by kernel_rfl) (by simp) ?_
      refine AllReadyH.cons rfl (fun K hK => ?_) (AllReadyH.cons rfl (fun K hK => ?_) (AllReadyH.nil))
      · go_simp
        have hb := ba Wqb (.cells #[.int .i64 e] 3)
        have HB_sbd := Lib.hid (bt HB_sb.out hb)
        have G_sbd := Lib.hid (G_sb.out.below hb)
        have V_sbd := Lib.hid (V_sb.out.below hb)
        have Z_sbd := Lib.hid (Z_sb.out.below hb)
        have CR_sbd := Lib.hid (CR_sb.out.below hb)
        have XC_sbd := Lib.hid (XC_sb.out.below hb)
        have XH_sbd := Lib.hid (show OwI Wqb.heap.size (Wqb.alloc (.cells #[.int .i64 e] 3)).heap.size (Wqb.alloc (.cells #[.int .i64 e] 3)) (.slice (some ⟨Wqb.heap.size, 0, none⟩) 1 1) [e] from owI_lit Wqb [e] (by simp))
        have LXH := Lib.hid (show w.heap.size + 2 < Wqb.heap.size from Z_sb.out.lt)
        clear hb
        refine hK.out _ _ (show _ from ⟨⟨G_sbd.out.1, G_sbd.out.2.1, G_sbd.out.2.2⟩, ⟨V_sbd.out.1, V_sbd.out.2⟩, CR_sbd.out.1, CR_sbd.out.2⟩) (fun hHeld => ?_)
        clear hK K
        try simp only [Act.put, List.getElem_toArray, List.getElem_cons_succ, List.getElem_cons_zero, List.setIfInBounds_toArray, List.set_cons_zero, List.set_cons_succ]
        generalize hW9 : Wqb.alloc (.cells #[.int .i64 e] 3) = Wqbd at *
        clear hW9
        refine wpAnyH_ready (rs := [23]) (by kernel_rfl) (by simp) ?_
        refine AllReadyH.cons rfl (fun K hK => ?_) (AllReadyH.nil)
        go_simp
        go_at_call 91
        refine (o_nn (b + er) Q HA2.out.1 HA2.out.2 hgr.2.1.1 hgr.2.1.2 _).mono ?_
        rw [HZ2.out]
        rintro e' w' ⟨rfl, rfl⟩
        go_wp2_with fail
        refine hK.out _ _ (show _ from ⟨⟨G_sbd.out.1, G_sbd.out.2.1, G_sbd.out.2.2⟩, ⟨V_sbd.out.1, V_sbd.out.2⟩, CR_sbd.out.1, CR_sbd.out.2⟩) (fun hHeld => ?_)
        clear hK K
        try simp only [Act.put, List.getElem_toArray, List.getElem_cons_succ, List.getElem_cons_zero, List.setIfInBounds_toArray, List.set_cons_zero, List.set_cons_succ]
        refine wpAnyH_ready (rs := [24]) (by kernel_rfl) (by simp) ?_
        refine AllReadyH.cons rfl (fun K hK => ?_) (AllReadyH.nil)
        go_simp
        have hb := ba Wqbd (.cells #[.int .i64 z1, .int .i64 z2] 3)
        have HB_sbdy := Lib.hid (bt HB_sbd.out hb)
        have G_sbdy := Lib.hid (G_sbd.out.below hb)
        have V_sbdy := Lib.hid (V_sbd.out.below hb)
        have Z_sbdy := Lib.hid (Z_sbd.out.below hb)
        have CR_sbdy := Lib.hid (CR_sbd.out.below hb)
        have XC_sbdy := Lib.hid (XC_sbd.out.below hb)
        have XH_sbdy := Lib.hid (XH_sbd.out.below hb)
        have XR_sbdy := Lib.hid (show OwI Wqbd.heap.size (Wqbd.alloc (.cells #[.int .i64 z1, .int .i64 z2] 3)).heap.size (Wqbd.alloc (.cells #[.int .i64 z1, .int .i64 z2] 3)) (.slice (some ⟨Wqbd.heap.size, 0, none⟩) 2 2) [z1, z2] from owI_lit Wqbd [z1, z2] (by simp))
        have LXR := Lib.hid (show w.heap.size + 2 < Wqbd.heap.size from Z_sbd.out.lt)
        clear hb
        refine hK.out _ _ (show _ from ⟨⟨G_sbdy.out.1, G_sbdy.out.2.1, G_sbdy.out.2.2⟩, ⟨V_sbdy.out.1, V_sbdy.out.2⟩, CR_sbdy.out.1, CR_sbdy.out.2⟩) (fun hHeld => ?_)
        clear hK K
        try simp only [Act.put, List.getElem_toArray, List.getElem_cons_succ, List.getElem_cons_zero, List.setIfInBounds_toArray, List.set_cons_zero, List.set_cons_succ]
        generalize hW9 : Wqbd.alloc (.cells #[.int .i64 z1, .int .i64 z2] 3) = Wqbdy at *
        clear hW9
        refine wpAnyH_take (i := 25) (v := ?_) rfl (by kernel_rfl) (by kernel_rfl) (by kernel_rfl) (fun _ _ _ h => h) (Or.inl ⟨by kernel_rfl, ?_⟩) (by assumption) ?_
        rotate_left 1
        · intro w9 hSw
          try dsimp only at hSw
          go_simp
          try with_reducible rfl
        try simp only [Act.put, List.getElem_toArray, List.getElem_cons_succ, List.getElem_cons_zero, List.setIfInBounds_toArray, List.set_cons_zero, List.set_cons_succ]
        have hm5 := mid3 Wqbdy (w.heap.size + 2) (.slice (some ⟨Wq.heap.size, 0, none⟩) 1 1) (.slice (some ⟨Wqb.heap.size, 0, none⟩) 1 1) (.slice (some ⟨Wqbd.heap.size, 0, none⟩) 2 2)
        have hsz := hm5.size
        have G_y := Lib.hid (show GR _ w.heap.size P Q G from ⟨mid_cR hm5 G_sbdy.out.1 (by omega), mid_cR hm5 G_sbdy.out.2.1 (by omega), mid_cR hm5 G_sbdy.out.2.2 (by omega)⟩)
        have V_y := Lib.hid (show D2 _ (w.heap.size + 1) (.int .i64 H) (.slice ya hs.length yc) from ⟨mid_cR hm5 V_sbdy.out.1 (by omega), mid_cR hm5 V_sbdy.out.2 (by omega)⟩)
        have CR_y := Lib.hid (show CC _ rb ro a b from ⟨mid_cR hm5 CR_sbdy.out.1 (by have := HRB.out; omega), mid_cR hm5 CR_sbdy.out.2 (by have := HRB.out; omega)⟩)
        have C_y := Lib.hid (XC_sbdy.out.mid hm5 (.inr (by have := LXC.out; omega)))
        have H_y := Lib.hid (XH_sbdy.out.mid hm5 (.inr (by have := LXH.out; omega)))
        have R_y := Lib.hid (XR_sbdy.out.mid hm5 (.inr (by have := LXR.out; omega)))
        have HB_y := Lib.hid (HB_sbdy.out.trans (hm5.toBelow (by omega) HB_sbdy.out.size))
        clear hm5
        refine wpAnyH_ready (rs := [26]) (by kernel_rfl) (by simp) ?_
        refine AllReadyH.cons rfl (fun K hK => ?_) AllReadyH.nil
        obtain ⟨y0, y1, y2, yf⟩ := Z_sbdy.out
        have yf0 := yf 0
        have yf1 := yf 1
        have yf2 := yf 2
        clear yf
        go_simp
        refine hK.out _ _ (show _ from ⟨⟨G_y.out.1, G_y.out.2.1, G_y.out.2.2⟩, ⟨V_y.out.1, V_y.out.2⟩, CR_y.out.1, CR_y.out.2⟩) (fun hHeld => ?_)
        clear hK K
        try simp only [Act.put, List.getElem_toArray, List.getElem_cons_succ, List.getElem_cons_zero, List.setIfInBounds_toArray, List.set_cons_zero, List.set_cons_succ]
        refine wpAnyH_take (i := 27) (v := ?_) rfl (by kernel_rfl) (by kernel_rfl) (by kernel_rfl) (fun _ _ _ h => h) (Or.inl ⟨by kernel_rfl, ?_⟩) (by assumption) ?_
        rotate_left 1
        · intro w9 hSw
          try dsimp only at hSw
          go_simp
          try with_reducible rfl
        try simp only [Act.put, List.getElem_toArray, List.getElem_cons_succ, List.getElem_cons_zero, List.setIfInBounds_toArray, List.set_cons_zero, List.set_cons_succ]
        refine wpAnyH_done (by kernel_rfl) ?_ _
        go_wp2
        (try simp only [Exit.inBlock, Exit.then])
        refine bodyPost_ret (v := .tuple #[.agg #[.slice (some ⟨Wq.heap.size, 0, none⟩) 1 1, .slice (some ⟨Wqb.heap.size, 0, none⟩) 1 1, .slice (some ⟨Wqbd.heap.size, 0, none⟩) 2 2], .bool true]) ?_ rfl ?_
        · rw [results_cell_tmp rfl]; go_simp
        · exact ⟨_, _, _, rfl, ⟨_, _, _, rfl, C_y.out.wide (by have := LXC.out; omega) C_y.out.toIn.le (Nat.le_refl _), H_y.out.wide (by have := LXH.out; omega) H_y.out.toIn.le (Nat.le_refl _), R_y.out.wide (by have := LXR.out; omega) R_y.out.toIn.le (Nat.le_refl _)⟩, HB_y.out⟩
      · go_simp
        go_at_call 91
        refine (o_nn (b + er) Q HA2.out.1 HA2.out.2 hgr.2.1.1 hgr.2.1.2 _).mono ?_
        rw [HZ2.out]
        rintro e' w' ⟨rfl, rfl⟩
        go_wp2_with fail
        refine hK.out _ _ (show _ from ⟨⟨G_sb.out.1, G_sb.out.2.1, G_sb.out.2.2⟩, ⟨V_sb.out.1, V_sb.out.2⟩, CR_sb.out.1, CR_sb.out.2⟩) (fun hHeld => ?_)
        clear hK K
        try simp only [Act.put, List.getElem_toArray, List.getElem_cons_succ, List.getElem_cons_zero, List.setIfInBounds_toArray, List.set_cons_zero, List.set_cons_succ]
        refine wpAnyH_ready (rs := [3, 24]) (by kernel_rfl) (by simp) ?_
        refine AllReadyH.cons rfl (fun K hK => ?_) (AllReadyH.cons rfl (fun K hK => ?_) (AllReadyH.nil))
        · go_simp
          have hb := ba Wqb (.cells #[.int .i64 e] 3)
          have HB_sbd := Lib.hid (bt HB_sb.out hb)
          have G_sbd := Lib.hid (G_sb.out.below hb)
          have V_sbd := Lib.hid (V_sb.out.below hb)
          have Z_sbd := Lib.hid (Z_sb.out.below hb)
          have CR_sbd := Lib.hid (CR_sb.out.below hb)
          have XC_sbd := Lib.hid (XC_sb.out.below hb)
          have XH_sbd := Lib.hid (show OwI Wqb.heap.size (Wqb.alloc (.cells #[.int .i64 e] 3)).heap.size (Wqb.alloc (.cells #[.int .i64 e] 3)) (.slice (some ⟨Wqb.heap.size, 0, none⟩) 1 1) [e] from owI_lit Wqb [e] (by simp))
          have LXH := Lib.hid (show w.heap.size + 2 < Wqb.heap.size from Z_sb.out.lt)
          clear hb
          refine hK.out _ _ (show _ from ⟨⟨G_sbd.out.1, G_sbd.out.2.1, G_sbd.out.2.2⟩, ⟨V_sbd.out.1, V_sbd.out.2⟩, CR_sbd.out.1, CR_sbd.out.2⟩) (fun hHeld => ?_)
          clear hK K
          try simp only [Act.put, List.getElem_toArray, List.getElem_cons_succ, List.getElem_cons_zero, List.setIfInBounds_toArray, List.set_cons_zero, List.set_cons_succ]
          generalize hW9 : Wqb.alloc (.cells #[.int .i64 e] 3) = Wqbd at *
          clear hW9
          refine wpAnyH_ready (rs := [24]) (by kernel_rfl) (by simp) ?_
          refine AllReadyH.cons rfl (fun K hK => ?_) (AllReadyH.nil)
          go_simp
          have hb := ba Wqbd (.cells #[.int .i64 z1, .int .i64 z2] 3)
          have HB_sbdy := Lib.hid (bt HB_sbd.out hb)
          have G_sbdy := Lib.hid (G_sbd.out.below hb)
          have V_sbdy := Lib.hid (V_sbd.out.below hb)
          have Z_sbdy := Lib.hid (Z_sbd.out.below hb)
          have CR_sbdy := Lib.hid (CR_sbd.out.below hb)
          have XC_sbdy := Lib.hid (XC_sbd.out.below hb)
          have XH_sbdy := Lib.hid (XH_sbd.out.below hb)
          have XR_sbdy := Lib.hid (show OwI Wqbd.heap.size (Wqbd.alloc (.cells #[.int .i64 z1, .int .i64 z2] 3)).heap.size (Wqbd.alloc (.cells #[.int .i64 z1, .int .i64 z2] 3)) (.slice (some ⟨Wqbd.heap.size, 0, none⟩) 2 2) [z1, z2] from owI_lit Wqbd [z1, z2] (by simp))
          have LXR := Lib.hid (show w.heap.size + 2 < Wqbd.heap.size from Z_sbd.out.lt)
          clear hb
          refine hK.out _ _ (show _ from ⟨⟨G_sbdy.out.1, G_sbdy.out.2.1, G_sbdy.out.2.2⟩, ⟨V_sbdy.out.1, V_sbdy.out.2⟩, CR_sbdy.out.1, CR_sbdy.out.2⟩) (fun hHeld => ?_)
          clear hK K
          try simp only [Act.put, List.getElem_toArray, List.getElem_cons_succ, List.getElem_cons_zero, List.setIfInBounds_toArray, List.set_cons_zero, List.set_cons_succ]
          generalize hW9 : Wqbd.alloc (.cells #[.int .i64 z1, .int .i64 z2] 3) = Wqbdy at *
          clear hW9
          refine wpAnyH_take (i := 25) (v := ?_) rfl (by kernel_rfl) (by kernel_rfl) (by kernel_rfl) (fun _ _ _ h => h) (Or.inl ⟨by kernel_rfl, ?_⟩) (by assumption) ?_
          rotate_left 1
          · intro w9 hSw
            try dsimp only at hSw
            go_simp
            try with_reducible rfl
          try simp only [Act.put, List.getElem_toArray, List.getElem_cons_succ, List.getElem_cons_zero, List.setIfInBounds_toArray, List.set_cons_zero, List.set_cons_succ]
          have hm5 := mid3 Wqbdy (w.heap.size + 2) (.slice (some ⟨Wq.heap.size, 0, none⟩) 1 1) (.slice (some ⟨Wqb.heap.size, 0, none⟩) 1 1) (.slice (some ⟨Wqbd.heap.size, 0, none⟩) 2 2)
          have hsz := hm5.size
          have G_y := Lib.hid (show GR _ w.heap.size P Q G from ⟨mid_cR hm5 G_sbdy.out.1 (by omega), mid_cR hm5 G_sbdy.out.2.1 (by omega), mid_cR hm5 G_sbdy.out.2.2 (by omega)⟩)
          have V_y := Lib.hid (show D2 _ (w.heap.size + 1) (.int .i64 H) (.slice ya hs.length yc) from ⟨mid_cR hm5 V_sbdy.out.1 (by omega), mid_cR hm5 V_sbdy.out.2 (by omega)⟩)
          have CR_y := Lib.hid (show CC _ rb ro a b from ⟨mid_cR hm5 CR_sbdy.out.1 (by have := HRB.out; omega), mid_cR hm5 CR_sbdy.out.2 (by have := HRB.out; omega)⟩)
          have C_y := Lib.hid (XC_sbdy.out.mid hm5 (.inr (by have := LXC.out; omega)))
          have H_y := Lib.hid (XH_sbdy.out.mid hm5 (.inr (by have := LXH.out; omega)))
          have R_y := Lib.hid (XR_sbdy.out.mid hm5 (.inr (by have := LXR.out; omega)))
          have HB_y := Lib.hid (HB_sbdy.out.trans (hm5.toBelow (by omega) HB_sbdy.out.size))
          clear hm5
          refine wpAnyH_ready (rs := [26]) (by kernel_rfl) (by simp) ?_
          refine AllReadyH.cons rfl (fun K hK => ?_) AllReadyH.nil
          obtain ⟨y0, y1, y2, yf⟩ := Z_sbdy.out
          have yf0 := yf 0
          have yf1 := yf 1
          have yf2 := yf 2
          clear yf
          go_simp
          refine hK.out _ _ (show _ from ⟨⟨G_y.out.1, G_y.out.2.1, G_y.out.2.2⟩, ⟨V_y.out.1, V_y.out.2⟩, CR_y.out.1, CR_y.out.2⟩) (fun hHeld => ?_)
          clear hK K
          try simp only [Act.put, List.getElem_toArray, List.getElem_cons_succ, List.getElem_cons_zero, List.setIfInBounds_toArray, List.set_cons_zero, List.set_cons_succ]
          refine wpAnyH_take (i := 27) (v := ?_) rfl (by kernel_rfl) (by kernel_rfl) (by kernel_rfl) (fun _ _ _ h => h) (Or.inl ⟨by kernel_rfl, ?_⟩) (by assumption) ?_
          rotate_left 1
          · intro w9 hSw
            try dsimp only at hSw
            go_simp
            try with_reducible rfl
          try simp only [Act.put, List.getElem_toArray, List.getElem_cons_succ, List.getElem_cons_zero, List.setIfInBounds_toArray, List.set_cons_zero, List.set_cons_succ]
          refine wpAnyH_done (by kernel_rfl) ?_ _
          go_wp2
          (try simp only [Exit.inBlock, Exit.then])
          refine bodyPost_ret (v := .tuple #[.agg #[.slice (some ⟨Wq.heap.size, 0, none⟩) 1 1, .slice (some ⟨Wqb.heap.size, 0, none⟩) 1 1, .slice (some ⟨Wqbd.heap.size, 0, none⟩) 2 2], .bool true]) ?_ rfl ?_
          · rw [results_cell_tmp rfl]; go_simp
          · exact ⟨_, _, _, rfl, ⟨_, _, _, rfl, C_y.out.wide (by have := LXC.out; omega) C_y.out.toIn.le (Nat.le_refl _), H_y.out.wide (by have := LXH.out; omega) H_y.out.toIn.le (Nat.le_refl _), R_y.out.wide (by have := LXR.out; omega) R_y.out.toIn.le (Nat.le_refl _)⟩, HB_y.out⟩
        · go_simp
          have hb := ba Wqb (.cells #[.int .i64 z1, .int .i64 z2] 3)
          have HB_sby := Lib.hid (bt HB_sb.out hb)
          have G_sby := Lib.hid (G_sb.out.below hb)
          have V_sby := Lib.hid (V_sb.out.below hb)
          have Z_sby := Lib.hid (Z_sb.out.below hb)
          have CR_sby := Lib.hid (CR_sb.out.below hb)
          have XC_sby := Lib.hid (XC_sb.out.below hb)
          have XR_sby := Lib.hid (show OwI Wqb.heap.size (Wqb.alloc (.cells #[.int .i64 z1, .int .i64 z2] 3)).heap.size (Wqb.alloc (.cells #[.int .i64 z1, .int .i64 z2] 3)) (.slice (some ⟨Wqb.heap.size, 0, none⟩) 2 2) [z1, z2] from owI_lit Wqb [z1, z2] (by simp))
          have LXR := Lib.hid (show w.heap.size + 2 < Wqb.heap.size from Z_sb.out.lt)
          clear hb
          refine hK.out _ _ (show _ from ⟨⟨G_sby.out.1, G_sby.out.2.1, G_sby.out.2.2⟩, ⟨V_sby.out.1, V_sby.out.2⟩, CR_sby.out.1, CR_sby.out.2⟩) (fun hHeld => ?_)
          clear hK K
          try simp only [Act.put, List.getElem_toArray, List.getElem_cons_succ, List.getElem_cons_zero, List.setIfInBounds_toArray, List.set_cons_zero, List.set_cons_succ]
          generalize hW9 : Wqb.alloc (.cells #[.int .i64 z1, .int .i64 z2] 3) = Wqby at *
          clear hW9
          refine wpAnyH_ready (rs := [3]) (by kernel_rfl) (by simp) ?_
          refine AllReadyH.cons rfl (fun K hK => ?_) (AllReadyH.nil)
          go_simp
          have hb := ba Wqby (.cells #[.int .i64 e] 3)
          have HB_sbyd := Lib.hid (bt HB_sby.out hb)
          have G_sbyd := Lib.hid (G_sby.out.below hb)
          have V_sbyd := Lib.hid (V_sby.out.below hb)
          have Z_sbyd := Lib.hid (Z_sby.out.below hb)
          have CR_sbyd := Lib.hid (CR_sby.out.below hb)
          have XC_sbyd := Lib.hid (XC_sby.out.below hb)
          have XR_sbyd := Lib.hid (XR_sby.out.below hb)
          have XH_sbyd := Lib.hid (show OwI Wqby.heap.size (Wqby.alloc (.cells #[.int .i64 e] 3)).heap.size (Wqby.alloc (.cells #[.int .i64 e] 3)) (.slice (some ⟨Wqby.heap.size, 0, none⟩) 1 1) [e] from owI_lit Wqby [e] (by simp))
          have LXH := Lib.hid (show w.heap.size + 2 < Wqby.heap.size from Z_sby.out.lt)
          clear hb
          refine hK.out _ _ (show _ from ⟨⟨G_sbyd.out.1, G_sbyd.out.2.1, G_sbyd.out.2.2⟩, ⟨V_sbyd.out.1, V_sbyd.out.2⟩, CR_sbyd.out.1, CR_sbyd.out.2⟩) (fun hHeld => ?_)
          clear hK K
          try simp only [Act.put, List.getElem_toArray, List.getElem_cons_succ, List.getElem_cons_zero, List.setIfInBounds_toArray, List.set_cons_zero, List.set_cons_succ]
          generalize hW9 : Wqby.alloc (.cells #[.int .i64 e] 3) = Wqbyd at *
          clear hW9
          refine wpAnyH_take (i := 25) (v := ?_) rfl (by kernel_rfl) (by kernel_rfl) (by kernel_rfl) (fun _ _ _ h => h) (Or.inl ⟨by kernel_rfl, ?_⟩) (by assumption) ?_
          rotate_left 1
          · intro w9 hSw
            try dsimp only at hSw
            go_simp
            try with_reducible rfl
          try simp only [Act.put, List.getElem_toArray, List.getElem_cons_succ, List.getElem_cons_zero, List.setIfInBounds_toArray, List.set_cons_zero, List.set_cons_succ]
          have hm5 := mid3 Wqbyd (w.heap.size + 2) (.slice (some ⟨Wq.heap.size, 0, none⟩) 1 1) (.slice (some ⟨Wqby.heap.size, 0, none⟩) 1 1) (.slice (some ⟨Wqb.heap.size, 0, none⟩) 2 2)
          have hsz := hm5.size
          have G_y := Lib.hid (show GR _ w.heap.size P Q G from ⟨mid_cR hm5 G_sbyd.out.1 (by omega), mid_cR hm5 G_sbyd.out.2.1 (by omega), mid_cR hm5 G_sbyd.out.2.2 (by omega)⟩)
          have V_y := Lib.hid (show D2 _ (w.heap.size + 1) (.int .i64 H) (.slice ya hs.length yc) from ⟨mid_cR hm5 V_sbyd.out.1 (by omega), mid_cR hm5 V_sbyd.out.2 (by omega)⟩)
          have CR_y := Lib.hid (show CC _ rb ro a b from ⟨mid_cR hm5 CR_sbyd.out.1 (by have := HRB.out; omega), mid_cR hm5 CR_sbyd.out.2 (by have := HRB.out; omega)⟩)
          have C_y := Lib.hid (XC_sbyd.out.mid hm5 (.inr (by have := LXC.out; omega)))
          have H_y := Lib.hid (XH_sbyd.out.mid hm5 (.inr (by have := LXH.out; omega)))
          have R_y := Lib.hid (XR_sbyd.out.mid hm5 (.inr (by have := LXR.out; omega)))
          have HB_y := Lib.hid (HB_sbyd.out.trans (hm5.toBelow (by omega) HB_sbyd.out.size))
          clear hm5
          refine wpAnyH_ready (rs := [26]) (by kernel_rfl) (by simp) ?_
          refine AllReadyH.cons rfl (fun K hK => ?_) AllReadyH.nil
          obtain ⟨y0, y1, y2, yf⟩ := Z_sbyd.out
          have yf0 := yf 0
          have yf1 := yf 1
          have yf2 := yf 2
          clear yf
          go_simp
          refine hK.out _ _ (show _ from ⟨⟨G_y.out.1, G_y.out.2.1, G_y.out.2.2⟩, ⟨V_y.out.1, V_y.out.2⟩, CR_y.out.1, CR_y.out.2⟩) (fun hHeld => ?_)
          clear hK K
          try simp only [Act.put, List.getElem_toArray, List.getElem_cons_succ, List.getElem_cons_zero, List.setIfInBounds_toArray, List.set_cons_zero, List.set_cons_succ]
          refine wpAnyH_take (i := 27) (v := ?_) rfl (by kernel_rfl) (by kernel_rfl) (by kernel_rfl) (fun _ _ _ h => h) (Or.inl ⟨by kernel_rfl, ?_⟩) (by assumption) ?_
          rotate_left 1
          · intro w9 hSw
            try dsimp only at hSw
            go_simp
            try with_reducible rfl
          try simp only [Act.put, List.getElem_toArray, List.getElem_cons_succ, List.getElem_cons_zero, List.setIfInBounds_toArray, List.set_cons_zero, List.set_cons_succ]
          refine wpAnyH_done (by kernel_rfl) ?_ _
          go_wp2
          (try simp only [Exit.inBlock, Exit.then])
          refine bodyPost_ret (v := .tuple #[.agg #[.slice (some ⟨Wq.heap.size, 0, none⟩) 1 1, .slice (some ⟨Wqby.heap.size, 0, none⟩) 1 1, .slice (some ⟨Wqb.heap.size, 0, none⟩) 2 2], .bool true]) ?_ rfl ?_
          · rw [results_cell_tmp rfl]; go_simp
          · exact ⟨_, _, _, rfl, ⟨_, _, _, rfl, C_y.out.wide (by have := LXC.out; omega) C_y.out.toIn.le (Nat.le_refl _), H_y.out.wide (by have := LXH.out; omega) H_y.out.toIn.le (Nat.le_refl _), R_y.out.wide (by have := LXR.out; omega) R_y.out.toIn.le (Nat.le_refl _)⟩, HB_y.out⟩
    · go_simp
      have hb := ba Wq (.cells #[.int .i64 e] 3)
      have HB_sd := Lib.hid (bt HB_s.out hb)
      have G_sd := Lib.hid (G_s.out.below hb)
      have V_sd := Lib.hid (V_s.out.below hb)
      have Z_sd := Lib.hid (Z_s.out.below hb)
      have CR_sd := Lib.hid (CR_s.out.below hb)
      have XH_sd := Lib.hid (show OwI Wq.heap.size (Wq.alloc (.cells #[.int .i64 e] 3)).heap.size (Wq.alloc (.cells #[.int .i64 e] 3)) (.slice (some ⟨Wq.heap.size, 0, none⟩) 1 1) [e] from owI_lit Wq [e] (by simp))
      have LXH := Lib.hid (show w.heap.size + 2 < Wq.heap.size from Z_s.out.lt)
      clear hb
      refine hK.out _ _ (show _ from ⟨⟨G_sd.out.1, G_sd.out.2.1, G_sd.out.2.2⟩, ⟨V_sd.out.1, V_sd.out.2⟩, CR_sd.out.1, CR_sd.out.2⟩) (fun hHeld => ?_)
      clear hK K
      try simp only [Act.put, List.getElem_toArray, List.getElem_cons_succ, List.getElem_cons_zero, List.setIfInBounds_toArray, List.set_cons_zero, List.set_cons_succ]
      generalize hW9 : Wq.alloc (.cells #[.int .i64 e] 3) = Wqd at *
      clear hW9
      refine wpAnyH_ready (rs := [1, 23]) (by kernel_rfl) (by simp) ?_
      refine AllReadyH.cons rfl (fun K hK => ?_) (AllReadyH.cons rfl (fun K hK => ?_) (AllReadyH.nil))
      · go_simp
        have hb := ba Wqd (.cells #[.int .i64 x] 3)
        have HB_sdb := Lib.hid (bt HB_sd.out hb)
        have G_sdb := Lib.hid (G_sd.out.below hb)
        have V_sdb := Lib.hid (V_sd.out.below hb)
        have Z_sdb := Lib.hid (Z_sd.out.below hb)
        have CR_sdb := Lib.hid (CR_sd.out.below hb)
        have XH_sdb := Lib.hid (XH_sd.out.below hb)
        have XC_sdb := Lib.hid (show OwI Wqd.heap.size (Wqd.alloc (.cells #[.int .i64 x] 3)).heap.size (Wqd.alloc (.cells #[.int .i64 x] 3)) (.slice (some ⟨Wqd.heap.size, 0, none⟩) 1 1) [x] from owI_lit Wqd [x] (by simp))
        have LXC := Lib.hid (show w.heap.size + 2 < Wqd.heap.size from Z_sd.out.lt)
        clear hb
        refine hK.out _ _ (show _ from ⟨⟨G_sdb.out.1, G_sdb.out.2.1, G_sdb.out.2.2⟩, ⟨V_sdb.out.1, V_sdb.out.2⟩, CR_sdb.out.1, CR_sdb.out.2⟩) (fun hHeld => ?_)
        clear hK K
        try simp only [Act.put, List.getElem_toArray, List.getElem_cons_succ, List.getElem_cons_zero, List.setIfInBounds_toArray, List.set_cons_zero, List.set_cons_succ]
        generalize hW9 : Wqd.alloc (.cells #[.int .i64 x] 3) = Wqdb at *
        clear hW9
        refine wpAnyH_ready (rs := [23]) (by kernel_rfl) (by simp) ?_
        refine AllReadyH.cons rfl (fun K hK => ?_) (AllReadyH.nil)
        go_simp
        go_at_call 91
        refine (o_nn (b + er) Q HA2.out.1 HA2.out.2 hgr.2.1.1 hgr.2.1.2 _).mono ?_
        rw [HZ2.out]
        rintro e' w' ⟨rfl, rfl⟩
        go_wp2_with fail
        refine hK.out _ _ (show _ from ⟨⟨G_sdb.out.1, G_sdb.out.2.1, G_sdb.out.2.2⟩, ⟨V_sdb.out.1, V_sdb.out.2⟩, CR_sdb.out.1, CR_sdb.out.2⟩) (fun hHeld => ?_)
        clear hK K
        try simp only [Act.put, List.getElem_toArray, List.getElem_cons_succ, List.getElem_cons_zero, List.setIfInBounds_toArray, List.set_cons_zero, List.set_cons_succ]
        refine wpAnyH_ready (rs := [24]) (by kernel_rfl) (by simp) ?_
        refine AllReadyH.cons rfl (fun K hK => ?_) (AllReadyH.nil)
        go_simp
        have hb := ba Wqdb (.cells #[.int .i64 z1, .int .i64 z2] 3)
        have HB_sdby := Lib.hid (bt HB_sdb.out hb)
        have G_sdby := Lib.hid (G_sdb.out.below hb)
        have V_sdby := Lib.hid (V_sdb.out.below hb)
        have Z_sdby := Lib.hid (Z_sdb.out.below hb)
        have CR_sdby := Lib.hid (CR_sdb.out.below hb)
        have XH_sdby := Lib.hid (XH_sdb.out.below hb)
        have XC_sdby := Lib.hid (XC_sdb.out.below hb)
        have XR_sdby := Lib.hid (show OwI Wqdb.heap.size (Wqdb.alloc (.cells #[.int .i64 z1, .int .i64 z2] 3)).heap.size (Wqdb.alloc (.cells #[.int .i64 z1, .int .i64 z2] 3)) (.slice (some ⟨Wqdb.heap.size, 0, none⟩) 2 2) [z1, z2] from owI_lit Wqdb [z1, z2] (by simp))
        have LXR := Lib.hid (show w.heap.size + 2 < Wqdb.heap.size from Z_sdb.out.lt)
        clear hb
        refine hK.out _ _ (show _ from ⟨⟨G_sdby.out.1, G_sdby.out.2.1, G_sdby.out.2.2⟩, ⟨V_sdby.out.1, V_sdby.out.2⟩, CR_sdby.out.1, CR_sdby.out.2⟩) (fun hHeld => ?_)
        clear hK K
        try simp only [Act.put, List.getElem_toArray, List.getElem_cons_succ, List.getElem_cons_zero, List.setIfInBounds_toArray, List.set_cons_zero, List.set_cons_succ]
        generalize hW9 : Wqdb.alloc (.cells #[.int .i64 z1, .int .i64 z2] 3) = Wqdby at *
        clear hW9
        refine wpAnyH_take (i := 25) (v := ?_) rfl (by kernel_rfl) (by kernel_rfl) (by kernel_rfl) (fun _ _ _ h => h) (Or.inl ⟨by kernel_rfl, ?_⟩) (by assumption) ?_
        rotate_left 1
        · intro w9 hSw
          try dsimp only at hSw
          go_simp
          try with_reducible rfl
        try simp only [Act.put, List.getElem_toArray, List.getElem_cons_succ, List.getElem_cons_zero, List.setIfInBounds_toArray, List.set_cons_zero, List.set_cons_succ]
        have hm5 := mid3 Wqdby (w.heap.size + 2) (.slice (some ⟨Wqd.heap.size, 0, none⟩) 1 1) (.slice (some ⟨Wq.heap.size, 0, none⟩) 1 1) (.slice (some ⟨Wqdb.heap.size, 0, none⟩) 2 2)
        have hsz := hm5.size
        have G_y := Lib.hid (show GR _ w.heap.size P Q G from ⟨mid_cR hm5 G_sdby.out.1 (by omega), mid_cR hm5 G_sdby.out.2.1 (by omega), mid_cR hm5 G_sdby.out.2.2 (by omega)⟩)
        have V_y := Lib.hid (show D2 _ (w.heap.size + 1) (.int .i64 H) (.slice ya hs.length yc) from ⟨mid_cR hm5 V_sdby.out.1 (by omega), mid_cR hm5 V_sdby.out.2 (by omega)⟩)
        have CR_y := Lib.hid (show CC _ rb ro a b from ⟨mid_cR hm5 CR_sdby.out.1 (by have := HRB.out; omega), mid_cR hm5 CR_sdby.out.2 (by have := HRB.out; omega)⟩)
        have C_y := Lib.hid (XC_sdby.out.mid hm5 (.inr (by have := LXC.out; omega)))
        have H_y := Lib.hid (XH_sdby.out.mid hm5 (.inr (by have := LXH.out; omega)))
        have R_y := Lib.hid (XR_sdby.out.mid hm5 (.inr (by have := LXR.out; omega)))
        have HB_y := Lib.hid (HB_sdby.out.trans (hm5.toBelow (by omega) HB_sdby.out.size))
        clear hm5
        refine wpAnyH_ready (rs := [26]) (by kernel_rfl) (by simp) ?_
        refine AllReadyH.cons rfl (fun K hK => ?_) AllReadyH.nil
        obtain ⟨y0, y1, y2, yf⟩ := Z_sdby.out
        have yf0 := yf 0
        have yf1 := yf 1
        have yf2 := yf 2
        clear yf
        go_simp
        refine hK.out _ _ (show _ from ⟨⟨G_y.out.1, G_y.out.2.1, G_y.out.2.2⟩, ⟨V_y.out.1, V_y.out.2⟩, CR_y.out.1, CR_y.out.2⟩) (fun hHeld => ?_)
        clear hK K
        try simp only [Act.put, List.getElem_toArray, List.getElem_cons_succ, List.getElem_cons_zero, List.setIfInBounds_toArray, List.set_cons_zero, List.set_cons_succ]
        refine wpAnyH_take (i := 27) (v := ?_) rfl (by kernel_rfl) (by kernel_rfl) (by kernel_rfl) (fun _ _ _ h => h) (Or.inl ⟨by kernel_rfl, ?_⟩) (by assumption) ?_
        rotate_left 1
        · intro w9 hSw
          try dsimp only at hSw
          go_simp
          try with_reducible rfl
        try simp only [Act.put, List.getElem_toArray, List.getElem_cons_succ, List.getElem_cons_zero, List.setIfInBounds_toArray, List.set_cons_zero, List.set_cons_succ]
        refine wpAnyH_done (by kernel_rfl) ?_ _
        go_wp2
        (try simp only [Exit.inBlock, Exit.then])
        refine bodyPost_ret (v := .tuple #[.agg #[.slice (some ⟨Wqd.heap.size, 0, none⟩) 1 1, .slice (some ⟨Wq.heap.size, 0, none⟩) 1 1, .slice (some ⟨Wqdb.heap.size, 0, none⟩) 2 2], .bool true]) ?_ rfl ?_
        · rw [results_cell_tmp rfl]; go_simp
        · exact ⟨_, _, _, rfl, ⟨_, _, _, rfl, C_y.out.wide (by have := LXC.out; omega) C_y.out.toIn.le (Nat.le_refl _), H_y.out.wide (by have := LXH.out; omega) H_y.out.toIn.le (Nat.le_refl _), R_y.out.wide (by have := LXR.out; omega) R_y.out.toIn.le (Nat.le_refl _)⟩, HB_y.out⟩
      · go_simp
        go_at_call 91
        refine (o_nn (b + er) Q HA2.out.1 HA2.out.2 hgr.2.1.1 hgr.2.1.2 _).mono ?_
        rw [HZ2.out]
        rintro e' w' ⟨rfl, rfl⟩
        go_wp2_with fail
        refine hK.out _ _ (show _ from ⟨⟨G_sd.out.1, G_sd.out.2.1, G_sd.out.2.2⟩, ⟨V_sd.out.1, V_sd.out.2⟩, CR_sd.out.1, CR_sd.out.2⟩) (fun hHeld => ?_)
        clear hK K
        try simp only [Act.put, List.getElem_toArray, List.getElem_cons_succ, List.getElem_cons_zero, List.setIfInBounds_toArray, List.set_cons_zero, List.set_cons_succ]
        refine wpAnyH_ready (rs := [1, 24]) (by kernel_rfl) (by simp) ?_
        refine AllReadyH.cons rfl (fun K hK => ?_) (AllReadyH.cons rfl (fun K hK => ?_) (AllReadyH.nil))
        · go_simp
          have hb := ba Wqd (.cells #[.int .i64 x] 3)
          have HB_sdb := Lib.hid (bt HB_sd.out hb)
          have G_sdb := Lib.hid (G_sd.out.below hb)
          have V_sdb := Lib.hid (V_sd.out.below hb)
          have Z_sdb := Lib.hid (Z_sd.out.below hb)
          have CR_sdb := Lib.hid (CR_sd.out.below hb)
          have XH_sdb := Lib.hid (XH_sd.out.below hb)
          have XC_sdb := Lib.hid (show OwI Wqd.heap.size (Wqd.alloc (.cells #[.int .i64 x] 3)).heap.size (Wqd.alloc (.cells #[.int .i64 x] 3)) (.slice (some ⟨Wqd.heap.size, 0, none⟩) 1 1) [x] from owI_lit Wqd [x] (by simp))
          have LXC := Lib.hid (show w.heap.size + 2 < Wqd.heap.size from Z_sd.out.lt)
          clear hb
          refine hK.out _ _ (show _ from ⟨⟨G_sdb.out.1, G_sdb.out.2.1, G_sdb.out.2.2⟩, ⟨V_sdb.out.1, V_sdb.out.2⟩, CR_sdb.out.1, CR_sdb.out.2⟩) (fun hHeld => ?_)
          clear hK K
          try simp only [Act.put, List.getElem_toArray, List.getElem_cons_succ, List.getElem_cons_zero, List.setIfInBounds_toArray, List.set_cons_zero, List.set_cons_succ]
          generalize hW9 : Wqd.alloc (.cells #[.int .i64 x] 3) = Wqdb at *
          clear hW9
          refine wpAnyH_ready (rs := [24]) (by kernel_rfl) (by simp) ?_
          refine AllReadyH.cons rfl (fun K hK => ?_) (AllReadyH.nil)
          go_simp
          have hb := ba Wqdb (.cells #[.int .i64 z1, .int .i64 z2] 3)
          have HB_sdby := Lib.hid (bt HB_sdb.out hb)
          have G_sdby := Lib.hid (G_sdb.out.below hb)
          have V_sdby := Lib.hid (V_sdb.out.below hb)
          have Z_sdby := Lib.hid (Z_sdb.out.below hb)
          have CR_sdby := Lib.hid (CR_sdb.out.below hb)
          have XH_sdby := Lib.hid (XH_sdb.out.below hb)
          have XC_sdby := Lib.hid (XC_sdb.out.below hb)
          have XR_sdby := Lib.hid (show OwI Wqdb.heap.size (Wqdb.alloc (.cells #[.int .i64 z1, .int .i64 z2] 3)).heap.size (Wqdb.alloc (.cells #[.int .i64 z1, .int .i64 z2] 3)) (.slice (some ⟨Wqdb.heap.size, 0, none⟩) 2 2) [z1, z2] from owI_lit Wqdb [z1, z2] (by simp))
          have LXR := Lib.hid (show w.heap.size + 2 < Wqdb.heap.size from Z_sdb.out.lt)
          clear hb
          refine hK.out _ _ (show _ from ⟨⟨G_sdby.out.1, G_sdby.out.2.1, G_sdby.out.2.2⟩, ⟨V_sdby.out.1, V_sdby.out.2⟩, CR_sdby.out.1, CR_sdby.out.2⟩) (fun hHeld => ?_)
          clear hK K
          try simp only [Act.put, List.getElem_toArray, List.getElem_cons_succ, List.getElem_cons_zero, List.setIfInBounds_toArray, List.set_cons_zero, List.set_cons_succ]
          generalize hW9 : Wqdb.alloc (.cells #[.int .i64 z1, .int .i64 z2] 3) = Wqdby at *
          clear hW9
          refine wpAnyH_take (i := 25) (v := ?_) rfl (by kernel_rfl) (by kernel_rfl) (by kernel_rfl) (fun _ _ _ h => h) (Or.inl ⟨by kernel_rfl, ?_⟩) (by assumption) ?_
          rotate_left 1
          · intro w9 hSw
            try dsimp only at hSw
            go_simp
            try with_reducible rfl
          try simp only [Act.put, List.getElem_toArray, List.getElem_cons_succ, List.getElem_cons_zero, List.setIfInBounds_toArray, List.set_cons_zero, List.set_cons_succ]
          have hm5 := mid3 Wqdby (w.heap.size + 2) (.slice (some ⟨Wqd.heap.size, 0, none⟩) 1 1) (.slice (some ⟨Wq.heap.size, 0, none⟩) 1 1) (.slice (some ⟨Wqdb.heap.size, 0, none⟩) 2 2)
          have hsz := hm5.size
          have G_y := Lib.hid (show GR _ w.heap.size P Q G from ⟨mid_cR hm5 G_sdby.out.1 (by omega), mid_cR hm5 G_sdby.out.2.1 (by omega), mid_cR hm5 G_sdby.out.2.2 (by omega)⟩)
          have V_y := Lib.hid (show D2 _ (w.heap.size + 1) (.int .i64 H) (.slice ya hs.length yc) from ⟨mid_cR hm5 V_sdby.out.1 (by omega), mid_cR hm5 V_sdby.out.2 (by omega)⟩)
          have CR_y := Lib.hid (show CC _ rb ro a b from ⟨mid_cR hm5 CR_sdby.out.1 (by have := HRB.out; omega), mid_cR hm5 CR_sdby.out.2 (by have := HRB.out; omega)⟩)
          have C_y := Lib.hid (XC_sdby.out.mid hm5 (.inr (by have := LXC.out; omega)))
          have H_y := Lib.hid (XH_sdby.out.mid hm5 (.inr (by have := LXH.out; omega)))
          have R_y := Lib.hid (XR_sdby.out.mid hm5 (.inr (by have := LXR.out; omega)))
          have HB_y := Lib.hid (HB_sdby.out.trans (hm5.toBelow (by omega) HB_sdby.out.size))
          clear hm5
          refine wpAnyH_ready (rs := [26]) (by kernel_rfl) (by simp) ?_
          refine AllReadyH.cons rfl (fun K hK => ?_) AllReadyH.nil
          obtain ⟨y0, y1, y2, yf⟩ := Z_sdby.out
          have yf0 := yf 0
          have yf1 := yf 1
          have yf2 := yf 2
          clear yf
          go_simp
          refine hK.out _ _ (show _ from ⟨⟨G_y.out.1, G_y.out.2.1, G_y.out.2.2⟩, ⟨V_y.out.1, V_y.out.2⟩, CR_y.out.1, CR_y.out.2⟩) (fun hHeld => ?_)
          clear hK K
          try simp only [Act.put, List.getElem_toArray, List.getElem_cons_succ, List.getElem_cons_zero, List.setIfInBounds_toArray, List.set_cons_zero, List.set_cons_succ]
          refine wpAnyH_take (i := 27) (v := ?_) rfl (by kernel_rfl) (by kernel_rfl) (by kernel_rfl) (fun _ _ _ h => h) (Or.inl ⟨by kernel_rfl, ?_⟩) (by assumption) ?_
          rotate_left 1
          · intro w9 hSw
            try dsimp only at hSw
            go_simp
            try with_reducible rfl
          try simp only [Act.put, List.getElem_toArray, List.getElem_cons_succ, List.getElem_cons_zero, List.setIfInBounds_toArray, List.set_cons_zero, List.set_cons_succ]
          refine wpAnyH_done (by kernel_rfl) ?_ _
          go_wp2
          (try simp only [Exit.inBlock, Exit.then])
          refine bodyPost_ret (v := .tuple #[.agg #[.slice (some ⟨Wqd.heap.size, 0, none⟩) 1 1, .slice (some ⟨Wq.heap.size, 0, none⟩) 1 1, .slice (some ⟨Wqdb.heap.size, 0, none⟩) 2 2], .bool true]) ?_ rfl ?_
          · rw [results_cell_tmp rfl]; go_simp
          · exact ⟨_, _, _, rfl, ⟨_, _, _, rfl, C_y.out.wide (by have := LXC.out; omega) C_y.out.toIn.le (Nat.le_refl _), H_y.out.wide (by have := LXH.out; omega) H_y.out.toIn.le (Nat.le_refl _), R_y.out.wide (by have := LXR.out; omega) R_y.out.toIn.le (Nat.le_refl _)⟩, HB_y.out⟩
        · go_simp
          have hb := ba Wqd (.cells #[.int .i64 z1, .int .i64 z2] 3)
          have HB_sdy := Lib.hid (bt HB_sd.out hb)
          have G_sdy := Lib.hid (G_sd.out.below hb)
          have V_sdy := Lib.hid (V_sd.out.below hb)
          have Z_sdy := Lib.hid (Z_sd.out.below hb)
          have CR_sdy := Lib.hid (CR_sd.out.below hb)
          have XH_sdy := Lib.hid (XH_sd.out.below hb)
          have XR_sdy := Lib.hid (show OwI Wqd.heap.size (Wqd.alloc (.cells #[.int .i64 z1, .int .i64 z2] 3)).heap.size (Wqd.alloc (.cells #[.int .i64 z1, .int .i64 z2] 3)) (.slice (some ⟨Wqd.heap.size, 0, none⟩) 2 2) [z1, z2] from owI_lit Wqd [z1, z2] (by simp))
          have LXR := Lib.hid (show w.heap.size + 2 < Wqd.heap.size from Z_sd.out.lt)
          clear hb
          refine hK.out _ _ (show _ from ⟨⟨G_sdy.out.1, G_sdy.out.2.1, G_sdy.out.2.2⟩, ⟨V_sdy.out.1, V_sdy.out.2⟩, CR_sdy.out.1, CR_sdy.out.2⟩) (fun hHeld => ?_)
          clear hK K
          try simp only [Act.put, List.getElem_toArray, List.getElem_cons_succ, List.getElem_cons_zero, List.setIfInBounds_toArray, List.set_cons_zero, List.set_cons_succ]
          generalize hW9 : Wqd.alloc (.cells #[.int .i64 z1, .int .i64 z2] 3) = Wqdy at *
          clear hW9
          refine wpAnyH_ready (rs := [1]) (by kernel_rfl) (by simp) ?_
          refine AllReadyH.cons rfl (fun K hK => ?_) (AllReadyH.nil)
          go_simp
          have hb := ba Wqdy (.cells #[.int .i64 x] 3)
          have HB_sdyb := Lib.hid (bt HB_sdy.out hb)
          have G_sdyb := Lib.hid (G_sdy.out.below hb)
          have V_sdyb := Lib.hid (V_sdy.out.below hb)
          have Z_sdyb := Lib.hid (Z_sdy.out.below hb)
          have CR_sdyb := Lib.hid (CR_sdy.out.below hb)
          have XH_sdyb := Lib.hid (XH_sdy.out.below hb)
          have XR_sdyb := Lib.hid (XR_sdy.out.below hb)
          have XC_sdyb := Lib.hid (show OwI Wqdy.heap.size (Wqdy.alloc (.cells #[.int .i64 x] 3)).heap.size (Wqdy.alloc (.cells #[.int .i64 x] 3)) (.slice (some ⟨Wqdy.heap.size, 0, none⟩) 1 1) [x] from owI_lit Wqdy [x] (by simp))
          have LXC := Lib.hid (show w.heap.size + 2 < Wqdy.heap.size from Z_sdy.out.lt)
          clear hb
          refine hK.out _ _ (show _ from ⟨⟨G_sdyb.out.1, G_sdyb.out.2.1, G_sdyb.out.2.2⟩, ⟨V_sdyb.out.1, V_sdyb.out.2⟩, CR_sdyb.out.1, CR_sdyb.out.2⟩) (fun hHeld => ?_)
          clear hK K
          try simp only [Act.put, List.getElem_toArray, List.getElem_cons_succ, List.getElem_cons_zero, List.setIfInBounds_toArray, List.set_cons_zero, List.set_cons_succ]
          generalize hW9 : Wqdy.alloc (.cells #[.int .i64 x] 3) = Wqdyb at *
          clear hW9
          refine wpAnyH_take (i := 25) (v := ?_) rfl (by kernel_rfl) (by kernel_rfl) (by kernel_rfl) (fun _ _ _ h => h) (Or.inl ⟨by kernel_rfl, ?_⟩) (by assumption) ?_
          rotate_left 1
          · intro w9 hSw
            try dsimp only at hSw
            go_simp
            try with_reducible rfl
          try simp only [Act.put, List.getElem_toArray, List.getElem_cons_succ, List.getElem_cons_zero, List.setIfInBounds_toArray, List.set_cons_zero, List.set_cons_succ]
          have hm5 := mid3 Wqdyb (w.heap.size + 2) (.slice (some ⟨Wqdy.heap.size, 0, none⟩) 1 1) (.slice (some ⟨Wq.heap.size, 0, none⟩) 1 1) (.slice (some ⟨Wqd.heap.size, 0, none⟩) 2 2)
          have hsz := hm5.size
          have G_y := Lib.hid (show GR _ w.heap.size P Q G from ⟨mid_cR hm5 G_sdyb.out.1 (by omega), mid_cR hm5 G_sdyb.out.2.1 (by omega), mid_cR hm5 G_sdyb.out.2.2 (by omega)⟩)
          have V_y := Lib.hid (show D2 _ (w.heap.size + 1) (.int .i64 H) (.slice ya hs.length yc) from ⟨mid_cR hm5 V_sdyb.out.1 (by omega), mid_cR hm5 V_sdyb.out.2 (by omega)⟩)
          have CR_y := Lib.hid (show CC _ rb ro a b from ⟨mid_cR hm5 CR_sdyb.out.1 (by have := HRB.out; omega), mid_cR hm5 CR_sdyb.out.2 (by have := HRB.out; omega)⟩)
          have C_y := Lib.hid (XC_sdyb.out.mid hm5 (.inr (by have := LXC.out; omega)))
          have H_y := Lib.hid (XH_sdyb.out.mid hm5 (.inr (by have := LXH.out; omega)))
          have R_y := Lib.hid (XR_sdyb.out.mid hm5 (.inr (by have := LXR.out; omega)))
          have HB_y := Lib.hid (HB_sdyb.out.trans (hm5.toBelow (by omega) HB_sdyb.out.size))
          clear hm5
          refine wpAnyH_ready (rs := [26]) (by kernel_rfl) (by simp) ?_
          refine AllReadyH.cons rfl (fun K hK => ?_) AllReadyH.nil
          obtain ⟨y0, y1, y2, yf⟩ := Z_sdyb.out
          have yf0 := yf 0
          have yf1 := yf 1
          have yf2 := yf 2
          clear yf
          go_simp
          refine hK.out _ _ (show _ from ⟨⟨G_y.out.1, G_y.out.2.1, G_y.out.2.2⟩, ⟨V_y.out.1, V_y.out.2⟩, CR_y.out.1, CR_y.out.2⟩) (fun hHeld => ?_)
          clear hK K
          try simp only [Act.put, List.getElem_toArray, List.getElem_cons_succ, List.getElem_cons_zero, List.setIfInBounds_toArray, List.set_cons_zero, List.set_cons_succ]
          refine wpAnyH_take (i := 27) (v := ?_) rfl (by kernel_rfl) (by kernel_rfl) (by kernel_rfl) (fun _ _ _ h => h) (Or.inl ⟨by kernel_rfl, ?_⟩) (by assumption) ?_
          rotate_left 1
          · intro w9 hSw
            try dsimp only at hSw
            go_simp
            try with_reducible rfl
          try simp only [Act.put, List.getElem_toArray, List.getElem_cons_succ, List.getElem_cons_zero, List.setIfInBounds_toArray, List.set_cons_zero, List.set_cons_succ]
          refine wpAnyH_done (by kernel_rfl) ?_ _
          go_wp2
          (try simp only [Exit.inBlock, Exit.then])
          refine bodyPost_ret (v := .tuple #[.agg #[.slice (some ⟨Wqdy.heap.size, 0, none⟩) 1 1, .slice (some ⟨Wq.heap.size, 0, none⟩) 1 1, .slice (some ⟨Wqd.heap.size, 0, none⟩) 2 2], .bool true]) ?_ rfl ?_
          · rw [results_cell_tmp rfl]; go_simp
          · exact ⟨_, _, _, rfl, ⟨_, _, _, rfl, C_y.out.wide (by have := LXC.out; omega) C_y.out.toIn.le (Nat.le_refl _), H_y.out.wide (by have := LXH.out; omega) H_y.out.toIn.le (Nat.le_refl _), R_y.out.wide (by have := LXR.out; omega) R_y.out.toIn.le (Nat.le_refl _)⟩, HB_y.out⟩
    · go_simp
      go_at_call 91
      refine (o_nn (b + er) Q HA2.out.1 HA2.out.2 hgr.2.1.1 hgr.2.1.2 _).mono ?_
      rw [HZ2.out]
      rintro e' w' ⟨rfl, rfl⟩
      go_wp2_with fail
      refine hK.out _ _ (show _ from ⟨⟨G_s.out.1, G_s.out.2.1, G_s.out.2.2⟩, ⟨V_s.out.1, V_s.out.2⟩, CR_s.out.1, CR_s.out.2⟩) (fun hHeld => ?_)
      clear hK K
      try simp only [Act.put, List.getElem_toArray, List.getElem_cons_succ, List.getElem_cons_zero, List.setIfInBounds_toArray, List.set_cons_zero, List.set_cons_succ]
      refine wpAnyH_ready (rs := [1, 3, 24]) (by kernel_rfl) (by simp) ?_
      refine AllReadyH.cons rfl (fun K hK => ?_) (AllReadyH.cons rfl (fun K hK => ?_) (AllReadyH.cons rfl (fun K hK => ?_) (AllReadyH.nil)))
      · go_simp
        have hb := ba Wq (.cells #[.int .i64 x] 3)
        have HB_sb := Lib.hid (bt HB_s.out hb)
        have G_sb := Lib.hid (G_s.out.below hb)
        have V_sb := Lib.hid (V_s.out.below hb)
        have Z_sb := Lib.hid (Z_s.out.below hb)
        have CR_sb := Lib.hid (CR_s.out.below hb)
        have XC_sb := Lib.hid (show OwI Wq.heap.size (Wq.alloc (.cells #[.int .i64 x] 3)).heap.size (Wq.alloc (.cells #[.int .i64 x] 3)) (.slice (some ⟨Wq.heap.size, 0, none⟩) 1 1) [x] from owI_lit Wq [x] (by simp))
        have LXC := Lib.hid (show w.heap.size + 2 < Wq.heap.size from Z_s.out.lt)
        clear hb
        refine hK.out _ _ (show _ from ⟨⟨G_sb.out.1, G_sb.out.2.1, G_sb.out.2.2⟩, ⟨V_sb.out.1, V_sb.out.2⟩, CR_sb.out.1, CR_sb.out.2⟩) (fun hHeld => ?_)
        clear hK K
        try simp only [Act.put, List.getElem_toArray, List.getElem_cons_succ, List.getElem_cons_zero, List.setIfInBounds_toArray, List.set_cons_zero, List.set_cons_succ]
        generalize hW9 : Wq.alloc (.cells #[.int .i64 x] 3) = Wqb at *
        clear hW9
        refine wpAnyH_ready (rs := [3, 24]) (by kernel_rfl) (by simp) ?_
        refine AllReadyH.cons rfl (fun K hK => ?_) (AllReadyH.cons rfl (fun K hK => ?_) (AllReadyH.nil))
        · go_simp
          have hb := ba Wqb (.cells #[.int .i64 e] 3)
          have HB_sbd := Lib.hid (bt HB_sb.out hb)
          have G_sbd := Lib.hid (G_sb.out.below hb)
          have V_sbd := Lib.hid (V_sb.out.below hb)
          have Z_sbd := Lib.hid (Z_sb.out.below hb)
          have CR_sbd := Lib.hid (CR_sb.out.below hb)
          have XC_sbd := Lib.hid (XC_sb.out.below hb)
          have XH_sbd := Lib.hid (show OwI Wqb.heap.size (Wqb.alloc (.cells #[.int .i64 e] 3)).heap.size (Wqb.alloc (.cells #[.int .i64 e] 3)) (.slice (some ⟨Wqb.heap.size, 0, none⟩) 1 1) [e] from owI_lit Wqb [e] (by simp))
          have LXH := Lib.hid (show w.heap.size + 2 < Wqb.heap.size from Z_sb.out.lt)
          clear hb
          refine hK.out _ _ (show _ from ⟨⟨G_sbd.out.1, G_sbd.out.2.1, G_sbd.out.2.2⟩, ⟨V_sbd.out.1, V_sbd.out.2⟩, CR_sbd.out.1, CR_sbd.out.2⟩) (fun hHeld => ?_)
          clear hK K
          try simp only [Act.put, List.getElem_toArray, List.getElem_cons_succ, List.getElem_cons_zero, List.setIfInBounds_toArray, List.set_cons_zero, List.set_cons_succ]
          generalize hW9 : Wqb.alloc (.cells #[.int .i64 e] 3) = Wqbd at *
          clear hW9
          refine wpAnyH_ready (rs := [24]) (by kernel_rfl) (by simp) ?_
          refine AllReadyH.cons rfl (fun K hK => ?_) (AllReadyH.nil)
          go_simp
          have hb := ba Wqbd (.cells #[.int .i64 z1, .int .i64 z2] 3)
          have HB_sbdy := Lib.hid (bt HB_sbd.out hb)
          have G_sbdy := Lib.hid (G_sbd.out.below hb)
          have V_sbdy := Lib.hid (V_sbd.out.below hb)
          have Z_sbdy := Lib.hid (Z_sbd.out.below hb)
          have CR_sbdy := Lib.hid (CR_sbd.out.below hb)
          have XC_sbdy := Lib.hid (XC_sbd.out.below hb)
          have XH_sbdy := Lib.hid (XH_sbd.out.below hb)
          have XR_sbdy := Lib.hid (show OwI Wqbd.heap.size (Wqbd.alloc (.cells #[.int .i64 z1, .int .i64 z2] 3)).heap.size (Wqbd.alloc (.cells #[.int .i64 z1, .int .i64 z2] 3)) (.slice (some ⟨Wqbd.heap.size, 0, none⟩) 2 2) [z1, z2] from owI_lit Wqbd [z1, z2] (by simp))
          have LXR := Lib.hid (show w.heap.size + 2 < Wqbd.heap.size from Z_sbd.out.lt)
          clear hb
          refine hK.out _ _ (show _ from ⟨⟨G_sbdy.out.1, G_sbdy.out.2.1, G_sbdy.out.2.2⟩, ⟨V_sbdy.out.1, V_sbdy.out.2⟩, CR_sbdy.out.1, CR_sbdy.out.2⟩) (fun hHeld => ?_)
          clear hK K
          try simp only [Act.put, List.getElem_toArray, List.getElem_cons_succ, List.getElem_cons_zero, List.setIfInBounds_toArray, List.set_cons_zero, List.set_cons_succ]
          generalize hW9 : Wqbd.alloc (.cells #[.int .i64 z1, .int .i64 z2] 3) = Wqbdy at *
          clear hW9
          refine wpAnyH_take (i := 25) (v := ?_) rfl (by kernel_rfl) (by kernel_rfl) (by kernel_rfl) (fun _ _ _ h => h) (Or.inl ⟨by kernel_rfl, ?_⟩) (by assumption) ?_
          rotate_left 1
          · intro w9 hSw
            try dsimp only at hSw
            go_simp
            try with_reducible rfl
          try simp only [Act.put, List.getElem_toArray, List.getElem_cons_succ, List.getElem_cons_zero, List.setIfInBounds_toArray, List.set_cons_zero, List.set_cons_succ]
          have hm5 := mid3 Wqbdy (w.heap.size + 2) (.slice (some ⟨Wq.heap.size, 0, none⟩) 1 1) (.slice (some ⟨Wqb.heap.size, 0, none⟩) 1 1) (.slice (some ⟨Wqbd.heap.size, 0, none⟩) 2 2)
          have hsz := hm5.size
          have G_y := Lib.hid (show GR _ w.heap.size P Q G from ⟨mid_cR hm5 G_sbdy.out.1 (by omega), mid_cR hm5 G_sbdy.out.2.1 (by omega), mid_cR hm5 G_sbdy.out.2.2 (by omega)⟩)
          have V_y := Lib.hid (show D2 _ (w.heap.size + 1) (.int .i64 H) (.slice ya hs.length yc) from ⟨mid_cR hm5 V_sbdy.out.1 (by omega), mid_cR hm5 V_sbdy.out.2 (by omega)⟩)
          have CR_y := Lib.hid (show CC _ rb ro a b from ⟨mid_cR hm5 CR_sbdy.out.1 (by have := HRB.out; omega), mid_cR hm5 CR_sbdy.out.2 (by have := HRB.out; omega)⟩)
          have C_y := Lib.hid (XC_sbdy.out.mid hm5 (.inr (by have := LXC.out; omega)))
          have H_y := Lib.hid (XH_sbdy.out.mid hm5 (.inr (by have := LXH.out; omega)))
          have R_y := Lib.hid (XR_sbdy.out.mid hm5 (.inr (by have := LXR.out; omega)))
          have HB_y := Lib.hid (HB_sbdy.out.trans (hm5.toBelow (by omega) HB_sbdy.out.size))
          clear hm5
          refine wpAnyH_ready (rs := [26]) (by kernel_rfl) (by simp) ?_
          refine AllReadyH.cons rfl (fun K hK => ?_) AllReadyH.nil
          obtain ⟨y0, y1, y2, yf⟩ := Z_sbdy.out
          have yf0 := yf 0
          have yf1 := yf 1
          have yf2 := yf 2
          clear yf
          go_simp
          refine hK.out _ _ (show _ from ⟨⟨G_y.out.1, G_y.out.2.1, G_y.out.2.2⟩, ⟨V_y.out.1, V_y.out.2⟩, CR_y.out.1, CR_y.out.2⟩) (fun hHeld => ?_)
          clear hK K
          try simp only [Act.put, List.getElem_toArray, List.getElem_cons_succ, List.getElem_cons_zero, List.setIfInBounds_toArray, List.set_cons_zero, List.set_cons_succ]
          refine wpAnyH_take (i := 27) (v := ?_) rfl (by kernel_rfl) (by kernel_rfl) (by kernel_rfl) (fun _ _ _ h => h) (Or.inl ⟨by kernel_rfl, ?_⟩) (by assumption) ?_
          rotate_left 1
          · intro w9 hSw
            try dsimp only at hSw
            go_simp
            try with_reducible rfl
          try simp only [Act.put, List.getElem_toArray, List.getElem_cons_succ, List.getElem_cons_zero, List.setIfInBounds_toArray, List.set_cons_zero, List.set_cons_succ]
          refine wpAnyH_done (by kernel_rfl) ?_ _
          go_wp2
          (try simp only [Exit.inBlock, Exit.then])
          refine bodyPost_ret (v := .tuple #[.agg #[.slice (some ⟨Wq.heap.size, 0, none⟩) 1 1, .slice (some ⟨Wqb.heap.size, 0, none⟩) 1 1, .slice (some ⟨Wqbd.heap.size, 0, none⟩) 2 2], .bool true]) ?_ rfl ?_
          · rw [results_cell_tmp rfl]; go_simp
          · exact ⟨_, _, _, rfl, ⟨_, _, _, rfl, C_y.out.wide (by have := LXC.out; omega) C_y.out.toIn.le (Nat.le_refl _), H_y.out.wide (by have := LXH.out; omega) H_y.out.toIn.le (Nat.le_refl _), R_y.out.wide (by have := LXR.out; omega) R_y.out.toIn.le (Nat.le_refl _)⟩, HB_y.out⟩
        · go_simp
          have hb := ba Wqb (.cells #[.int .i64 z1, .int .i64 z2] 3)
          have HB_sby := Lib.hid (bt HB_sb.out hb)
          have G_sby := Lib.hid (G_sb.out.below hb)
          have V_sby := Lib.hid (V_sb.out.below hb)
          have Z_sby := Lib.hid (Z_sb.out.below hb)
          have CR_sby := Lib.hid (CR_sb.out.below hb)
          have XC_sby := Lib.hid (XC_sb.out.below hb)
          have XR_sby := Lib.hid (show OwI Wqb.heap.size (Wqb.alloc (.cells #[.int .i64 z1, .int .i64 z2] 3)).heap.size (Wqb.alloc (.cells #[.int .i64 z1, .int .i64 z2] 3)) (.slice (some ⟨Wqb.heap.size, 0, none⟩) 2 2) [z1, z2] from owI_lit Wqb [z1, z2] (by simp))
          have LXR := Lib.hid (show w.heap.size + 2 < Wqb.heap.size from Z_sb.out.lt)
          clear hb
          refine hK.out _ _ (show _ from ⟨⟨G_sby.out.1, G_sby.out.2.1, G_sby.out.2.2⟩, ⟨V_sby.out.1, V_sby.out.2⟩, CR_sby.out.1, CR_sby.out.2⟩) (fun hHeld => ?_)
          clear hK K
          try simp only [Act.put, List.getElem_toArray, List.getElem_cons_succ, List.getElem_cons_zero, List.setIfInBounds_toArray, List.set_cons_zero, List.set_cons_succ]
          generalize hW9 : Wqb.alloc (.cells #[.int .i64 z1, .int .i64 z2] 3) = Wqby at *
          clear hW9
          refine wpAnyH_ready (rs := [3]) (by kernel_rfl) (by simp) ?_
          refine AllReadyH.cons rfl (fun K hK => ?_) (AllReadyH.nil)
          go_simp
          have hb := ba Wqby (.cells #[.int .i64 e] 3)
          have HB_sbyd := Lib.hid (bt HB_sby.out hb)
          have G_sbyd := Lib.hid (G_sby.out.below hb)
          have V_sbyd := Lib.hid (V_sby.out.below hb)
          have Z_sbyd := Lib.hid (Z_sby.out.below hb)
          have CR_sbyd := Lib.hid (CR_sby.out.below hb)
          have XC_sbyd := Lib.hid (XC_sby.out.below hb)
          have XR_sbyd := Lib.hid (XR_sby.out.below hb)
          have XH_sbyd := Lib.hid (show OwI Wqby.heap.size (Wqby.alloc (.cells #[.int .i64 e] 3)).heap.size (Wqby.alloc (.cells #[.int .i64 e] 3)) (.slice (some ⟨Wqby.heap.size, 0, none⟩) 1 1) [e] from owI_lit Wqby [e] (by simp))
          have LXH := Lib.hid (show w.heap.size + 2 < Wqby.heap.size from Z_sby.out.lt)
          clear hb
          refine hK.out _ _ (show _ from ⟨⟨G_sbyd.out.1, G_sbyd.out.2.1, G_sbyd.out.2.2⟩, ⟨V_sbyd.out.1, V_sbyd.out.2⟩, CR_sbyd.out.1, CR_sbyd.out.2⟩) (fun hHeld => ?_)
          clear hK K
          try simp only [Act.put, List.getElem_toArray, List.getElem_cons_succ, List.getElem_cons_zero, List.setIfInBounds_toArray, List.set_cons_zero, List.set_cons_succ]
          generalize hW9 : Wqby.alloc (.cells #[.int .i64 e] 3) = Wqbyd at *
          clear hW9
          refine wpAnyH_take (i := 25) (v := ?_) rfl (by kernel_rfl) (by kernel_rfl) (by kernel_rfl) (fun _ _ _ h => h) (Or.inl ⟨by kernel_rfl, ?_⟩) (by assumption) ?_
          rotate_left 1
          · intro w9 hSw
            try dsimp only at hSw
            go_simp
            try with_reducible rfl
          try simp only [Act.put, List.getElem_toArray, List.getElem_cons_succ, List.getElem_cons_zero, List.setIfInBounds_toArray, List.set_cons_zero, List.set_cons_succ]
          have hm5 := mid3 Wqbyd (w.heap.size + 2) (.slice (some ⟨Wq.heap.size, 0, none⟩) 1 1) (.slice (some ⟨Wqby.heap.size, 0, none⟩) 1 1) (.slice (some ⟨Wqb.heap.size, 0, none⟩) 2 2)
          have hsz := hm5.size
          have G_y := Lib.hid (show GR _ w.heap.size P Q G from ⟨mid_cR hm5 G_sbyd.out.1 (by omega), mid_cR hm5 G_sbyd.out.2.1 (by omega), mid_cR hm5 G_sbyd.out.2.2 (by omega)⟩)
          have V_y := Lib.hid (show D2 _ (w.heap.size + 1) (.int .i64 H) (.slice ya hs.length yc) from ⟨mid_cR hm5 V_sbyd.out.1 (by omega), mid_cR hm5 V_sbyd.out.2 (by omega)⟩)
          have CR_y := Lib.hid (show CC _ rb ro a b from ⟨mid_cR hm5 CR_sbyd.out.1 (by have := HRB.out; omega), mid_cR hm5 CR_sbyd.out.2 (by have := HRB.out; omega)⟩)
          have C_y := Lib.hid (XC_sbyd.out.mid hm5 (.inr (by have := LXC.out; omega)))
          have H_y := Lib.hid (XH_sbyd.out.mid hm5 (.inr (by have := LXH.out; omega)))
          have R_y := Lib.hid (XR_sbyd.out.mid hm5 (.inr (by have := LXR.out; omega)))
          have HB_y := Lib.hid (HB_sbyd.out.trans (hm5.toBelow (by omega) HB_sbyd.out.size))
          clear hm5
          refine wpAnyH_ready (rs := [26]) (by kernel_rfl) (by simp) ?_
          refine AllReadyH.cons rfl (fun K hK => ?_) AllReadyH.nil
          obtain ⟨y0, y1, y2, yf⟩ := Z_sbyd.out
          have yf0 := yf 0
          have yf1 := yf 1
          have yf2 := yf 2
          clear yf
          go_simp
          refine hK.out _ _ (show _ from ⟨⟨G_y.out.1, G_y.out.2.1, G_y.out.2.2⟩, ⟨V_y.out.1, V_y.out.2⟩, CR_y.out.1, CR_y.out.2⟩) (fun hHeld => ?_)
          clear hK K
          try simp only [Act.put, List.getElem_toArray, List.getElem_cons_succ, List.getElem_cons_zero, List.setIfInBounds_toArray, List.set_cons_zero, List.set_cons_succ]
          refine wpAnyH_take (i := 27) (v := ?_) rfl (by kernel_rfl) (by kernel_rfl) (by kernel_rfl) (fun _ _ _ h => h) (Or.inl ⟨by kernel_rfl, ?_⟩) (by assumption) ?_
          rotate_left 1
          · intro w9 hSw
            try dsimp only at hSw
            go_simp
            try with_reducible rfl
          try simp only [Act.put, List.getElem_toArray, List.getElem_cons_succ, List.getElem_cons_zero, List.setIfInBounds_toArray, List.set_cons_zero, List.set_cons_succ]
          refine wpAnyH_done (by kernel_rfl) ?_ _
          go_wp2
          (try simp only [Exit.inBlock, Exit.then])
          refine bodyPost_ret (v := .tuple #[.agg #[.slice (some ⟨Wq.heap.size, 0, none⟩) 1 1, .slice (some ⟨Wqby.heap.size, 0, none⟩) 1 1, .slice (some ⟨Wqb.heap.size, 0, none⟩) 2 2], .bool true]) ?_ rfl ?_
          · rw [results_cell_tmp rfl]; go_simp
          · exact ⟨_, _, _, rfl, ⟨_, _, _, rfl, C_y.out.wide (by have := LXC.out; omega) C_y.out.toIn.le (Nat.le_refl _), H_y.out.wide (by have := LXH.out; omega) H_y.out.toIn.le (Nat.le_refl _), R_y.out.wide (by have := LXR.out; omega) R_y.out.toIn.le (Nat.le_refl _)⟩, HB_y.out⟩
      · go_simp
        have hb := ba Wq (.cells #[.int .i64 e] 3)
        have HB_sd := Lib.hid (bt HB_s.out hb)
        have G_sd := Lib.hid (G_s.out.below hb)
        have V_sd := Lib.hid (V_s.out.below hb)
        have Z_sd := Lib.hid (Z_s.out.below hb)
        have CR_sd := Lib.hid (CR_s.out.below hb)
        have XH_sd := Lib.hid (show OwI Wq.heap.size (Wq.alloc (.cells #[.int .i64 e] 3)).heap.size (Wq.alloc (.cells #[.int .i64 e] 3)) (.slice (some ⟨Wq.heap.size, 0, none⟩) 1 1) [e] from owI_lit Wq [e] (by simp))
        have LXH := Lib.hid (show w.heap.size + 2 < Wq.heap.size from Z_s.out.lt)
        clear hb
        refine hK.out _ _ (show _ from ⟨⟨G_sd.out.1, G_sd.out.2.1, G_sd.out.2.2⟩, ⟨V_sd.out.1, V_sd.out.2⟩, CR_sd.out.1, CR_sd.out.2⟩) (fun hHeld => ?_)
        clear hK K
        try simp only [Act.put, List.getElem_toArray, List.getElem_cons_succ, List.getElem_cons_zero, List.setIfInBounds_toArray, List.set_cons_zero, List.set_cons_succ]
        generalize hW9 : Wq.alloc (.cells #[.int .i64 e] 3) = Wqd at *
        clear hW9
        refine wpAnyH_ready (rs := [1, 24]) (by kernel_rfl) (by simp) ?_
        refine AllReadyH.cons rfl (fun K hK => ?_) (AllReadyH.cons rfl (fun K hK => ?_) (AllReadyH.nil))
        · go_simp
          have hb := ba Wqd (.cells #[.int .i64 x] 3)
          have HB_sdb := Lib.hid (bt HB_sd.out hb)
          have G_sdb := Lib.hid (G_sd.out.below hb)
          have V_sdb := Lib.hid (V_sd.out.below hb)
          have Z_sdb := Lib.hid (Z_sd.out.below hb)
          have CR_sdb := Lib.hid (CR_sd.out.below hb)
          have XH_sdb := Lib.hid (XH_sd.out.below hb)
          have XC_sdb := Lib.hid (show OwI Wqd.heap.size (Wqd.alloc (.cells #[.int .i64 x] 3)).heap.size (Wqd.alloc (.cells #[.int .i64 x] 3)) (.slice (some ⟨Wqd.heap.size, 0, none⟩) 1 1) [x] from owI_lit Wqd [x] (by simp))
          have LXC := Lib.hid (show w.heap.size + 2 < Wqd.heap.size from Z_sd.out.lt)
          clear hb
          refine hK.out _ _ (show _ from ⟨⟨G_sdb.out.1, G_sdb.out.2.1, G_sdb.out.2.2⟩, ⟨V_sdb.out.1, V_sdb.out.2⟩, CR_sdb.out.1, CR_sdb.out.2⟩) (fun hHeld => ?_)
          clear hK K
          try simp only [Act.put, List.getElem_toArray, List.getElem_cons_succ, List.getElem_cons_zero, List.setIfInBounds_toArray, List.set_cons_zero, List.set_cons_succ]
          generalize hW9 : Wqd.alloc (.cells #[.int .i64 x] 3) = Wqdb at *
          clear hW9
          refine wpAnyH_ready (rs := [24]) (by kernel_rfl) (by simp) ?_
          refine AllReadyH.cons rfl (fun K hK => ?_) (AllReadyH.nil)
          go_simp
          have hb := ba Wqdb (.cells #[.int .i64 z1, .int .i64 z2] 3)
          have HB_sdby := Lib.hid (bt HB_sdb.out hb)
          have G_sdby := Lib.hid (G_sdb.out.below hb)
          have V_sdby := Lib.hid (V_sdb.out.below hb)
          have Z_sdby := Lib.hid (Z_sdb.out.below hb)
          have CR_sdby := Lib.hid (CR_sdb.out.below hb)
          have XH_sdby := Lib.hid (XH_sdb.out.below hb)
          have XC_sdby := Lib.hid (XC_sdb.out.below hb)
          have XR_sdby := Lib.hid (show OwI Wqdb.heap.size (Wqdb.alloc (.cells #[.int .i64 z1, .int .i64 z2] 3)).heap.size (Wqdb.alloc (.cells #[.int .i64 z1, .int .i64 z2] 3)) (.slice (some ⟨Wqdb.heap.size, 0, none⟩) 2 2) [z1, z2] from owI_lit Wqdb [z1, z2] (by simp))
          have LXR := Lib.hid (show w.heap.size + 2 < Wqdb.heap.size from Z_sdb.out.lt)
          clear hb
          refine hK.out _ _ (show _ from ⟨⟨G_sdby.out.1, G_sdby.out.2.1, G_sdby.out.2.2⟩, ⟨V_sdby.out.1, V_sdby.out.2⟩, CR_sdby.out.1, CR_sdby.out.2⟩) (fun hHeld => ?_)
          clear hK K
          try simp only [Act.put, List.getElem_toArray, List.getElem_cons_succ, List.getElem_cons_zero, List.setIfInBounds_toArray, List.set_cons_zero, List.set_cons_succ]
          generalize hW9 : Wqdb.alloc (.cells #[.int .i64 z1, .int .i64 z2] 3) = Wqdby at *
          clear hW9
          refine wpAnyH_take (i := 25) (v := ?_) rfl (by kernel_rfl) (by kernel_rfl) (by kernel_rfl) (fun _ _ _ h => h) (Or.inl ⟨by kernel_rfl, ?_⟩) (by assumption) ?_
          rotate_left 1
          · intro w9 hSw
            try dsimp only at hSw
            go_simp
            try with_reducible rfl
          try simp only [Act.put, List.getElem_toArray, List.getElem_cons_succ, List.getElem_cons_zero, List.setIfInBounds_toArray, List.set_cons_zero, List.set_cons_succ]
          have hm5 := mid3 Wqdby (w.heap.size + 2) (.slice (some ⟨Wqd.heap.size, 0, none⟩) 1 1) (.slice (some ⟨Wq.heap.size, 0, none⟩) 1 1) (.slice (some ⟨Wqdb.heap.size, 0, none⟩) 2 2)
          have hsz := hm5.size
          have G_y := Lib.hid (show GR _ w.heap.size P Q G from ⟨mid_cR hm5 G_sdby.out.1 (by omega), mid_cR hm5 G_sdby.out.2.1 (by omega), mid_cR hm5 G_sdby.out.2.2 (by omega)⟩)
          have V_y := Lib.hid (show D2 _ (w.heap.size + 1) (.int .i64 H) (.slice ya hs.length yc) from ⟨mid_cR hm5 V_sdby.out.1 (by omega), mid_cR hm5 V_sdby.out.2 (by omega)⟩)
          have CR_y := Lib.hid (show CC _ rb ro a b from ⟨mid_cR hm5 CR_sdby.out.1 (by have := HRB.out; omega), mid_cR hm5 CR_sdby.out.2 (by have := HRB.out; omega)⟩)
          have C_y := Lib.hid (XC_sdby.out.mid hm5 (.inr (by have := LXC.out; omega)))
          have H_y := Lib.hid (XH_sdby.out.mid hm5 (.inr (by have := LXH.out; omega)))
          have R_y := Lib.hid (XR_sdby.out.mid hm5 (.inr (by have := LXR.out; omega)))
          have HB_y := Lib.hid (HB_sdby.out.trans (hm5.toBelow (by omega) HB_sdby.out.size))
          clear hm5
          refine wpAnyH_ready (rs := [26]) (by kernel_rfl) (by simp) ?_
          refine AllReadyH.cons rfl (fun K hK => ?_) AllReadyH.nil
          obtain ⟨y0, y1, y2, yf⟩ := Z_sdby.out
          have yf0 := yf 0
          have yf1 := yf 1
          have yf2 := yf 2
          clear yf
          go_simp
          refine hK.out _ _ (show _ from ⟨⟨G_y.out.1, G_y.out.2.1, G_y.out.2.2⟩, ⟨V_y.out.1, V_y.out.2⟩, CR_y.out.1, CR_y.out.2⟩) (fun hHeld => ?_)
          clear hK K
          try simp only [Act.put, List.getElem_toArray, List.getElem_cons_succ, List.getElem_cons_zero, List.setIfInBounds_toArray, List.set_cons_zero, List.set_cons_succ]
          refine wpAnyH_take (i := 27) (v := ?_) rfl (by kernel_rfl) (by kernel_rfl) (by kernel_rfl) (fun _ _ _ h => h) (Or.inl ⟨by kernel_rfl, ?_⟩) (by assumption) ?_
          rotate_left 1
          · intro w9 hSw
            try dsimp only at hSw
            go_simp
            try with_reducible rfl
          try simp only [Act.put, List.getElem_toArray, List.getElem_cons_succ, List.getElem_cons_zero, List.setIfInBounds_toArray, List.set_cons_zero, List.set_cons_succ]
          refine wpAnyH_done (by kernel_rfl) ?_ _
          go_wp2
          (try simp only [Exit.inBlock, Exit.then])
          refine bodyPost_ret (v := .tuple #[.agg #[.slice (some ⟨Wqd.heap.size, 0, none⟩) 1 1, .slice (some ⟨Wq.heap.size, 0, none⟩) 1 1, .slice (some ⟨Wqdb.heap.size, 0, none⟩) 2 2], .bool true]) ?_ rfl ?_
          · rw [results_cell_tmp rfl]; go_simp
          · exact ⟨_, _, _, rfl, ⟨_, _, _, rfl, C_y.out.wide (by have := LXC.out; omega) C_y.out.toIn.le (Nat.le_refl _), H_y.out.wide (by have := LXH.out; omega) H_y.out.toIn.le (Nat.le_refl _), R_y.out.wide (by have := LXR.out; omega) R_y.out.toIn.le (Nat.le_refl _)⟩, HB_y.out⟩
        · go_simp
          have hb := ba Wqd (.cells #[.int .i64 z1, .int .i64 z2] 3)
          have HB_sdy := Lib.hid (bt HB_sd.out hb)
          have G_sdy := Lib.hid (G_sd.out.below hb)
          have V_sdy := Lib.hid (V_sd.out.below hb)
          have Z_sdy := Lib.hid (Z_sd.out.below hb)
          have CR_sdy := Lib.hid (CR_sd.out.below hb)
          have XH_sdy := Lib.hid (XH_sd.out.below hb)
          have XR_sdy := Lib.hid (show OwI Wqd.heap.size (Wqd.alloc (.cells #[.int .i64 z1, .int .i64 z2] 3)).heap.size (Wqd.alloc (.cells #[.int .i64 z1, .int .i64 z2] 3)) (.slice (some ⟨Wqd.heap.size, 0, none⟩) 2 2) [z1, z2] from owI_lit Wqd [z1, z2] (by simp))
          have LXR := Lib.hid (show w.heap.size + 2 < Wqd.heap.size from Z_sd.out.lt)
          clear hb
          refine hK.out _ _ (show _ from ⟨⟨G_sdy.out.1, G_sdy.out.2.1, G_sdy.out.2.2⟩, ⟨V_sdy.out.1, V_sdy.out.2⟩, CR_sdy.out.1, CR_sdy.out.2⟩) (fun hHeld => ?_)
          clear hK K
          try simp only [Act.put, List.getElem_toArray, List.getElem_cons_succ, List.getElem_cons_zero, List.setIfInBounds_toArray, List.set_cons_zero, List.set_cons_succ]
          generalize hW9 : Wqd.alloc (.cells #[.int .i64 z1, .int .i64 z2] 3) = Wqdy at *
          clear hW9
          refine wpAnyH_ready (rs := [1]) (by kernel_rfl) (by simp) ?_
          refine AllReadyH.cons rfl (fun K hK => ?_) (AllReadyH.nil)
          go_simp
          have hb := ba Wqdy (.cells #[.int .i64 x] 3)
          have HB_sdyb := Lib.hid (bt HB_sdy.out hb)
          have G_sdyb := Lib.hid (G_sdy.out.below hb)
          have V_sdyb := Lib.hid (V_sdy.out.below hb)
          have Z_sdyb := Lib.hid (Z_sdy.out.below hb)
          have CR_sdyb := Lib.hid (CR_sdy.out.below hb)
          have XH_sdyb := Lib.hid (XH_sdy.out.below hb)
          have XR_sdyb := Lib.hid (XR_sdy.out.below hb)
          have XC_sdyb := Lib.hid (show OwI Wqdy.heap.size (Wqdy.alloc (.cells #[.int .i64 x] 3)).heap.size (Wqdy.alloc (.cells #[.int .i64 x] 3)) (.slice (some ⟨Wqdy.heap.size, 0, none⟩) 1 1) [x] from owI_lit Wqdy [x] (by simp))
          have LXC := Lib.hid (show w.heap.size + 2 < Wqdy.heap.size from Z_sdy.out.lt)
          clear hb
          refine hK.out _ _ (show _ from ⟨⟨G_sdyb.out.1, G_sdyb.out.2.1, G_sdyb.out.2.2⟩, ⟨V_sdyb.out.1, V_sdyb.out.2⟩, CR_sdyb.out.1, CR_sdyb.out.2⟩) (fun hHeld => ?_)
          clear hK K
          try simp only [Act.put, List.getElem_toArray, List.getElem_cons_succ, List.getElem_cons_zero, List.setIfInBounds_toArray, List.set_cons_zero, List.set_cons_succ]
          generalize hW9 : Wqdy.alloc (.cells #[.int .i64 x] 3) = Wqdyb at *
          clear hW9
          refine wpAnyH_take (i := 25) (v := ?_) rfl (by kernel_rfl) (by kernel_rfl) (by kernel_rfl) (fun _ _ _ h => h) (Or.inl ⟨by kernel_rfl, ?_⟩) (by assumption) ?_
          rotate_left 1
          · intro w9 hSw
            try dsimp only at hSw
            go_simp
            try with_reducible rfl
          try simp only [Act.put, List.getElem_toArray, List.getElem_cons_succ, List.getElem_cons_zero, List.setIfInBounds_toArray, List.set_cons_zero, List.set_cons_succ]
          have hm5 := mid3 Wqdyb (w.heap.size + 2) (.slice (some ⟨Wqdy.heap.size, 0, none⟩) 1 1) (.slice (some ⟨Wq.heap.size, 0, none⟩) 1 1) (.slice (some ⟨Wqd.heap.size, 0, none⟩) 2 2)
          have hsz := hm5.size
          have G_y := Lib.hid (show GR _ w.heap.size P Q G from ⟨mid_cR hm5 G_sdyb.out.1 (by omega), mid_cR hm5 G_sdyb.out.2.1 (by omega), mid_cR hm5 G_sdyb.out.2.2 (by omega)⟩)
          have V_y := Lib.hid (show D2 _ (w.heap.size + 1) (.int .i64 H) (.slice ya hs.length yc) from ⟨mid_cR hm5 V_sdyb.out.1 (by omega), mid_cR hm5 V_sdyb.out.2 (by omega)⟩)
          have CR_y := Lib.hid (show CC _ rb ro a b from ⟨mid_cR hm5 CR_sdyb.out.1 (by have := HRB.out; omega), mid_cR hm5 CR_sdyb.out.2 (by have := HRB.out; omega)⟩)
          have C_y := Lib.hid (XC_sdyb.out.mid hm5 (.inr (by have := LXC.out; omega)))
          have H_y := Lib.hid (XH_sdyb.out.mid hm5 (.inr (by have := LXH.out; omega)))
          have R_y := Lib.hid (XR_sdyb.out.mid hm5 (.inr (by have := LXR.out; omega)))
          have HB_y := Lib.hid (HB_sdyb.out.trans (hm5.toBelow (by omega) HB_sdyb.out.size))
          clear hm5
          refine wpAnyH_ready (rs := [26]) (by kernel_rfl) (by simp) ?_
          refine AllReadyH.cons rfl (fun K hK => ?_) AllReadyH.nil
          obtain ⟨y0, y1, y2, yf⟩ := Z_sdyb.out
          have yf0 := yf 0
          have yf1 := yf 1
          have yf2 := yf 2
          clear yf
          go_simp
          refine hK.out _ _ (show _ from ⟨⟨G_y.out.1, G_y.out.2.1, G_y.out.2.2⟩, ⟨V_y.out.1, V_y.out.2⟩, CR_y.out.1, CR_y.out.2⟩) (fun hHeld => ?_)
          clear hK K
          try simp only [Act.put, List.getElem_toArray, List.getElem_cons_succ, List.getElem_cons_zero, List.setIfInBounds_toArray, List.set_cons_zero, List.set_cons_succ]
          refine wpAnyH_take (i := 27) (v := ?_) rfl (by kernel_rfl) (by kernel_rfl) (by kernel_rfl) (fun _ _ _ h => h) (Or.inl ⟨by kernel_rfl, ?_⟩) (by assumption) ?_
          rotate_left 1
          · intro w9 hSw
            try dsimp only at hSw
            go_simp
            try with_reducible rfl
          try simp only [Act.put, List.getElem_toArray, List.getElem_cons_succ, List.getElem_cons_zero, List.setIfInBounds_toArray, List.set_cons_zero, List.set_cons_succ]
          refine wpAnyH_done (by kernel_rfl) ?_ _
          go_wp2
          (try simp only [Exit.inBlock, Exit.then])
          refine bodyPost_ret (v := .tuple #[.agg #[.slice (some ⟨Wqdy.heap.size, 0, none⟩) 1 1, .slice (some ⟨Wq.heap.size, 0, none⟩) 1 1, .slice (some ⟨Wqd.heap.size, 0, none⟩) 2 2], .bool true]) ?_ rfl ?_
          · rw [results_cell_tmp rfl]; go_simp
          · exact ⟨_, _, _, rfl, ⟨_, _, _, rfl, C_y.out.wide (by have := LXC.out; omega) C_y.out.toIn.le (Nat.le_refl _), H_y.out.wide (by have := LXH.out; omega) H_y.out.toIn.le (Nat.le_refl _), R_y.out.wide (by have := LXR.out; omega) R_y.out.toIn.le (Nat.le_refl _)⟩, HB_y.out⟩
      · go_simp
        have hb := ba Wq (.cells #[.int .i64 z1, .int .i64 z2] 3)
        have HB_sy := Lib.hid (bt HB_s.out hb)
        have G_sy := Lib.hid (G_s.out.below hb)
        have V_sy := Lib.hid (V_s.out.below hb)
        have Z_sy := Lib.hid (Z_s.out.below hb)
        have CR_sy := Lib.hid (CR_s.out.below hb)
        have XR_sy := Lib.hid (show OwI Wq.heap.size (Wq.alloc (.cells #[.int .i64 z1, .int .i64 z2] 3)).heap.size (Wq.alloc (.cells #[.int .i64 z1, .int .i64 z2] 3)) (.slice (some ⟨Wq.heap.size, 0, none⟩) 2 2) [z1, z2] from owI_lit Wq [z1, z2] (by simp))
        have LXR := Lib.hid (show w.heap.size + 2 < Wq.heap.size from Z_s.out.lt)
        clear hb
        refine hK.out _ _ (show _ from ⟨⟨G_sy.out.1, G_sy.out.2.1, G_sy.out.2.2⟩, ⟨V_sy.out.1, V_sy.out.2⟩, CR_sy.out.1, CR_sy.out.2⟩) (fun hHeld => ?_)
        clear hK K
        try simp only [Act.put, List.getElem_toArray, List.getElem_cons_succ, List.getElem_cons_zero, List.setIfInBounds_toArray, List.set_cons_zero, List.set_cons_succ]
        generalize hW9 : Wq.alloc (.cells #[.int .i64 z1, .int .i64 z2] 3) = Wqy at *
        clear hW9
        refine wpAnyH_ready (rs := [1, 3]) (by kernel_rfl) (by simp) ?_
        refine AllReadyH.cons rfl (fun K hK => ?_) (AllReadyH.cons rfl (fun K hK => ?_) (AllReadyH.nil))
        · go_simp
          have hb := ba Wqy (.cells #[.int .i64 x] 3)
          have HB_syb := Lib.hid (bt HB_sy.out hb)
          have G_syb := Lib.hid (G_sy.out.below hb)
          have V_syb := Lib.hid (V_sy.out.below hb)
          have Z_syb := Lib.hid (Z_sy.out.below hb)
          have CR_syb := Lib.hid (CR_sy.out.below hb)
          have XR_syb := Lib.hid (XR_sy.out.below hb)
          have XC_syb := Lib.hid (show OwI Wqy.heap.size (Wqy.alloc (.cells #[.int .i64 x] 3)).heap.size (Wqy.alloc (.cells #[.int .i64 x] 3)) (.slice (some ⟨Wqy.heap.size, 0, none⟩) 1 1) [x] from owI_lit Wqy [x] (by simp))
          have LXC := Lib.hid (show w.heap.size + 2 < Wqy.heap.size from Z_sy.out.lt)
          clear hb
          refine hK.out _ _ (show _ from ⟨⟨G_syb.out.1, G_syb.out.2.1, G_syb.out.2.2⟩, ⟨V_syb.out.1, V_syb.out.2⟩, CR_syb.out.1, CR_syb.out.2⟩) (fun hHeld => ?_)
          clear hK K
          try simp only [Act.put, List.getElem_toArray, List.getElem_cons_succ, List.getElem_cons_zero, List.setIfInBounds_toArray, List.set_cons_zero, List.set_cons_succ]
          generalize hW9 : Wqy.alloc (.cells #[.int .i64 x] 3) = Wqyb at *
          clear hW9
          refine wpAnyH_ready (rs := [3]) (by kernel_rfl) (by simp) ?_
          refine AllReadyH.cons rfl (fun K hK => ?_) (AllReadyH.nil)
          go_simp
          have hb := ba Wqyb (.cells #[.int .i64 e] 3)
          have HB_sybd := Lib.hid (bt HB_syb.out hb)
          have G_sybd := Lib.hid (G_syb.out.below hb)
          have V_sybd := Lib.hid (V_syb.out.below hb)
          have Z_sybd := Lib.hid (Z_syb.out.below hb)
          have CR_sybd := Lib.hid (CR_syb.out.below hb)
          have XR_sybd := Lib.hid (XR_syb.out.below hb)
          have XC_sybd := Lib.hid (XC_syb.out.below hb)
          have XH_sybd := Lib.hid (show OwI Wqyb.heap.size (Wqyb.alloc (.cells #[.int .i64 e] 3)).heap.size (Wqyb.alloc (.cells #[.int .i64 e] 3)) (.slice (some ⟨Wqyb.heap.size, 0, none⟩) 1 1) [e] from owI_lit Wqyb [e] (by simp))
          have LXH := Lib.hid (show w.heap.size + 2 < Wqyb.heap.size from Z_syb.out.lt)
          clear hb
          refine hK.out _ _ (show _ from ⟨⟨G_sybd.out.1, G_sybd.out.2.1, G_sybd.out.2.2⟩, ⟨V_sybd.out.1, V_sybd.out.2⟩, CR_sybd.out.1, CR_sybd.out.2⟩) (fun hHeld => ?_)
          clear hK K
          try simp only [Act.put, List.getElem_toArray, List.getElem_cons_succ, List.getElem_cons_zero, List.setIfInBounds_toArray, List.set_cons_zero, List.set_cons_succ]
          generalize hW9 : Wqyb.alloc (.cells #[.int .i64 e] 3) = Wqybd at *
          clear hW9
          refine wpAnyH_take (i := 25) (v := ?_) rfl (by kernel_rfl) (by kernel_rfl) (by kernel_rfl) (fun _ _ _ h => h) (Or.inl ⟨by kernel_rfl, ?_⟩) (by assumption) ?_
          rotate_left 1
          · intro w9 hSw
            try dsimp only at hSw
            go_simp
            try with_reducible rfl
          try simp only [Act.put, List.getElem_toArray, List.getElem_cons_succ, List.getElem_cons_zero, List.setIfInBounds_toArray, List.set_cons_zero, List.set_cons_succ]
          have hm5 := mid3 Wqybd (w.heap.size + 2) (.slice (some ⟨Wqy.heap.size, 0, none⟩) 1 1) (.slice (some ⟨Wqyb.heap.size, 0, none⟩) 1 1) (.slice (some ⟨Wq.heap.size, 0, none⟩) 2 2)
          have hsz := hm5.size
          have G_y := Lib.hid (show GR _ w.heap.size P Q G from ⟨mid_cR hm5 G_sybd.out.1 (by omega), mid_cR hm5 G_sybd.out.2.1 (by omega), mid_cR hm5 G_sybd.out.2.2 (by omega)⟩)
          have V_y := Lib.hid (show D2 _ (w.heap.size + 1) (.int .i64 H) (.slice ya hs.length yc) from ⟨mid_cR hm5 V_sybd.out.1 (by omega), mid_cR hm5 V_sybd.out.2 (by omega)⟩)
          have CR_y := Lib.hid (show CC _ rb ro a b from ⟨mid_cR hm5 CR_sybd.out.1 (by have := HRB.out; omega), mid_cR hm5 CR_sybd.out.2 (by have := HRB.out; omega)⟩)
          have C_y := Lib.hid (XC_sybd.out.mid hm5 (.inr (by have := LXC.out; omega)))
          have H_y := Lib.hid (XH_sybd.out.mid hm5 (.inr (by have := LXH.out; omega)))
          have R_y := Lib.hid (XR_sybd.out.mid hm5 (.inr (by have := LXR.out; omega)))
          have HB_y := Lib.hid (HB_sybd.out.trans (hm5.toBelow (by omega) HB_sybd.out.size))
          clear hm5
          refine wpAnyH_ready (rs := [26]) (by kernel_rfl) (by simp) ?_
          refine AllReadyH.cons rfl (fun K hK => ?_) AllReadyH.nil
          obtain ⟨y0, y1, y2, yf⟩ := Z_sybd.out
          have yf0 := yf 0
          have yf1 := yf 1
          have yf2 := yf 2
          clear yf
          go_simp
          refine hK.out _ _ (show _ from ⟨⟨G_y.out.1, G_y.out.2.1, G_y.out.2.2⟩, ⟨V_y.out.1, V_y.out.2⟩, CR_y.out.1, CR_y.out.2⟩) (fun hHeld => ?_)
          clear hK K
          try simp only [Act.put, List.getElem_toArray, List.getElem_cons_succ, List.getElem_cons_zero, List.setIfInBounds_toArray, List.set_cons_zero, List.set_cons_succ]
          refine wpAnyH_take (i := 27) (v := ?_) rfl (by kernel_rfl) (by kernel_rfl) (by kernel_rfl) (fun _ _ _ h => h) (Or.inl ⟨by kernel_rfl, ?_⟩) (by assumption) ?_
          rotate_left 1
          · intro w9 hSw
            try dsimp only at hSw
            go_simp
            try with_reducible rfl
          try simp only [Act.put, List.getElem_toArray, List.getElem_cons_succ, List.getElem_cons_zero, List.setIfInBounds_toArray, List.set_cons_zero, List.set_cons_succ]
          refine wpAnyH_done (by kernel_rfl) ?_ _
          go_wp2
          (try simp only [Exit.inBlock, Exit.then])
          refine bodyPost_ret (v := .tuple #[.agg #[.slice (some ⟨Wqy.heap.size, 0, none⟩) 1 1, .slice (some ⟨Wqyb.heap.size, 0, none⟩) 1 1, .slice (some ⟨Wq.heap.size, 0, none⟩) 2 2], .bool true]) ?_ rfl ?_
          · rw [results_cell_tmp rfl]; go_simp
          · exact ⟨_, _, _, rfl, ⟨_, _, _, rfl, C_y.out.wide (by have := LXC.out; omega) C_y.out.toIn.le (Nat.le_refl _), H_y.out.wide (by have := LXH.out; omega) H_y.out.toIn.le (Nat.le_refl _), R_y.out.wide (by have := LXR.out; omega) R_y.out.toIn.le (Nat.le_refl _)⟩, HB_y.out⟩
        · go_simp
          have hb := ba Wqy (.cells #[.int .i64 e] 3)
          have HB_syd := Lib.hid (bt HB_sy.out hb)
          have G_syd := Lib.hid (G_sy.out.below hb)
          have V_syd := Lib.hid (V_sy.out.below hb)
          have Z_syd := Lib.hid (Z_sy.out.below hb)
          have CR_syd := Lib.hid (CR_sy.out.below hb)
          have XR_syd := Lib.hid (XR_sy.out.below hb)
          have XH_syd := Lib.hid (show OwI Wqy.heap.size (Wqy.alloc (.cells #[.int .i64 e] 3)).heap.size (Wqy.alloc (.cells #[.int .i64 e] 3)) (.slice (some ⟨Wqy.heap.size, 0, none⟩) 1 1) [e] from owI_lit Wqy [e] (by simp))
          have LXH := Lib.hid (show w.heap.size + 2 < Wqy.heap.size from Z_sy.out.lt)
          clear hb
          refine hK.out _ _ (show _ from ⟨⟨G_syd.out.1, G_syd.out.2.1, G_syd.out.2.2⟩, ⟨V_syd.out.1, V_syd.out.2⟩, CR_syd.out.1, CR_syd.out.2⟩) (fun hHeld => ?_)
          clear hK K
          try simp only [Act.put, List.getElem_toArray, List.getElem_cons_succ, List.getElem_cons_zero, List.setIfInBounds_toArray, List.set_cons_zero, List.set_cons_succ]
          generalize hW9 : Wqy.alloc (.cells #[.int .i64 e] 3) = Wqyd at *
          clear hW9
          refine wpAnyH_ready (rs := [1]) (by kernel_rfl) (by simp) ?_
          refine AllReadyH.cons rfl (fun K hK => ?_) (AllReadyH.nil)
          go_simp
          have hb := ba Wqyd (.cells #[.int .i64 x] 3)
          have HB_sydb := Lib.hid (bt HB_syd.out hb)
          have G_sydb := Lib.hid (G_syd.out.below hb)
          have V_sydb := Lib.hid (V_syd.out.below hb)
          have Z_sydb := Lib.hid (Z_syd.out.below hb)
          have CR_sydb := Lib.hid (CR_syd.out.below hb)
          have XR_sydb := Lib.hid (XR_syd.out.below hb)
          have XH_sydb := Lib.hid (XH_syd.out.below hb)
          have XC_sydb := Lib.hid (show OwI Wqyd.heap.size (Wqyd.alloc (.cells #[.int .i64 x] 3)).heap.size (Wqyd.alloc (.cells #[.int .i64 x] 3)) (.slice (some ⟨Wqyd.heap.size, 0, none⟩) 1 1) [x] from owI_lit Wqyd [x] (by simp))
          have LXC := Lib.hid (show w.heap.size + 2 < Wqyd.heap.size from Z_syd.out.lt)
          clear hb
          refine hK.out _ _ (show _ from ⟨⟨G_sydb.out.1, G_sydb.out.2.1, G_sydb.out.2.2⟩, ⟨V_sydb.out.1, V_sydb.out.2⟩, CR_sydb.out.1, CR_sydb.out.2⟩) (fun hHeld => ?_)
          clear hK K
          try simp only [Act.put, List.getElem_toArray, List.getElem_cons_succ, List.getElem_cons_zero, List.setIfInBounds_toArray, List.set_cons_zero, List.set_cons_succ]
          generalize hW9 : Wqyd.alloc (.cells #[.int .i64 x] 3) = Wqydb at *
          clear hW9
          refine wpAnyH_take (i := 25) (v := ?_) rfl (by kernel_rfl) (by kernel_rfl) (by kernel_rfl) (fun _ _ _ h => h) (Or.inl ⟨by kernel_rfl, ?_⟩) (by assumption) ?_
          rotate_left 1
          · intro w9 hSw
            try dsimp only at hSw
            go_simp
            try with_reducible rfl
          try simp only [Act.put, List.getElem_toArray, List.getElem_cons_succ, List.getElem_cons_zero, List.setIfInBounds_toArray, List.set_cons_zero, List.set_cons_succ]
          have hm5 := mid3 Wqydb (w.heap.size + 2) (.slice (some ⟨Wqyd.heap.size, 0, none⟩) 1 1) (.slice (some ⟨Wqy.heap.size, 0, none⟩) 1 1) (.slice (some ⟨Wq.heap.size, 0, none⟩) 2 2)
          have hsz := hm5.size
          have G_y := Lib.hid (show GR _ w.heap.size P Q G from ⟨mid_cR hm5 G_sydb.out.1 (by omega), mid_cR hm5 G_sydb.out.2.1 (by omega), mid_cR hm5 G_sydb.out.2.2 (by omega)⟩)
          have V_y := Lib.hid (show D2 _ (w.heap.size + 1) (.int .i64 H) (.slice ya hs.length yc) from ⟨mid_cR hm5 V_sydb.out.1 (by omega), mid_cR hm5 V_sydb.out.2 (by omega)⟩)
          have CR_y := Lib.hid (show CC _ rb ro a b from ⟨mid_cR hm5 CR_sydb.out.1 (by have := HRB.out; omega), mid_cR hm5 CR_sydb.out.2 (by have := HRB.out; omega)⟩)
          have C_y := Lib.hid (XC_sydb.out.mid hm5 (.inr (by have := LXC.out; omega)))
          have H_y := Lib.hid (XH_sydb.out.mid hm5 (.inr (by have := LXH.out; omega)))
          have R_y := Lib.hid (XR_sydb.out.mid hm5 (.inr (by have := LXR.out; omega)))
          have HB_y := Lib.hid (HB_sydb.out.trans (hm5.toBelow (by omega) HB_sydb.out.size))
          clear hm5
          refine wpAnyH_ready (rs := [26]) (by kernel_rfl) (by simp) ?_
          refine AllReadyH.cons rfl (fun K hK => ?_) AllReadyH.nil
          obtain ⟨y0, y1, y2, yf⟩ := Z_sydb.out
          have yf0 := yf 0
          have yf1 := yf 1
          have yf2 := yf 2
          clear yf
          go_simp
          refine hK.out _ _ (show _ from ⟨⟨G_y.out.1, G_y.out.2.1, G_y.out.2.2⟩, ⟨V_y.out.1, V_y.out.2⟩, CR_y.out.1, CR_y.out.2⟩) (fun hHeld => ?_)
          clear hK K
          try simp only [Act.put, List.getElem_toArray, List.getElem_cons_succ, List.getElem_cons_zero, List.setIfInBounds_toArray, List.set_cons_zero, List.set_cons_succ]
          refine wpAnyH_take (i := 27) (v := ?_) rfl (by kernel_rfl) (by kernel_rfl) (by kernel_rfl) (fun _ _ _ h => h) (Or.inl ⟨by kernel_rfl, ?_⟩) (by assumption) ?_
          rotate_left 1
          · intro w9 hSw
            try dsimp only at hSw
            go_simp
            try with_reducible rfl
          try simp only [Act.put, List.getElem_toArray, List.getElem_cons_succ, List.getElem_cons_zero, List.setIfInBounds_toArray, List.set_cons_zero, List.set_cons_succ]
          refine wpAnyH_done (by kernel_rfl) ?_ _
          go_wp2
          (try simp only [Exit.inBlock, Exit.then])
          refine bodyPost_ret (v := .tuple #[.agg #[.slice (some ⟨Wqyd.heap.size, 0, none⟩) 1 1, .slice (some ⟨Wqy.heap.size, 0, none⟩) 1 1, .slice (some ⟨Wq.heap.size, 0, none⟩) 2 2], .bool true]) ?_ rfl ?_
          · rw [results_cell_tmp rfl]; go_simp
          · exact ⟨_, _, _, rfl, ⟨_, _, _, rfl, C_y.out.wide (by have := LXC.out; omega) C_y.out.toIn.le (Nat.le_refl _), H_y.out.wide (by have := LXH.out; omega) H_y.out.toIn.le (Nat.le_refl _), R_y.out.wide (by have := LXR.out; omega) R_y.out.toIn.le (Nat.le_refl _)⟩, HB_y.out⟩

end Go.Proofs.Ytlgdcfficemebaa

