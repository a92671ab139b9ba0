/- Chapter 10, the reference: ProveSum. -/
import Derived.Test.YtfjaohmildkeoaaRngB
import Derived.Test.YtfjaohmildkeoaaRngE
namespace Go.Proofs.Ytfjaohmildkeoaa
open Go.RowKit
set_option linter.unusedVariables false
set_option linter.unusedSimpArgs false

theorem jAll {Q : Int} {zs : List Int} (h : allIn zs 0 (Q - 1) = true) : ∀ z ∈ zs, 0 ≤ z ∧ z < Q := by
  intro z hz
  unfold allIn at h
  rw [List.all_eq_true] at h
  have := inB_true.1 (h z hz)
  omega
theorem jCell {w w' : World} {A B b i : Nat} {v : Value} (hm : Mid A B w w') (h : w.cell? ⟨b, i, none⟩ = some v) (ho : b < A ∨ B ≤ b) : w'.cell? ⟨b, i, none⟩ = some v := by
  rw [World.cell?_of_block (a := ⟨b, i, none⟩) (hm.block b (World.block_lt_of_cell? w _ h) ho)]; exact h
theorem jLit (w : World) (zs : List Int) (hz : zs.length ≤ 1000000) : OwI w.heap.size (w.alloc (.cells (zs.map (Value.int .i64)).toArray 3)).heap.size (w.alloc (.cells (zs.map (Value.int .i64)).toArray 3)) (.slice (some ⟨w.heap.size, 0, none⟩) zs.length zs.length) zs := OwR.mk (own_lit w zs hz 3) (by simp)
theorem jOne {B : Nat} {w : World} {ad : Option Addr} {n c : Nat} {x : Int} (h : InI B w (.slice ad n c) [x]) : ∃ b o, ad = some ⟨b, o, none⟩ ∧ C1o w b o x ∧ b < w.heap.size := by
  obtain ⟨h1, _⟩ := h.ints
  rcases h1 with h1 | ⟨b, off, rfl, h2, h3⟩
  · cases h1
  · exact ⟨b, off, rfl, by have := h3 0 (by simp); simpa [C1o] using this, h2⟩
theorem jBlk {B : Nat} {w : World} {ad : Option Addr} {n c : Nat} {zs : List Int} (h : InI B w (.slice ad n c) zs) : ∀ b o, ad = some ⟨b, o, none⟩ → zs ≠ [] → b < w.heap.size := by
  intro b o ha h0
  obtain ⟨h1, _⟩ := h.ints
  rcases h1 with h1 | ⟨b', off, h2, h3, _⟩
  · exact absurd h1 h0
  · rw [h2] at ha; cases ha; exact h3

set_option maxRecDepth 100000 in
set_option maxHeartbeats 12800000 in
theorem sProveSum_any (P Q G H : Int) {B C D E : Nat} {y u v z : Value} {hs rs l cs : List Int} (hl : hs.length ≤ 1048576) (hrl : rs.length ≤ 1048576) (hll : l.length ≤ 1048576) (hcl : cs.length ≤ 1048576) {w : World} (hy : InI B w y hs) (hu : InI C w u rs) (hv : InI D w v l) (hz : InI E w z cs) :
    Calls Try.prog 25 #[gv P Q G, .agg #[.int .i64 H, y], u, v, z] w (AnsJ w (psV P Q G H hs rs l cs) (psB P Q G H hs rs l cs)) := by
  obtain ⟨ya, yc, rfl⟩ := hy.shape
  obtain ⟨ra, rc, rfl⟩ := hu.shape
  obtain ⟨la, lc, rfl⟩ := hv.shape
  obtain ⟨ka, kc, rfl⟩ := hz.shape
  have G_9 := Lib.hid ((gr_at w (w.heap.size) (by simp) P Q G 24).below (ba (w.alloc (.cells #[.int .i64 P, .int .i64 Q, .int .i64 G] 24)) (.cells #[.int .i64 H, .slice ya hs.length yc] 53)))
  have V_9 := Lib.hid (d2_at (w.alloc (.cells #[.int .i64 P, .int .i64 Q, .int .i64 G] 24)) (w.heap.size + 1) (by simp) (.int .i64 H) (.slice ya hs.length yc) 53)
  have HB_9 := Lib.hid (show Below w.heap.size w ((w.alloc (.cells #[.int .i64 P, .int .i64 Q, .int .i64 G] 24)).alloc (.cells #[.int .i64 H, .slice ya hs.length yc] 53)) from bt (ba _ _) (ba _ _))
  have G_0 := Lib.hid (G_9.out.below (ba _ (.cells #[.slice none 0 0, .slice none 0 0, .slice none 0 0] 49)))
  have V_0 := Lib.hid (V_9.out.below (ba _ (.cells #[.slice none 0 0, .slice none 0 0, .slice none 0 0] 49)))
  have hv3 := b3_new ((w.alloc (.cells #[.int .i64 P, .int .i64 Q, .int .i64 G] 24)).alloc (.cells #[.int .i64 H, .slice ya hs.length yc] 53)) (.slice none 0 0) (.slice none 0 0) (.slice none 0 0) 49
  rw [show ((w.alloc (.cells #[.int .i64 P, .int .i64 Q, .int .i64 G] 24)).alloc (.cells #[.int .i64 H, .slice ya hs.length yc] 53)).heap.size = w.heap.size + 2 by simp] at hv3
  have Z_0 := Lib.hid hv3
  have HB_0 := Lib.hid (bt HB_9.out (ba _ (.cells #[.slice none 0 0, .slice none 0 0, .slice none 0 0] 49)))
  have Y_0 := Lib.hid (hy.below HB_0.out)
  have R_0 := Lib.hid (hu.below HB_0.out)
  have U_0 := Lib.hid (hv.below HB_0.out)
  have K_0 := Lib.hid (hz.below HB_0.out)
  have HNE := Lib.hid (jBlk hz)
  clear hv3 hy hu hv hz G_9 V_9 HB_9
  cases h0 : bsB P Q G H hs
  · have K0 := Lib.hid (show bsB P Q G H hs = false from h0)
    have E1 := Lib.hid (show psB P Q G H hs rs l cs = false by unfold psB; rw [h0]; rfl)
    rw [E1.out, ps_off E1.out]
    clear h0
    obtain ⟨gG0, gG1, gG2⟩ := G_0.out
    obtain ⟨rZ0, rZ1, rZ2, rfZ⟩ := Z_0.out
    have rfZ0 := rfZ 0
    have rfZ1 := rfZ 1
    have rfZ2 := rfZ 2
    obtain ⟨cV0, cV1⟩ := V_0.out
    go_enter Try.func25, Try.ntmps25
    go_wp2_with fail
    refine (l9Good_any P Q G H (by omega) Y_0.out).mono ?_
    rw [K0.out]
    rintro e v1 ⟨rfl, hb⟩
    have HB_1 := Lib.hid (bt HB_0.out hb)
    have G_1 := Lib.hid (G_0.out.below hb)
    have V_1 := Lib.hid (V_0.out.below hb)
    have Z_1 := Lib.hid (Z_0.out.below hb)
    have Y_1 := Lib.hid (Y_0.out.below hb)
    have U_1 := Lib.hid (U_0.out.below hb)
    have R_1 := Lib.hid (R_0.out.below hb)
    have K_1 := Lib.hid (K_0.out.below hb)
    clear hb gG0 gG1 gG2 rZ0 rZ1 rZ2 rfZ rfZ0 rfZ1 rfZ2 cV0 cV1
    obtain ⟨gG0, gG1, gG2⟩ := G_1.out
    obtain ⟨rZ0, rZ1, rZ2, rfZ⟩ := Z_1.out
    have rfZ0 := rfZ 0
    have rfZ1 := rfZ 1
    have rfZ2 := rfZ 2
    obtain ⟨cV0, cV1⟩ := V_1.out
    go_wp2
    (try simp only [Exit.inBlock, Exit.then])
    refine bodyPost_ret (v := .tuple #[.agg #[.slice none 0 0, .slice none 0 0, .slice none 0 0], .bool false]) ?_ rfl ?_
    · rw [results_cell_tmp rfl]; go_simp
    · have hm5 := mid3 v1 (w.heap.size + 2) (.slice none 0 0) (.slice none 0 0) (.slice none 0 0)
      exact ⟨_, _, _, rfl, owT_nil (HB_1.out.trans (hm5.toBelow (by omega) HB_1.out.size)).size, HB_1.out.trans (hm5.toBelow (by omega) HB_1.out.size)⟩
  have K0 := Lib.hid (show bsB P Q G H hs = true from h0)
  have hgd := bs_good h0
  have hmo := good_mo hgd
  have hgr := good_rng hgd
  have hH0 := bs_H h0
  cases h1 : inB (l.length : Int) 1 24
  · have K1 := Lib.hid (show inB (l.length : Int) 1 24 = false from h1)
    have E1 := Lib.hid (show psB P Q G H hs rs l cs = false by unfold psB; rw [decide_eq_false (p := 1 ≤ l.length ∧ l.length ≤ 24) (by have := inB_false.1 h1; omega)]; simp)
    rw [E1.out, ps_off E1.out]
    clear h0 h1
    obtain ⟨gG0, gG1, gG2⟩ := G_0.out
    obtain ⟨rZ0, rZ1, rZ2, rfZ⟩ := Z_0.out
    have rfZ0 := rfZ 0
    have rfZ1 := rfZ 1
    have rfZ2 := rfZ 2
    obtain ⟨cV0, cV1⟩ := V_0.out
    go_enter Try.func25, Try.ntmps25
    go_wp2_with fail
    refine (l9Good_any P Q G H (by omega) Y_0.out).mono ?_
    rw [K0.out]
    rintro e v1 ⟨rfl, hb⟩
    have HB_1 := Lib.hid (bt HB_0.out hb)
    have G_1 := Lib.hid (G_0.out.below hb)
    have V_1 := Lib.hid (V_0.out.below hb)
    have Z_1 := Lib.hid (Z_0.out.below hb)
    have Y_1 := Lib.hid (Y_0.out.below hb)
    have U_1 := Lib.hid (U_0.out.below hb)
    have R_1 := Lib.hid (R_0.out.below hb)
    have K_1 := Lib.hid (K_0.out.below hb)
    clear hb gG0 gG1 gG2 rZ0 rZ1 rZ2 rfZ rfZ0 rfZ1 rfZ2 cV0 cV1
    obtain ⟨gG0, gG1, gG2⟩ := G_1.out
    obtain ⟨rZ0, rZ1, rZ2, rfZ⟩ := Z_1.out
    have rfZ0 := rfZ 0
    have rfZ1 := rfZ 1
    have rfZ2 := rfZ 2
    obtain ⟨cV0, cV1⟩ := V_1.out
    go_wp2_with fail
    refine (l1In_any _ _ _ _).mono ?_
    rw [K1.out]
    rintro e w' ⟨rfl, rfl⟩
    go_wp2
    (try simp only [Exit.inBlock, Exit.then])
    refine bodyPost_ret (v := .tuple #[.agg #[.slice none 0 0, .slice none 0 0, .slice none 0 0], .bool false]) ?_ rfl ?_
    · rw [results_cell_tmp rfl]; go_simp
    · have hm5 := mid3 v1 (w.heap.size + 2) (.slice none 0 0) (.slice none 0 0) (.slice none 0 0)
      exact ⟨_, _, _, rfl, owT_nil (HB_1.out.trans (hm5.toBelow (by omega) HB_1.out.size)).size, HB_1.out.trans (hm5.toBelow (by omega) HB_1.out.size)⟩
  have K1 := Lib.hid (show inB (l.length : Int) 1 24 = true from h1)
  by_cases h2 : ¬ (rs.length = l.length)
  · have B2 : ((rs.length : Int) != (l.length : Int)) = true := by simp only [bne_iff_ne, ne_eq]; omega
    have E1 := Lib.hid (show psB P Q G H hs rs l cs = false by unfold psB; rw [decide_eq_false (p := rs.length = l.length) (by omega)]; simp)
    rw [E1.out, ps_off E1.out]
    have hx2 : ((rs.length : Int) == (l.length : Int)) = false := by simp only [beq_eq_false_iff_ne, ne_eq]; omega
    have hx3 : ¬ (rs.length : Int) = (l.length : Int) := by omega
    clear h0 h1 h2
    obtain ⟨gG0, gG1, gG2⟩ := G_0.out
    obtain ⟨rZ0, rZ1, rZ2, rfZ⟩ := Z_0.out
    have rfZ0 := rfZ 0
    have rfZ1 := rfZ 1
    have rfZ2 := rfZ 2
    obtain ⟨cV0, cV1⟩ := V_0.out
    go_enter Try.func25, Try.ntmps25
    go_wp2_with fail
    refine (l9Good_any P Q G H (by omega) Y_0.out).mono ?_
    rw [K0.out]
    rintro e v1 ⟨rfl, hb⟩
    have HB_1 := Lib.hid (bt HB_0.out hb)
    have G_1 := Lib.hid (G_0.out.below hb)
    have V_1 := Lib.hid (V_0.out.below hb)
    have Z_1 := Lib.hid (Z_0.out.below hb)
    have Y_1 := Lib.hid (Y_0.out.below hb)
    have U_1 := Lib.hid (U_0.out.below hb)
    have R_1 := Lib.hid (R_0.out.below hb)
    have K_1 := Lib.hid (K_0.out.below hb)
    clear hb gG0 gG1 gG2 rZ0 rZ1 rZ2 rfZ rfZ0 rfZ1 rfZ2 cV0 cV1
    obtain ⟨gG0, gG1, gG2⟩ := G_1.out
    obtain ⟨rZ0, rZ1, rZ2, rfZ⟩ := Z_1.out
    have rfZ0 := rfZ 0
    have rfZ1 := rfZ 1
    have rfZ2 := rfZ 2
    obtain ⟨cV0, cV1⟩ := V_1.out
    go_wp2_with fail
    refine (l1In_any _ _ _ _).mono ?_
    rw [K1.out]
    rintro e w' ⟨rfl, rfl⟩
    go_wp2
    (try simp only [Exit.inBlock, Exit.then])
    refine bodyPost_ret (v := .tuple #[.agg #[.slice none 0 0, .slice none 0 0, .slice none 0 0], .bool false]) ?_ rfl ?_
    · rw [results_cell_tmp rfl]; go_simp
    · have hm5 := mid3 v1 (w.heap.size + 2) (.slice none 0 0) (.slice none 0 0) (.slice none 0 0)
      exact ⟨_, _, _, rfl, owT_nil (HB_1.out.trans (hm5.toBelow (by omega) HB_1.out.size)).size, HB_1.out.trans (hm5.toBelow (by omega) HB_1.out.size)⟩
  replace h2 := Decidable.not_not.1 h2
  have B2 : True := by trivial
  clear B2
  have HRL := Lib.hid h2
  rw [h2]
  have R_9 := R_0.out
  rw [h2] at R_9
  clear R_0
  have R_0 := Lib.hid R_9
  clear R_9
  cases h3 : allIn rs 0 (Q - 1)
  · have K3 := Lib.hid (show allIn rs 0 (Q - 1) = false from h3)
    have E1 := Lib.hid (show psB P Q G H hs rs l cs = false by unfold psB; rw [h3]; simp)
    rw [E1.out, ps_off E1.out]
    clear h0 h1 h2 h3
    obtain ⟨gG0, gG1, gG2⟩ := G_0.out
    obtain ⟨rZ0, rZ1, rZ2, rfZ⟩ := Z_0.out
    have rfZ0 := rfZ 0
    have rfZ1 := rfZ 1
    have rfZ2 := rfZ 2
    obtain ⟨cV0, cV1⟩ := V_0.out
    go_enter Try.func25, Try.ntmps25
    go_wp2_with fail
    refine (l9Good_any P Q G H (by omega) Y_0.out).mono ?_
    rw [K0.out]
    rintro e v1 ⟨rfl, hb⟩
    have HB_1 := Lib.hid (bt HB_0.out hb)
    have G_1 := Lib.hid (G_0.out.below hb)
    have V_1 := Lib.hid (V_0.out.below hb)
    have Z_1 := Lib.hid (Z_0.out.below hb)
    have Y_1 := Lib.hid (Y_0.out.below hb)
    have U_1 := Lib.hid (U_0.out.below hb)
    have R_1 := Lib.hid (R_0.out.below hb)
    have K_1 := Lib.hid (K_0.out.below hb)
    clear hb gG0 gG1 gG2 rZ0 rZ1 rZ2 rfZ rfZ0 rfZ1 rfZ2 cV0 cV1
    obtain ⟨gG0, gG1, gG2⟩ := G_1.out
    obtain ⟨rZ0, rZ1, rZ2, rfZ⟩ := Z_1.out
    have rfZ0 := rfZ 0
    have rfZ1 := rfZ 1
    have rfZ2 := rfZ 2
    obtain ⟨cV0, cV1⟩ := V_1.out
    go_wp2_with fail
    refine (l1In_any _ _ _ _).mono ?_
    rw [K1.out]
    rintro e w' ⟨rfl, rfl⟩
    go_wp2_with fail
    refine (gExps_any P Q G ⟨by omega, by omega⟩ ra l.length rc rs HRL.out (by omega) _ (R_1.out.ints).1).mono ?_
    rw [K3.out]
    rintro e v2 ⟨rfl, hb⟩
    have HB_2 := Lib.hid (bt HB_1.out hb)
    have G_2 := Lib.hid (G_1.out.below hb)
    have V_2 := Lib.hid (V_1.out.below hb)
    have Z_2 := Lib.hid (Z_1.out.below hb)
    have Y_2 := Lib.hid (Y_1.out.below hb)
    have U_2 := Lib.hid (U_1.out.below hb)
    have R_2 := Lib.hid (R_1.out.below hb)
    have K_2 := Lib.hid (K_1.out.below hb)
    clear hb gG0 gG1 gG2 rZ0 rZ1 rZ2 rfZ rfZ0 rfZ1 rfZ2 cV0 cV1
    obtain ⟨gG0, gG1, gG2⟩ := G_2.out
    obtain ⟨rZ0, rZ1, rZ2, rfZ⟩ := Z_2.out
    have rfZ0 := rfZ 0
    have rfZ1 := rfZ 1
    have rfZ2 := rfZ 2
    obtain ⟨cV0, cV1⟩ := V_2.out
    go_wp2
    (try simp only [Exit.inBlock, Exit.then])
    refine bodyPost_ret (v := .tuple #[.agg #[.slice none 0 0, .slice none 0 0, .slice none 0 0], .bool false]) ?_ rfl ?_
    · rw [results_cell_tmp rfl]; go_simp
    · have hm5 := mid3 v2 (w.heap.size + 2) (.slice none 0 0) (.slice none 0 0) (.slice none 0 0)
      exact ⟨_, _, _, rfl, owT_nil (HB_2.out.trans (hm5.toBelow (by omega) HB_2.out.size)).size, HB_2.out.trans (hm5.toBelow (by omega) HB_2.out.size)⟩
  have K3 := Lib.hid (show allIn rs 0 (Q - 1) = true from h3)
  cases h4 : allIn l 0 (Q - 1)
  · have K4 := Lib.hid (show allIn l 0 (Q - 1) = false from h4)
    have E1 := Lib.hid (show psB P Q G H hs rs l cs = false by unfold psB; rw [h4]; simp)
    rw [E1.out, ps_off E1.out]
    clear h0 h1 h2 h3 h4
    obtain ⟨gG0, gG1, gG2⟩ := G_0.out
    obtain ⟨rZ0, rZ1, rZ2, rfZ⟩ := Z_0.out
    have rfZ0 := rfZ 0
    have rfZ1 := rfZ 1
    have rfZ2 := rfZ 2
    obtain ⟨cV0, cV1⟩ := V_0.out
    go_enter Try.func25, Try.ntmps25
    go_wp2_with fail
    refine (l9Good_any P Q G H (by omega) Y_0.out).mono ?_
    rw [K0.out]
    rintro e v1 ⟨rfl, hb⟩
    have HB_1 := Lib.hid (bt HB_0.out hb)
    have G_1 := Lib.hid (G_0.out.below hb)
    have V_1 := Lib.hid (V_0.out.below hb)
    have Z_1 := Lib.hid (Z_0.out.below hb)
    have Y_1 := Lib.hid (Y_0.out.below hb)
    have U_1 := Lib.hid (U_0.out.below hb)
    have R_1 := Lib.hid (R_0.out.below hb)
    have K_1 := Lib.hid (K_0.out.below hb)
    clear hb gG0 gG1 gG2 rZ0 rZ1 rZ2 rfZ rfZ0 rfZ1 rfZ2 cV0 cV1
    obtain ⟨gG0, gG1, gG2⟩ := G_1.out
    obtain ⟨rZ0, rZ1, rZ2, rfZ⟩ := Z_1.out
    have rfZ0 := rfZ 0
    have rfZ1 := rfZ 1
    have rfZ2 := rfZ 2
    obtain ⟨cV0, cV1⟩ := V_1.out
    go_wp2_with fail
    refine (l1In_any _ _ _ _).mono ?_
    rw [K1.out]
    rintro e w' ⟨rfl, rfl⟩
    go_wp2_with fail
    refine (gExps_any P Q G ⟨by omega, by omega⟩ ra l.length rc rs HRL.out (by omega) _ (R_1.out.ints).1).mono ?_
    rw [K3.out]
    rintro e v2 ⟨rfl, hb⟩
    have HB_2 := Lib.hid (bt HB_1.out hb)
    have G_2 := Lib.hid (G_1.out.below hb)
    have V_2 := Lib.hid (V_1.out.below hb)
    have Z_2 := Lib.hid (Z_1.out.below hb)
    have Y_2 := Lib.hid (Y_1.out.below hb)
    have U_2 := Lib.hid (U_1.out.below hb)
    have R_2 := Lib.hid (R_1.out.below hb)
    have K_2 := Lib.hid (K_1.out.below hb)
    clear hb gG0 gG1 gG2 rZ0 rZ1 rZ2 rfZ rfZ0 rfZ1 rfZ2 cV0 cV1
    obtain ⟨gG0, gG1, gG2⟩ := G_2.out
    obtain ⟨rZ0, rZ1, rZ2, rfZ⟩ := Z_2.out
    have rfZ0 := rfZ 0
    have rfZ1 := rfZ 1
    have rfZ2 := rfZ 2
    obtain ⟨cV0, cV1⟩ := V_2.out
    go_wp2_with fail
    refine (gExps_any P Q G ⟨by omega, by omega⟩ la l.length lc l rfl (by omega) _ (U_2.out.ints).1).mono ?_
    rw [K4.out]
    rintro e v3 ⟨rfl, hb⟩
    have HB_3 := Lib.hid (bt HB_2.out hb)
    have G_3 := Lib.hid (G_2.out.below hb)
    have V_3 := Lib.hid (V_2.out.below hb)
    have Z_3 := Lib.hid (Z_2.out.below hb)
    have Y_3 := Lib.hid (Y_2.out.below hb)
    have U_3 := Lib.hid (U_2.out.below hb)
    have R_3 := Lib.hid (R_2.out.below hb)
    have K_3 := Lib.hid (K_2.out.below hb)
    clear hb gG0 gG1 gG2 rZ0 rZ1 rZ2 rfZ rfZ0 rfZ1 rfZ2 cV0 cV1
    obtain ⟨gG0, gG1, gG2⟩ := G_3.out
    obtain ⟨rZ0, rZ1, rZ2, rfZ⟩ := Z_3.out
    have rfZ0 := rfZ 0
    have rfZ1 := rfZ 1
    have rfZ2 := rfZ 2
    obtain ⟨cV0, cV1⟩ := V_3.out
    go_wp2
    (try simp only [Exit.inBlock, Exit.then])
    refine bodyPost_ret (v := .tuple #[.agg #[.slice none 0 0, .slice none 0 0, .slice none 0 0], .bool false]) ?_ rfl ?_
    · rw [results_cell_tmp rfl]; go_simp
    · have hm5 := mid3 v3 (w.heap.size + 2) (.slice none 0 0) (.slice none 0 0) (.slice none 0 0)
      exact ⟨_, _, _, rfl, owT_nil (HB_3.out.trans (hm5.toBelow (by omega) HB_3.out.size)).size, HB_3.out.trans (hm5.toBelow (by omega) HB_3.out.size)⟩
  have K4 := Lib.hid (show allIn l 0 (Q - 1) = true from h4)
  by_cases h5 : ¬ (cs.length = 1)
  · have B5 : ((cs.length : Int) != 1) = true := by simp; omega
    have E1 := Lib.hid (show psB P Q G H hs rs l cs = false by unfold psB; rw [decide_eq_false (p := cs.length = 1) (by omega)]; simp)
    rw [E1.out, ps_off E1.out]
    clear h0 h1 h2 h3 h4 h5
    obtain ⟨gG0, gG1, gG2⟩ := G_0.out
    obtain ⟨rZ0, rZ1, rZ2, rfZ⟩ := Z_0.out
    have rfZ0 := rfZ 0
    have rfZ1 := rfZ 1
    have rfZ2 := rfZ 2
    obtain ⟨cV0, cV1⟩ := V_0.out
    go_enter Try.func25, Try.ntmps25
    go_wp2_with fail
    refine (l9Good_any P Q G H (by omega) Y_0.out).mono ?_
    rw [K0.out]
    rintro e v1 ⟨rfl, hb⟩
    have HB_1 := Lib.hid (bt HB_0.out hb)
    have G_1 := Lib.hid (G_0.out.below hb)
    have V_1 := Lib.hid (V_0.out.below hb)
    have Z_1 := Lib.hid (Z_0.out.below hb)
    have Y_1 := Lib.hid (Y_0.out.below hb)
    have U_1 := Lib.hid (U_0.out.below hb)
    have R_1 := Lib.hid (R_0.out.below hb)
    have K_1 := Lib.hid (K_0.out.below hb)
    clear hb gG0 gG1 gG2 rZ0 rZ1 rZ2 rfZ rfZ0 rfZ1 rfZ2 cV0 cV1
    obtain ⟨gG0, gG1, gG2⟩ := G_1.out
    obtain ⟨rZ0, rZ1, rZ2, rfZ⟩ := Z_1.out
    have rfZ0 := rfZ 0
    have rfZ1 := rfZ 1
    have rfZ2 := rfZ 2
    obtain ⟨cV0, cV1⟩ := V_1.out
    go_wp2_with fail
    refine (l1In_any _ _ _ _).mono ?_
    rw [K1.out]
    rintro e w' ⟨rfl, rfl⟩
    go_wp2_with fail
    refine (gExps_any P Q G ⟨by omega, by omega⟩ ra l.length rc rs HRL.out (by omega) _ (R_1.out.ints).1).mono ?_
    rw [K3.out]
    rintro e v2 ⟨rfl, hb⟩
    have HB_2 := Lib.hid (bt HB_1.out hb)
    have G_2 := Lib.hid (G_1.out.below hb)
    have V_2 := Lib.hid (V_1.out.below hb)
    have Z_2 := Lib.hid (Z_1.out.below hb)
    have Y_2 := Lib.hid (Y_1.out.below hb)
    have U_2 := Lib.hid (U_1.out.below hb)
    have R_2 := Lib.hid (R_1.out.below hb)
    have K_2 := Lib.hid (K_1.out.below hb)
    clear hb gG0 gG1 gG2 rZ0 rZ1 rZ2 rfZ rfZ0 rfZ1 rfZ2 cV0 cV1
    obtain ⟨gG0, gG1, gG2⟩ := G_2.out
    obtain ⟨rZ0, rZ1, rZ2, rfZ⟩ := Z_2.out
    have rfZ0 := rfZ 0
    have rfZ1 := rfZ 1
    have rfZ2 := rfZ 2
    obtain ⟨cV0, cV1⟩ := V_2.out
    go_wp2_with fail
    refine (gExps_any P Q G ⟨by omega, by omega⟩ la l.length lc l rfl (by omega) _ (U_2.out.ints).1).mono ?_
    rw [K4.out]
    rintro e v3 ⟨rfl, hb⟩
    have HB_3 := Lib.hid (bt HB_2.out hb)
    have G_3 := Lib.hid (G_2.out.below hb)
    have V_3 := Lib.hid (V_2.out.below hb)
    have Z_3 := Lib.hid (Z_2.out.below hb)
    have Y_3 := Lib.hid (Y_2.out.below hb)
    have U_3 := Lib.hid (U_2.out.below hb)
    have R_3 := Lib.hid (R_2.out.below hb)
    have K_3 := Lib.hid (K_2.out.below hb)
    clear hb gG0 gG1 gG2 rZ0 rZ1 rZ2 rfZ rfZ0 rfZ1 rfZ2 cV0 cV1
    obtain ⟨gG0, gG1, gG2⟩ := G_3.out
    obtain ⟨rZ0, rZ1, rZ2, rfZ⟩ := Z_3.out
    have rfZ0 := rfZ 0
    have rfZ1 := rfZ 1
    have rfZ2 := rfZ 2
    obtain ⟨cV0, cV1⟩ := V_3.out
    go_wp2
    (try simp only [Exit.inBlock, Exit.then])
    refine bodyPost_ret (v := .tuple #[.agg #[.slice none 0 0, .slice none 0 0, .slice none 0 0], .bool false]) ?_ rfl ?_
    · rw [results_cell_tmp rfl]; go_simp
    · have hm5 := mid3 v3 (w.heap.size + 2) (.slice none 0 0) (.slice none 0 0) (.slice none 0 0)
      exact ⟨_, _, _, rfl, owT_nil (HB_3.out.trans (hm5.toBelow (by omega) HB_3.out.size)).size, HB_3.out.trans (hm5.toBelow (by omega) HB_3.out.size)⟩
  replace h5 := Decidable.not_not.1 h5
  have B5 : ((cs.length : Int) != 1) = false := by simp [h5]
  cases h6 : allIn cs 0 (Q - 1)
  · have K6 := Lib.hid (show allIn cs 0 (Q - 1) = false from h6)
    have E1 := Lib.hid (show psB P Q G H hs rs l cs = false by unfold psB; rw [h6]; simp)
    rw [E1.out, ps_off E1.out]
    clear h0 h1 h2 h3 h4 h5 h6
    obtain ⟨gG0, gG1, gG2⟩ := G_0.out
    obtain ⟨rZ0, rZ1, rZ2, rfZ⟩ := Z_0.out
    have rfZ0 := rfZ 0
    have rfZ1 := rfZ 1
    have rfZ2 := rfZ 2
    obtain ⟨cV0, cV1⟩ := V_0.out
    go_enter Try.func25, Try.ntmps25
    go_wp2_with fail
    refine (l9Good_any P Q G H (by omega) Y_0.out).mono ?_
    rw [K0.out]
    rintro e v1 ⟨rfl, hb⟩
    have HB_1 := Lib.hid (bt HB_0.out hb)
    have G_1 := Lib.hid (G_0.out.below hb)
    have V_1 := Lib.hid (V_0.out.below hb)
    have Z_1 := Lib.hid (Z_0.out.below hb)
    have Y_1 := Lib.hid (Y_0.out.below hb)
    have U_1 := Lib.hid (U_0.out.below hb)
    have R_1 := Lib.hid (R_0.out.below hb)
    have K_1 := Lib.hid (K_0.out.below hb)
    clear hb gG0 gG1 gG2 rZ0 rZ1 rZ2 rfZ rfZ0 rfZ1 rfZ2 cV0 cV1
    obtain ⟨gG0, gG1, gG2⟩ := G_1.out
    obtain ⟨rZ0, rZ1, rZ2, rfZ⟩ := Z_1.out
    have rfZ0 := rfZ 0
    have rfZ1 := rfZ 1
    have rfZ2 := rfZ 2
    obtain ⟨cV0, cV1⟩ := V_1.out
    go_wp2_with fail
    refine (l1In_any _ _ _ _).mono ?_
    rw [K1.out]
    rintro e w' ⟨rfl, rfl⟩
    go_wp2_with fail
    refine (gExps_any P Q G ⟨by omega, by omega⟩ ra l.length rc rs HRL.out (by omega) _ (R_1.out.ints).1).mono ?_
    rw [K3.out]
    rintro e v2 ⟨rfl, hb⟩
    have HB_2 := Lib.hid (bt HB_1.out hb)
    have G_2 := Lib.hid (G_1.out.below hb)
    have V_2 := Lib.hid (V_1.out.below hb)
    have Z_2 := Lib.hid (Z_1.out.below hb)
    have Y_2 := Lib.hid (Y_1.out.below hb)
    have U_2 := Lib.hid (U_1.out.below hb)
    have R_2 := Lib.hid (R_1.out.below hb)
    have K_2 := Lib.hid (K_1.out.below hb)
    clear hb gG0 gG1 gG2 rZ0 rZ1 rZ2 rfZ rfZ0 rfZ1 rfZ2 cV0 cV1
    obtain ⟨gG0, gG1, gG2⟩ := G_2.out
    obtain ⟨rZ0, rZ1, rZ2, rfZ⟩ := Z_2.out
    have rfZ0 := rfZ 0
    have rfZ1 := rfZ 1
    have rfZ2 := rfZ 2
    obtain ⟨cV0, cV1⟩ := V_2.out
    go_wp2_with fail
    refine (gExps_any P Q G ⟨by omega, by omega⟩ la l.length lc l rfl (by omega) _ (U_2.out.ints).1).mono ?_
    rw [K4.out]
    rintro e v3 ⟨rfl, hb⟩
    have HB_3 := Lib.hid (bt HB_2.out hb)
    have G_3 := Lib.hid (G_2.out.below hb)
    have V_3 := Lib.hid (V_2.out.below hb)
    have Z_3 := Lib.hid (Z_2.out.below hb)
    have Y_3 := Lib.hid (Y_2.out.below hb)
    have U_3 := Lib.hid (U_2.out.below hb)
    have R_3 := Lib.hid (R_2.out.below hb)
    have K_3 := Lib.hid (K_2.out.below hb)
    clear hb gG0 gG1 gG2 rZ0 rZ1 rZ2 rfZ rfZ0 rfZ1 rfZ2 cV0 cV1
    obtain ⟨gG0, gG1, gG2⟩ := G_3.out
    obtain ⟨rZ0, rZ1, rZ2, rfZ⟩ := Z_3.out
    have rfZ0 := rfZ 0
    have rfZ1 := rfZ 1
    have rfZ2 := rfZ 2
    obtain ⟨cV0, cV1⟩ := V_3.out
    go_wp2_with fail
    refine (gExps_any P Q G ⟨by omega, by omega⟩ ka _ kc _ rfl (by first | omega | decide) _ (K_3.out.ints).1).mono ?_
    rw [K6.out]
    rintro e v4 ⟨rfl, hb⟩
    have HB_4 := Lib.hid (bt HB_3.out hb)
    have G_4 := Lib.hid (G_3.out.below hb)
    have V_4 := Lib.hid (V_3.out.below hb)
    have Z_4 := Lib.hid (Z_3.out.below hb)
    have Y_4 := Lib.hid (Y_3.out.below hb)
    have U_4 := Lib.hid (U_3.out.below hb)
    have R_4 := Lib.hid (R_3.out.below hb)
    have K_4 := Lib.hid (K_3.out.below hb)
    clear hb gG0 gG1 gG2 rZ0 rZ1 rZ2 rfZ rfZ0 rfZ1 rfZ2 cV0 cV1
    obtain ⟨gG0, gG1, gG2⟩ := G_4.out
    obtain ⟨rZ0, rZ1, rZ2, rfZ⟩ := Z_4.out
    have rfZ0 := rfZ 0
    have rfZ1 := rfZ 1
    have rfZ2 := rfZ 2
    obtain ⟨cV0, cV1⟩ := V_4.out
    go_wp2
    (try simp only [Exit.inBlock, Exit.then])
    refine bodyPost_ret (v := .tuple #[.agg #[.slice none 0 0, .slice none 0 0, .slice none 0 0], .bool false]) ?_ rfl ?_
    · rw [results_cell_tmp rfl]; go_simp
    · have hm5 := mid3 v4 (w.heap.size + 2) (.slice none 0 0) (.slice none 0 0) (.slice none 0 0)
      exact ⟨_, _, _, rfl, owT_nil (HB_4.out.trans (hm5.toBelow (by omega) HB_4.out.size)).size, HB_4.out.trans (hm5.toBelow (by omega) HB_4.out.size)⟩
  have K6 := Lib.hid (show allIn cs 0 (Q - 1) = true from h6)
  have hll := inB_true.1 h1
  have E1 := Lib.hid (show psB P Q G H hs rs l cs = true by unfold psB; rw [h0, decide_eq_true (show 1 ≤ l.length ∧ l.length ≤ 24 by omega), decide_eq_true HRL.out, h3, h4, decide_eq_true h5, h6]; rfl)
  rw [E1.out]
  obtain ⟨a, rfl⟩ := one_list h5
  have E2 := Lib.hid (show psV P Q G H hs rs l [a] = suP P Q G H (sumFrom Q 0 l) (sumFrom Q 0 rs) a by unfold psV; rw [E1.out]; rfl)
  rw [E2.out]
  have HLA := Lib.hid (jAll h4)
  have HRA := Lib.hid (jAll h3)
  have htt := sum_in (show 0 < Q by omega) l
  have hrr := sum_in (show 0 < Q by omega) rs
  obtain ⟨t, ht⟩ : ∃ t, sumFrom Q 0 l = t := ⟨_, rfl⟩
  obtain ⟨r, hr⟩ : ∃ r, sumFrom Q 0 rs = r := ⟨_, rfl⟩
  rw [ht] at htt ⊢
  rw [hr] at hrr ⊢
  have hmr : allIn [t, r] 0 (Q - 1) = true := by simp only [allIn, List.all_cons, List.all_nil, Bool.and_true, Bool.and_eq_true]; exact ⟨inB_true.2 ⟨htt.1, by omega⟩, inB_true.2 ⟨hrr.1, by omega⟩⟩
  have hce : elB P Q (cmW P G H t r) = true := by have := pows_el hgd [G, H] [t, r] 1 (one_el hgd) (by simp [allEl, good_el hgd, hH0]) hmr; rwa [pows_two hmo.1.1] at this
  have har : 0 ≤ a ∧ a < Q := in_single h6
  have hxe : elB P Q (Num.pow H a P) = true := by have := pows_el hgd [H] [a] 1 (one_el hgd) (by simp [allEl, hH0]) h6; rwa [pows_one hmo.1.1] at this
  have hchr := chX_rng (P := P) (Q := Q) (G := G) (s := sumL) (zs := [H, cmW P G H t r, t, Num.pow H a P]) (by omega)
  unfold suP
  dsimp only
  obtain ⟨c0, hc0⟩ : ∃ c, cmW P G H t r = c := ⟨_, rfl⟩
  obtain ⟨x, hx0⟩ : ∃ c, Num.pow H a P = c := ⟨_, rfl⟩
  rw [hc0] at hce hchr ⊢
  rw [hx0] at hxe hchr ⊢
  obtain ⟨e, he0⟩ : ∃ c, chX P Q G sumL [H, c0, t, x] = c := ⟨_, rfl⟩
  rw [he0] at hchr ⊢
  obtain ⟨p0, p1⟩ := prod_bd (a := e) (z := r) hchr.1 (by omega) hrr.1 (by omega)
  obtain ⟨er, her⟩ : ∃ c, e * r = c := ⟨_, rfl⟩
  rw [her] at p0 p1 ⊢
  obtain ⟨z1, hz1⟩ : ∃ c, (a + er) % Q = c := ⟨_, rfl⟩
  rw [hz1]
  have HZ1 := Lib.hid hz1
  have HG := Lib.hid hgd
  have HH := Lib.hid hH0
  have HA := Lib.hid har
  have HTr := Lib.hid htt
  have HRr := Lib.hid hrr
  have HT := Lib.hid ht
  have HR := Lib.hid hr
  have HXV := Lib.hid hx0
  have HCW := Lib.hid hc0
  have HC0 := Lib.hid hce
  have HX := Lib.hid hxe
  have HCH := Lib.hid he0
  have HHR := Lib.hid (el_sm hgd hH0)
  have HA1 := Lib.hid (show 0 ≤ a + er ∧ a + er ≤ 9000000000000000000 by omega)
  have hw1 : IntKind.i64.wrap (e * r) = er := by rw [her, IntKind.wrap_i64]; omega
  have hw3 : IntKind.i64.wrap (a + er) = a + er := by rw [IntKind.wrap_i64]; omega
  clear h0 h1 h2 h3 h4 h5 h6 hgd hH0 htt hrr ht hr hmr hce har hxe hchr hc0 hx0 he0 p0 p1 her hz1
  obtain ⟨gG0, gG1, gG2⟩ := G_0.out
  obtain ⟨rZ0, rZ1, rZ2, rfZ⟩ := Z_0.out
  have rfZ0 := rfZ 0
  have rfZ1 := rfZ 1
  have rfZ2 := rfZ 2
  obtain ⟨cV0, cV1⟩ := V_0.out
  go_enter Try.func25, Try.ntmps25
  go_wp2_with fail
  refine (l9Good_any P Q G H (by omega) Y_0.out).mono ?_
  rw [K0.out]
  rintro e v1 ⟨rfl, hb⟩
  have HB_1 := Lib.hid (bt HB_0.out hb)
  have G_1 := Lib.hid (G_0.out.below hb)
  have V_1 := Lib.hid (V_0.out.below hb)
  have Z_1 := Lib.hid (Z_0.out.below hb)
  have Y_1 := Lib.hid (Y_0.out.below hb)
  have U_1 := Lib.hid (U_0.out.below hb)
  have R_1 := Lib.hid (R_0.out.below hb)
  have K_1 := Lib.hid (K_0.out.below hb)
  clear hb gG0 gG1 gG2 rZ0 rZ1 rZ2 rfZ rfZ0 rfZ1 rfZ2 cV0 cV1
  obtain ⟨gG0, gG1, gG2⟩ := G_1.out
  obtain ⟨rZ0, rZ1, rZ2, rfZ⟩ := Z_1.out
  have rfZ0 := rfZ 0
  have rfZ1 := rfZ 1
  have rfZ2 := rfZ 2
  obtain ⟨cV0, cV1⟩ := V_1.out
  go_wp2_with fail
  refine (l1In_any _ _ _ _).mono ?_
  rw [K1.out]
  rintro e w' ⟨rfl, rfl⟩
  go_wp2_with fail
  refine (gExps_any P Q G ⟨by omega, by omega⟩ ra l.length rc rs HRL.out (by omega) _ (R_1.out.ints).1).mono ?_
  rw [K3.out]
  rintro e v2 ⟨rfl, hb⟩
  have HB_2 := Lib.hid (bt HB_1.out hb)
  have G_2 := Lib.hid (G_1.out.below hb)
  have V_2 := Lib.hid (V_1.out.below hb)
  have Z_2 := Lib.hid (Z_1.out.below hb)
  have Y_2 := Lib.hid (Y_1.out.below hb)
  have U_2 := Lib.hid (U_1.out.below hb)
  have R_2 := Lib.hid (R_1.out.below hb)
  have K_2 := Lib.hid (K_1.out.below hb)
  clear hb gG0 gG1 gG2 rZ0 rZ1 rZ2 rfZ rfZ0 rfZ1 rfZ2 cV0 cV1
  obtain ⟨gG0, gG1, gG2⟩ := G_2.out
  obtain ⟨rZ0, rZ1, rZ2, rfZ⟩ := Z_2.out
  have rfZ0 := rfZ 0
  have rfZ1 := rfZ 1
  have rfZ2 := rfZ 2
  obtain ⟨cV0, cV1⟩ := V_2.out
  go_wp2_with fail
  refine (gExps_any P Q G ⟨by omega, by omega⟩ la l.length lc l rfl (by omega) _ (U_2.out.ints).1).mono ?_
  rw [K4.out]
  rintro e v3 ⟨rfl, hb⟩
  have HB_3 := Lib.hid (bt HB_2.out hb)
  have G_3 := Lib.hid (G_2.out.below hb)
  have V_3 := Lib.hid (V_2.out.below hb)
  have Z_3 := Lib.hid (Z_2.out.below hb)
  have Y_3 := Lib.hid (Y_2.out.below hb)
  have U_3 := Lib.hid (U_2.out.below hb)
  have R_3 := Lib.hid (R_2.out.below hb)
  have K_3 := Lib.hid (K_2.out.below hb)
  clear hb gG0 gG1 gG2 rZ0 rZ1 rZ2 rfZ rfZ0 rfZ1 rfZ2 cV0 cV1
  obtain ⟨gG0, gG1, gG2⟩ := G_3.out
  obtain ⟨rZ0, rZ1, rZ2, rfZ⟩ := Z_3.out
  have rfZ0 := rfZ 0
  have rfZ1 := rfZ 1
  have rfZ2 := rfZ 2
  obtain ⟨cV0, cV1⟩ := V_3.out
  go_wp2_with fail
  refine (gExps_any P Q G ⟨by omega, by omega⟩ ka _ kc _ rfl (by first | omega | decide) _ (K_3.out.ints).1).mono ?_
  rw [K6.out]
  rintro e v4 ⟨rfl, hb⟩
  have HB_4 := Lib.hid (bt HB_3.out hb)
  have G_4 := Lib.hid (G_3.out.below hb)
  have V_4 := Lib.hid (V_3.out.below hb)
  have Z_4 := Lib.hid (Z_3.out.below hb)
  have Y_4 := Lib.hid (Y_3.out.below hb)
  have U_4 := Lib.hid (U_3.out.below hb)
  have R_4 := Lib.hid (R_3.out.below hb)
  have K_4 := Lib.hid (K_3.out.below hb)
  clear hb gG0 gG1 gG2 rZ0 rZ1 rZ2 rfZ rfZ0 rfZ1 rfZ2 cV0 cV1
  obtain ⟨gG0, gG1, gG2⟩ := G_4.out
  obtain ⟨rZ0, rZ1, rZ2, rfZ⟩ := Z_4.out
  have rfZ0 := rfZ 0
  have rfZ1 := rfZ 1
  have rfZ2 := rfZ 2
  obtain ⟨cV0, cV1⟩ := V_4.out
  obtain ⟨kb, ko, hka, hcc, hkb⟩ := jOne K_4.out
  subst hka
  have CK_4 := Lib.hid hcc
  clear hcc hkb
  have HKB := Lib.hid (show kb < w.heap.size + 2 ∨ w.heap.size + 3 ≤ kb from .inl (Nat.lt_of_lt_of_le (HNE.out kb ko rfl (by simp)) (Nat.le_add_right _ _)))
  go_wp2_with fail
  clear gG0 gG1 gG2 cV0 cV1 rZ0 rZ1 rZ2 rfZ rfZ0 rfZ1 rfZ2
  have hbd : Below v4.heap.size v4 v4.drew := (Below.refl _ v4).drew
  have HB_s := Lib.hid (bt HB_4.out hbd)
  have G_s := Lib.hid (G_4.out.below hbd)
  have V_s := Lib.hid (V_4.out.below hbd)
  have Z_s := Lib.hid (Z_4.out.below hbd)
  have CK_s := Lib.hid (CK_4.out.below hbd)
  have U_s := Lib.hid (U_4.out.below hbd)
  have R_s := Lib.hid (R_4.out.below hbd)
  clear hbd
  refine wp_region_held_drew (S := (fun w' => (w'.cell? ⟨w.heap.size, 0, none⟩ = some (.int .i64 P) ∧ w'.cell? ⟨w.heap.size, 1, none⟩ = some (.int .i64 Q) ∧ w'.cell? ⟨w.heap.size, 2, none⟩ = some (.int .i64 G)) ∧ (w'.cell? ⟨w.heap.size + 1, 0, none⟩ = some (.int .i64 H) ∧ w'.cell? ⟨w.heap.size + 1, 1, none⟩ = some (.slice ya hs.length yc)) ∧ w'.cell? ⟨kb, ko, none⟩ = some (.int .i64 a))) (by kernel_rfl) (show _ from ⟨⟨G_4.out.1, G_4.out.2.1, G_4.out.2.2⟩, ⟨V_4.out.1, V_4.out.2⟩, CK_4.out⟩) (fun hHeld => ?_)
  generalize hW0 : v4.drew = Ws at *
  clear hW0
  refine wpAnyH_take (i := 0) (v := ?_) rfl (by kernel_rfl) (by kernel_rfl) (by kernel_rfl) (fun _ _ _ h => h) (Or.inl ⟨by kernel_rfl, ?_⟩) (by assumption) ?_
  rotate_left 1
  · intro w9 hSw
    try dsimp only at hSw
    go_simp
    try with_reducible rfl
  try simp only [Act.put, List.getElem_toArray, List.getElem_cons_succ, List.getElem_cons_zero, List.setIfInBounds_toArray, List.set_cons_zero, List.set_cons_succ]
  refine wpAnyH_take (i := 1) (v := ?_) rfl (by kernel_rfl) (by kernel_rfl) (by kernel_rfl) (fun _ _ _ h => h) (Or.inl ⟨by kernel_rfl, ?_⟩) (by assumption) ?_
  rotate_left 1
  · intro w9 hSw
    try dsimp only at hSw
    go_simp
    try with_reducible rfl
  try simp only [Act.put, List.getElem_toArray, List.getElem_cons_succ, List.getElem_cons_zero, List.setIfInBounds_toArray, List.set_cons_zero, List.set_cons_succ]
  refine wpAnyH_take (i := 2) (v := ?_) rfl (by kernel_rfl) (by kernel_rfl) (by kernel_rfl) (fun _ _ _ h => h) (Or.inl ⟨by kernel_rfl, ?_⟩) (by assumption) ?_
  rotate_left 1
  · intro w9 hSw
    try dsimp only at hSw
    go_simp
    try with_reducible rfl
  try simp only [Act.put, List.getElem_toArray, List.getElem_cons_succ, List.getElem_cons_zero, List.setIfInBounds_toArray, List.set_cons_zero, List.set_cons_succ]
  refine wpAnyH_take (i := 4) (v := ?_) rfl (by kernel_rfl) (by kernel_rfl) (by kernel_rfl) (fun _ _ _ h => h) (Or.inl ⟨by kernel_rfl, ?_⟩) (by assumption) ?_
  rotate_left 1
  · intro w9 hSw
    try dsimp only at hSw
    go_simp
    try with_reducible rfl
  try simp only [Act.put, List.getElem_toArray, List.getElem_cons_succ, List.getElem_cons_zero, List.setIfInBounds_toArray, List.set_cons_zero, List.set_cons_succ]
  refine wpAnyH_take (i := 5) (v := ?_) rfl (by kernel_rfl) (by kernel_rfl) (by kernel_rfl) (fun _ _ _ h => h) (Or.inl ⟨by kernel_rfl, ?_⟩) (by assumption) ?_
  rotate_left 1
  · intro w9 hSw
    try dsimp only at hSw
    go_simp
    try with_reducible rfl
  try simp only [Act.put, List.getElem_toArray, List.getElem_cons_succ, List.getElem_cons_zero, List.setIfInBounds_toArray, List.set_cons_zero, List.set_cons_succ]
  refine wpAnyH_take (i := 6) (v := ?_) rfl (by kernel_rfl) (by kernel_rfl) (by kernel_rfl) (fun _ _ _ h => h) (Or.inl ⟨by kernel_rfl, ?_⟩) (by assumption) ?_
  rotate_left 1
  · intro w9 hSw
    try dsimp only at hSw
    go_simp
    try with_reducible rfl
  try simp only [Act.put, List.getElem_toArray, List.getElem_cons_succ, List.getElem_cons_zero, List.setIfInBounds_toArray, List.set_cons_zero, List.set_cons_succ]
  refine wpAnyH_ready (rs := [3]) (by kernel_rfl) (by simp) ?_
  refine AllReadyH.cons rfl (fun K hK => ?_) (AllReadyH.nil)
  go_simp
  go_at_call 90
  refine (nSum_any la l.length lc l Q rfl (by omega) hgr.2.1.1 hgr.2.1.2 HLA.out _ (U_s.out.ints).1).mono ?_
  rw [HT.out]
  rintro e' w' ⟨rfl, rfl⟩
  go_wp2_with fail
  refine hK.out _ _ (show _ from ⟨⟨G_s.out.1, G_s.out.2.1, G_s.out.2.2⟩, ⟨V_s.out.1, V_s.out.2⟩, CK_s.out⟩) (fun hHeld => ?_)
  clear hK K
  try simp only [Act.put, List.getElem_toArray, List.getElem_cons_succ, List.getElem_cons_zero, List.setIfInBounds_toArray, List.set_cons_zero, List.set_cons_succ]
  refine wpAnyH_ready (rs := [7]) (by kernel_rfl) (by simp) ?_
  refine AllReadyH.cons rfl (fun K hK => ?_) (AllReadyH.nil)
  go_simp
  go_at_call 90
  refine (nSum_any ra l.length rc rs Q HRL.out (by omega) hgr.2.1.1 hgr.2.1.2 HRA.out _ (R_s.out.ints).1).mono ?_
  rw [HR.out]
  rintro e' w' ⟨rfl, rfl⟩
  go_wp2_with fail
  refine hK.out _ _ (show _ from ⟨⟨G_s.out.1, G_s.out.2.1, G_s.out.2.2⟩, ⟨V_s.out.1, V_s.out.2⟩, CK_s.out⟩) (fun hHeld => ?_)
  clear hK K
  try simp only [Act.put, List.getElem_toArray, List.getElem_cons_succ, List.getElem_cons_zero, List.setIfInBounds_toArray, List.set_cons_zero, List.set_cons_succ]
  refine wpAnyH_take (i := 8) (v := ?_) rfl (by kernel_rfl) (by kernel_rfl) (by kernel_rfl) (fun _ _ _ h => h) (Or.inl ⟨by kernel_rfl, ?_⟩) (by assumption) ?_
  rotate_left 1
  · intro w9 hSw
    try dsimp only at hSw
    go_simp
    try with_reducible rfl
  try simp only [Act.put, List.getElem_toArray, List.getElem_cons_succ, List.getElem_cons_zero, List.setIfInBounds_toArray, List.set_cons_zero, List.set_cons_succ]
  refine wpAnyH_take (i := 9) (v := ?_) rfl (by kernel_rfl) (by kernel_rfl) (by kernel_rfl) (fun _ _ _ h => h) (Or.inl ⟨by kernel_rfl, ?_⟩) (by assumption) ?_
  rotate_left 1
  · intro w9 hSw
    try dsimp only at hSw
    go_simp
    try with_reducible rfl
  try simp only [Act.put, List.getElem_toArray, List.getElem_cons_succ, List.getElem_cons_zero, List.setIfInBounds_toArray, List.set_cons_zero, List.set_cons_succ]
  refine wpAnyH_done (by kernel_rfl) ?_ _
  have HB_11 := Lib.hid HB_s.out
  have G_11 := Lib.hid G_s.out
  have V_11 := Lib.hid V_s.out
  have Z_11 := Lib.hid Z_s.out
  have CK_11 := Lib.hid CK_s.out
  clear HB_s G_s V_s Z_s CK_s
  go_wp2_with fail
  have hbd : Below Ws.heap.size Ws Ws.drew := (Below.refl _ Ws).drew
  have HB_s := Lib.hid (bt HB_11.out hbd)
  have G_s := Lib.hid (G_11.out.below hbd)
  have V_s := Lib.hid (V_11.out.below hbd)
  have Z_s := Lib.hid (Z_11.out.below hbd)
  have CK_s := Lib.hid (CK_11.out.below hbd)
  clear hbd
  refine wp_region_held_drew (S := (fun w' => (w'.cell? ⟨w.heap.size, 0, none⟩ = some (.int .i64 P) ∧ w'.cell? ⟨w.heap.size, 1, none⟩ = some (.int .i64 Q) ∧ w'.cell? ⟨w.heap.size, 2, none⟩ = some (.int .i64 G)) ∧ (w'.cell? ⟨w.heap.size + 1, 0, none⟩ = some (.int .i64 H) ∧ w'.cell? ⟨w.heap.size + 1, 1, none⟩ = some (.slice ya hs.length yc)) ∧ w'.cell? ⟨kb, ko, none⟩ = some (.int .i64 a))) (by kernel_rfl) (show _ from ⟨⟨G_11.out.1, G_11.out.2.1, G_11.out.2.2⟩, ⟨V_11.out.1, V_11.out.2⟩, CK_11.out⟩) (fun hHeld => ?_)
  generalize hW0 : Ws.drew = Wt at *
  clear hW0
  refine wpAnyH_take (i := 0) (v := ?_) rfl (by kernel_rfl) (by kernel_rfl) (by kernel_rfl) (fun _ _ _ h => h) (Or.inl ⟨by kernel_rfl, ?_⟩) (by assumption) ?_
  rotate_left 1
  · intro w9 hSw
    try dsimp only at hSw
    go_simp
    try with_reducible rfl
  try simp only [Act.put, List.getElem_toArray, List.getElem_cons_succ, List.getElem_cons_zero, List.setIfInBounds_toArray, List.set_cons_zero, List.set_cons_succ]
  refine wpAnyH_take (i := 1) (v := ?_) rfl (by kernel_rfl) (by kernel_rfl) (by kernel_rfl) (fun _ _ _ h => h) (Or.inl ⟨by kernel_rfl, ?_⟩) (by assumption) ?_
  rotate_left 1
  · intro w9 hSw
    try dsimp only at hSw
    go_simp
    try with_reducible rfl
  try simp only [Act.put, List.getElem_toArray, List.getElem_cons_succ, List.getElem_cons_zero, List.setIfInBounds_toArray, List.set_cons_zero, List.set_cons_succ]
  refine wpAnyH_take (i := 2) (v := ?_) rfl (by kernel_rfl) (by kernel_rfl) (by kernel_rfl) (fun _ _ _ h => h) (Or.inl ⟨by kernel_rfl, ?_⟩) (by assumption) ?_
  rotate_left 1
  · intro w9 hSw
    try dsimp only at hSw
    go_simp
    try with_reducible rfl
  try simp only [Act.put, List.getElem_toArray, List.getElem_cons_succ, List.getElem_cons_zero, List.setIfInBounds_toArray, List.set_cons_zero, List.set_cons_succ]
  refine wpAnyH_take (i := 3) (v := ?_) rfl (by kernel_rfl) (by kernel_rfl) (by kernel_rfl) (fun _ _ _ h => h) (Or.inl ⟨by kernel_rfl, ?_⟩) (by assumption) ?_
  rotate_left 1
  · intro w9 hSw
    try dsimp only at hSw
    go_simp
    try with_reducible rfl
  try simp only [Act.put, List.getElem_toArray, List.getElem_cons_succ, List.getElem_cons_zero, List.setIfInBounds_toArray, List.set_cons_zero, List.set_cons_succ]
  refine wpAnyH_take (i := 4) (v := ?_) rfl (by kernel_rfl) (by kernel_rfl) (by kernel_rfl) (fun _ _ _ h => h) (Or.inl ⟨by kernel_rfl, ?_⟩) (by assumption) ?_
  rotate_left 1
  · intro w9 hSw
    try dsimp only at hSw
    go_simp
    try with_reducible rfl
  try simp only [Act.put, List.getElem_toArray, List.getElem_cons_succ, List.getElem_cons_zero, List.setIfInBounds_toArray, List.set_cons_zero, List.set_cons_succ]
  refine wpAnyH_take (i := 5) (v := ?_) rfl (by kernel_rfl) (by kernel_rfl) (by kernel_rfl) (fun _ _ _ h => h) (Or.inl ⟨by kernel_rfl, ?_⟩) (by assumption) ?_
  rotate_left 1
  · intro w9 hSw
    try dsimp only at hSw
    go_simp
    try with_reducible rfl
  try simp only [Act.put, List.getElem_toArray, List.getElem_cons_succ, List.getElem_cons_zero, List.setIfInBounds_toArray, List.set_cons_zero, List.set_cons_succ]
  refine wpAnyH_ready (rs := [6]) (by kernel_rfl) (by simp) ?_
  refine AllReadyH.cons rfl (fun K hK => ?_) (AllReadyH.nil)
  go_simp
  go_at_call 91
  refine (gExp_any P Q G H a HHR.out.1 HHR.out.2 HA.out.1 HA.out.2 hmo.1.1 hgr.1.2 hgr.2.1.1 hgr.2.1.2 _).mono ?_
  rw [HXV.out]
  rintro e' Wtg ⟨rfl, hb⟩
  have HB_sg := Lib.hid (bt HB_s.out hb)
  have G_sg := Lib.hid (G_s.out.below hb)
  have V_sg := Lib.hid (V_s.out.below hb)
  have Z_sg := Lib.hid (Z_s.out.below hb)
  have CK_sg := Lib.hid (CK_s.out.below hb)
  clear hb
  go_wp2_with fail
  refine hK.out _ _ (show _ from ⟨⟨G_sg.out.1, G_sg.out.2.1, G_sg.out.2.2⟩, ⟨V_sg.out.1, V_sg.out.2⟩, CK_sg.out⟩) (fun hHeld => ?_)
  clear hK K
  try simp only [Act.put, List.getElem_toArray, List.getElem_cons_succ, List.getElem_cons_zero, List.setIfInBounds_toArray, List.set_cons_zero, List.set_cons_succ]
  refine wpAnyH_take (i := 7) (v := ?_) rfl (by kernel_rfl) (by kernel_rfl) (by kernel_rfl) (fun _ _ _ h => h) (Or.inl ⟨by kernel_rfl, ?_⟩) (by assumption) ?_
  rotate_left 1
  · intro w9 hSw
    try dsimp only at hSw
    go_simp
    try with_reducible rfl
  try simp only [Act.put, List.getElem_toArray, List.getElem_cons_succ, List.getElem_cons_zero, List.setIfInBounds_toArray, List.set_cons_zero, List.set_cons_succ]
  refine wpAnyH_done (by kernel_rfl) ?_ _
  have HB_12 := Lib.hid HB_sg.out
  have G_12 := Lib.hid G_sg.out
  have V_12 := Lib.hid V_sg.out
  have Z_12 := Lib.hid Z_sg.out
  have CK_12 := Lib.hid CK_sg.out
  clear HB_sg G_sg V_sg Z_sg CK_sg
  go_wp2_with fail
  have hbd : Below Wtg.heap.size Wtg Wtg.drew := (Below.refl _ Wtg).drew
  have HB_s := Lib.hid (bt HB_12.out hbd)
  have G_s := Lib.hid (G_12.out.below hbd)
  have V_s := Lib.hid (V_12.out.below hbd)
  have Z_s := Lib.hid (Z_12.out.below hbd)
  have CK_s := Lib.hid (CK_12.out.below hbd)
  clear hbd
  refine wp_region_held_drew (S := (fun w' => (w'.cell? ⟨w.heap.size, 0, none⟩ = some (.int .i64 P) ∧ w'.cell? ⟨w.heap.size, 1, none⟩ = some (.int .i64 Q) ∧ w'.cell? ⟨w.heap.size, 2, none⟩ = some (.int .i64 G)) ∧ (w'.cell? ⟨w.heap.size + 1, 0, none⟩ = some (.int .i64 H) ∧ w'.cell? ⟨w.heap.size + 1, 1, none⟩ = some (.slice ya hs.length yc)) ∧ w'.cell? ⟨kb, ko, none⟩ = some (.int .i64 a))) (by kernel_rfl) (show _ from ⟨⟨G_12.out.1, G_12.out.2.1, G_12.out.2.2⟩, ⟨V_12.out.1, V_12.out.2⟩, CK_12.out⟩) (fun hHeld => ?_)
  generalize hW0 : Wtg.drew = Wu at *
  clear hW0
  refine wpAnyH_take (i := 0) (v := ?_) rfl (by kernel_rfl) (by kernel_rfl) (by kernel_rfl) (fun _ _ _ h => h) (Or.inl ⟨by kernel_rfl, ?_⟩) (by assumption) ?_
  rotate_left 1
  · intro w9 hSw
    try dsimp only at hSw
    go_simp
    try with_reducible rfl
  try simp only [Act.put, List.getElem_toArray, List.getElem_cons_succ, List.getElem_cons_zero, List.setIfInBounds_toArray, List.set_cons_zero, List.set_cons_succ]
  refine wpAnyH_take (i := 1) (v := ?_) rfl (by kernel_rfl) (by kernel_rfl) (by kernel_rfl) (fun _ _ _ h => h) (Or.inl ⟨by kernel_rfl, ?_⟩) (by assumption) ?_
  rotate_left 1
  · intro w9 hSw
    try dsimp only at hSw
    go_simp
    try with_reducible rfl
  try simp only [Act.put, List.getElem_toArray, List.getElem_cons_succ, List.getElem_cons_zero, List.setIfInBounds_toArray, List.set_cons_zero, List.set_cons_succ]
  refine wpAnyH_take (i := 2) (v := ?_) rfl (by kernel_rfl) (by kernel_rfl) (by kernel_rfl) (fun _ _ _ h => h) (Or.inl ⟨by kernel_rfl, ?_⟩) (by assumption) ?_
  rotate_left 1
  · intro w9 hSw
    try dsimp only at hSw
    go_simp
    try with_reducible rfl
  try simp only [Act.put, List.getElem_toArray, List.getElem_cons_succ, List.getElem_cons_zero, List.setIfInBounds_toArray, List.set_cons_zero, List.set_cons_succ]
  refine wpAnyH_take (i := 3) (v := ?_) rfl (by kernel_rfl) (by kernel_rfl) (by kernel_rfl) (fun _ _ _ h => h) (Or.inl ⟨by kernel_rfl, ?_⟩) (by assumption) ?_
  rotate_left 1
  · intro w9 hSw
    try dsimp only at hSw
    go_simp
    try with_reducible rfl
  try simp only [Act.put, List.getElem_toArray, List.getElem_cons_succ, List.getElem_cons_zero, List.setIfInBounds_toArray, List.set_cons_zero, List.set_cons_succ]
  refine wpAnyH_take (i := 4) (v := ?_) rfl (by kernel_rfl) (by kernel_rfl) (by kernel_rfl) (fun _ _ _ h => h) (Or.inl ⟨by kernel_rfl, ?_⟩) (by assumption) ?_
  rotate_left 1
  · intro w9 hSw
    try dsimp only at hSw
    go_simp
    try with_reducible rfl
  try simp only [Act.put, List.getElem_toArray, List.getElem_cons_succ, List.getElem_cons_zero, List.setIfInBounds_toArray, List.set_cons_zero, List.set_cons_succ]
  refine wpAnyH_take (i := 5) (v := ?_) rfl (by kernel_rfl) (by kernel_rfl) (by kernel_rfl) (fun _ _ _ h => h) (Or.inl ⟨by kernel_rfl, ?_⟩) (by assumption) ?_
  rotate_left 1
  · intro w9 hSw
    try dsimp only at hSw
    go_simp
    try with_reducible rfl
  try simp only [Act.put, List.getElem_toArray, List.getElem_cons_succ, List.getElem_cons_zero, List.setIfInBounds_toArray, List.set_cons_zero, List.set_cons_succ]
  refine wpAnyH_take (i := 7) (v := ?_) rfl (by kernel_rfl) (by kernel_rfl) (by kernel_rfl) (fun _ _ _ h => h) (Or.inl ⟨by kernel_rfl, ?_⟩) (by assumption) ?_
  rotate_left 1
  · intro w9 hSw
    try dsimp only at hSw
    go_simp
    try with_reducible rfl
  try simp only [Act.put, List.getElem_toArray, List.getElem_cons_succ, List.getElem_cons_zero, List.setIfInBounds_toArray, List.set_cons_zero, List.set_cons_succ]
  refine wpAnyH_take (i := 8) (v := ?_) rfl (by kernel_rfl) (by kernel_rfl) (by kernel_rfl) (fun _ _ _ h => h) (Or.inl ⟨by kernel_rfl, ?_⟩) (by assumption) ?_
  rotate_left 1
  · intro w9 hSw
    try dsimp only at hSw
    go_simp
    try with_reducible rfl
  try simp only [Act.put, List.getElem_toArray, List.getElem_cons_succ, List.getElem_cons_zero, List.setIfInBounds_toArray, List.set_cons_zero, List.set_cons_succ]
  refine wpAnyH_ready (rs := [6]) (by kernel_rfl) (by simp) ?_
  refine AllReadyH.cons rfl (fun K hK => ?_) (AllReadyH.nil)
  go_simp
  go_at_call 93
  refine (pCommit_any P Q G H t r HG.out HH.out HTr.out HRr.out _).mono ?_
  rw [HCW.out]
  rintro e' Wug ⟨rfl, hb⟩
  have HB_sg := Lib.hid (bt HB_s.out hb)
  have G_sg := Lib.hid (G_s.out.below hb)
  have V_sg := Lib.hid (V_s.out.below hb)
  have Z_sg := Lib.hid (Z_s.out.below hb)
  have CK_sg := Lib.hid (CK_s.out.below hb)
  clear hb
  go_wp2_with fail
  refine hK.out _ _ (show _ from ⟨⟨G_sg.out.1, G_sg.out.2.1, G_sg.out.2.2⟩, ⟨V_sg.out.1, V_sg.out.2⟩, CK_sg.out⟩) (fun hHeld => ?_)
  clear hK K
  try simp only [Act.put, List.getElem_toArray, List.getElem_cons_succ, List.getElem_cons_zero, List.setIfInBounds_toArray, List.set_cons_zero, List.set_cons_succ]
  refine wpAnyH_ready (rs := [9]) (by kernel_rfl) (by simp) ?_
  refine AllReadyH.cons rfl (fun K hK => ?_) (AllReadyH.nil)
  go_simp
  go_at_call 92
  refine (rSumChallenge_any P Q G H c0 t x HG.out HH.out HC0.out HTr.out HX.out _).mono ?_
  rw [HCH.out]
  rintro e' Wugj ⟨rfl, hb⟩
  have HB_sgj := Lib.hid (bt HB_sg.out hb)
  have G_sgj := Lib.hid (G_sg.out.below hb)
  have V_sgj := Lib.hid (V_sg.out.below hb)
  have Z_sgj := Lib.hid (Z_sg.out.below hb)
  have CK_sgj := Lib.hid (CK_sg.out.below hb)
  clear hb
  go_wp2_with fail
  refine hK.out _ _ (show _ from ⟨⟨G_sgj.out.1, G_sgj.out.2.1, G_sgj.out.2.2⟩, ⟨V_sgj.out.1, V_sgj.out.2⟩, CK_sgj.out⟩) (fun hHeld => ?_)
  clear hK K
  try simp only [Act.put, List.getElem_toArray, List.getElem_cons_succ, List.getElem_cons_zero, List.setIfInBounds_toArray, List.set_cons_zero, List.set_cons_succ]
  refine wpAnyH_take (i := 10) (v := ?_) rfl (by kernel_rfl) (by kernel_rfl) (by kernel_rfl) (fun _ _ _ h => h) (Or.inl ⟨by kernel_rfl, ?_⟩) (by assumption) ?_
  rotate_left 1
  · intro w9 hSw
    try dsimp only at hSw
    go_simp
    try with_reducible rfl
  try simp only [Act.put, List.getElem_toArray, List.getElem_cons_succ, List.getElem_cons_zero, List.setIfInBounds_toArray, List.set_cons_zero, List.set_cons_succ]
  refine wpAnyH_done (by kernel_rfl) ?_ _
  have HB_13 := Lib.hid HB_sgj.out
  have G_13 := Lib.hid G_sgj.out
  have V_13 := Lib.hid V_sgj.out
  have Z_13 := Lib.hid Z_sgj.out
  have CK_13 := Lib.hid CK_sgj.out
  clear HB_sgj G_sgj V_sgj Z_sgj CK_sgj
  go_wp2_with fail
  have hbd : Below Wugj.heap.size Wugj Wugj.drew := (Below.refl _ Wugj).drew
  have HB_s := Lib.hid (bt HB_13.out hbd)
  have G_s := Lib.hid (G_13.out.below hbd)
  have V_s := Lib.hid (V_13.out.below hbd)
  have Z_s := Lib.hid (Z_13.out.below hbd)
  have CK_s := Lib.hid (CK_13.out.below hbd)
  clear hbd
  refine wp_region_held_drew (S := (fun w' => (w'.cell? ⟨w.heap.size, 0, none⟩ = some (.int .i64 P) ∧ w'.cell? ⟨w.heap.size, 1, none⟩ = some (.int .i64 Q) ∧ w'.cell? ⟨w.heap.size, 2, none⟩ = some (.int .i64 G)) ∧ (w'.cell? ⟨w.heap.size + 1, 0, none⟩ = some (.int .i64 H) ∧ w'.cell? ⟨w.heap.size + 1, 1, none⟩ = some (.slice ya hs.length yc)) ∧ w'.cell? ⟨kb, ko, none⟩ = some (.int .i64 a))) (by kernel_rfl) (show _ from ⟨⟨G_13.out.1, G_13.out.2.1, G_13.out.2.2⟩, ⟨V_13.out.1, V_13.out.2⟩, CK_13.out⟩) (fun hHeld => ?_)
  generalize hW0 : Wugj.drew = Wq at *
  clear hW0
  refine wpAnyH_take (i := 0) (v := ?_) rfl (by kernel_rfl) (by kernel_rfl) (by kernel_rfl) (fun _ _ _ h => h) (Or.inl ⟨by kernel_rfl, ?_⟩) (by assumption) ?_
  rotate_left 1
  · intro w9 hSw
    try dsimp only at hSw
    go_simp
    try with_reducible rfl
  try simp only [Act.put, List.getElem_toArray, List.getElem_cons_succ, List.getElem_cons_zero, List.setIfInBounds_toArray, List.set_cons_zero, List.set_cons_succ]
  refine wpAnyH_take (i := 2) (v := ?_) rfl (by kernel_rfl) (by kernel_rfl) (by kernel_rfl) (fun _ _ _ h => h) (Or.inl ⟨by kernel_rfl, ?_⟩) (by assumption) ?_
  rotate_left 1
  · intro w9 hSw
    try dsimp only at hSw
    go_simp
    try with_reducible rfl
  try simp only [Act.put, List.getElem_toArray, List.getElem_cons_succ, List.getElem_cons_zero, List.setIfInBounds_toArray, List.set_cons_zero, List.set_cons_succ]
  refine wpAnyH_take (i := 4) (v := ?_) rfl (by kernel_rfl) (by kernel_rfl) (by kernel_rfl) (fun _ _ _ h => h) (Or.inl ⟨by kernel_rfl, ?_⟩) (by assumption) ?_
  rotate_left 1
  · intro w9 hSw
    try dsimp only at hSw
    go_simp
    try with_reducible rfl
  try simp only [Act.put, List.getElem_toArray, List.getElem_cons_succ, List.getElem_cons_zero, List.setIfInBounds_toArray, List.set_cons_zero, List.set_cons_succ]
  refine wpAnyH_take (i := 5) (v := ?_) rfl (by kernel_rfl) (by kernel_rfl) (by kernel_rfl) (fun _ _ _ h => h) (Or.inl ⟨by kernel_rfl, ?_⟩) (by assumption) ?_
  rotate_left 1
  · intro w9 hSw
    try dsimp only at hSw
    go_simp
    try with_reducible rfl
  try simp only [Act.put, List.getElem_toArray, List.getElem_cons_succ, List.getElem_cons_zero, List.setIfInBounds_toArray, List.set_cons_zero, List.set_cons_succ]
  refine wpAnyH_take (i := 6) (v := ?_) rfl (by kernel_rfl) (by kernel_rfl) (by kernel_rfl) (fun _ _ _ h => h) (Or.inl ⟨by kernel_rfl, ?_⟩) (by assumption) ?_
  rotate_left 1
  · intro w9 hSw
    try dsimp only at hSw
    go_simp
    try with_reducible rfl
  try simp only [Act.put, List.getElem_toArray, List.getElem_cons_succ, List.getElem_cons_zero, List.setIfInBounds_toArray, List.set_cons_zero, List.set_cons_succ]
  refine wpAnyH_take (i := 7) (v := ?_) rfl (by kernel_rfl) (by kernel_rfl) (by kernel_rfl) (fun _ _ _ h => h) (Or.inl ⟨by kernel_rfl, ?_⟩) (by assumption) ?_
  rotate_left 1
  · intro w9 hSw
    try dsimp only at hSw
    go_simp
    try with_reducible rfl
  try simp only [Act.put, List.getElem_toArray, List.getElem_cons_succ, List.getElem_cons_zero, List.setIfInBounds_toArray, List.set_cons_zero, List.set_cons_succ]
  refine wpAnyH_take (i := 8) (v := ?_) rfl (by kernel_rfl) (by kernel_rfl) (by kernel_rfl) (fun _ _ _ h => h) (Or.inl ⟨by kernel_rfl, ?_⟩) (by assumption) ?_
  rotate_left 1
  · intro w9 hSw
    try dsimp only at hSw
    go_simp
    try with_reducible rfl
  try simp only [Act.put, List.getElem_toArray, List.getElem_cons_succ, List.getElem_cons_zero, List.setIfInBounds_toArray, List.set_cons_zero, List.set_cons_succ]
  refine wpAnyH_take (i := 9) (v := ?_) rfl (by kernel_rfl) (by kernel_rfl) (by kernel_rfl) (fun _ _ _ h => h) (Or.inl ⟨by kernel_rfl, ?_⟩) (by assumption) ?_
  rotate_left 1
  · intro w9 hSw
    try dsimp only at hSw
    go_simp
    try with_reducible rfl
  try simp only [Act.put, List.getElem_toArray, List.getElem_cons_succ, List.getElem_cons_zero, List.setIfInBounds_toArray, List.set_cons_zero, List.set_cons_succ]
  refine wpAnyH_take (i := 10) (v := ?_) rfl (by kernel_rfl) (by kernel_rfl) (by kernel_rfl) (fun _ _ _ h => h) (Or.inl ⟨by kernel_rfl, ?_⟩) (by assumption) ?_
  rotate_left 1
  · intro w9 hSw
    try dsimp only at hSw
    go_simp
    try with_reducible rfl
  try simp only [Act.put, List.getElem_toArray, List.getElem_cons_succ, List.getElem_cons_zero, List.setIfInBounds_toArray, List.set_cons_zero, List.set_cons_succ]
  refine wpAnyH_take (i := 11) (v := ?_) rfl (by kernel_rfl) (by kernel_rfl) (by kernel_rfl) (fun _ _ _ h => h) (Or.inl ⟨by kernel_rfl, ?_⟩) (by assumption) ?_
  rotate_left 1
  · intro w9 hSw
    try dsimp only at hSw
    go_simp
    try with_reducible rfl
  try simp only [Act.put, List.getElem_toArray, List.getElem_cons_succ, List.getElem_cons_zero, List.setIfInBounds_toArray, List.set_cons_zero, List.set_cons_succ]
  refine wpAnyH_take (i := 12) (v := ?_) rfl (by kernel_rfl) (by kernel_rfl) (by kernel_rfl) (fun _ _ _ h => h) (Or.inl ⟨by kernel_rfl, ?_⟩) (by assumption) ?_
  rotate_left 1
  · intro w9 hSw
    try dsimp only at hSw
    go_simp
    try with_reducible rfl
  try simp only [Act.put, List.getElem_toArray, List.getElem_cons_succ, List.getElem_cons_zero, List.setIfInBounds_toArray, List.set_cons_zero, List.set_cons_succ]
  refine wpAnyH_ready (rs := [1, 3, 13]) (by kernel_rfl) (by simp) ?_
  refine AllReadyH.cons rfl (fun K hK => ?_) (AllReadyH.cons rfl (fun K hK => ?_) (AllReadyH.cons rfl (fun K hK => ?_) (AllReadyH.nil)))
  · go_simp
    have hb := ba Wq (.cells #[.int .i64 x] 3)
    have HB_sb := Lib.hid (bt HB_s.out hb)
    have G_sb := Lib.hid (G_s.out.below hb)
    have V_sb := Lib.hid (V_s.out.below hb)
    have Z_sb := Lib.hid (Z_s.out.below hb)
    have CK_sb := Lib.hid (CK_s.out.below hb)
    have XC_sb := Lib.hid (show OwI Wq.heap.size (Wq.alloc (.cells #[.int .i64 x] 3)).heap.size (Wq.alloc (.cells #[.int .i64 x] 3)) (.slice (some ⟨Wq.heap.size, 0, none⟩) 1 1) [x] from jLit Wq [x] (by simp))
    have LXC := Lib.hid (show w.heap.size + 2 < Wq.heap.size from Z_s.out.lt)
    clear hb
    refine hK.out _ _ (show _ from ⟨⟨G_sb.out.1, G_sb.out.2.1, G_sb.out.2.2⟩, ⟨V_sb.out.1, V_sb.out.2⟩, CK_sb.out⟩) (fun hHeld => ?_)
    clear hK K
    try simp only [Act.put, List.getElem_toArray, List.getElem_cons_succ, List.getElem_cons_zero, List.setIfInBounds_toArray, List.set_cons_zero, List.set_cons_succ]
    generalize hW9 : Wq.alloc (.cells #[.int .i64 x] 3) = Wqb at *
    clear hW9
    refine wpAnyH_ready (rs := [3, 13]) (by kernel_rfl) (by simp) ?_
    refine AllReadyH.cons rfl (fun K hK => ?_) (AllReadyH.cons rfl (fun K hK => ?_) (AllReadyH.nil))
    · go_simp
      have hb := ba Wqb (.cells #[.int .i64 e] 3)
      have HB_sbd := Lib.hid (bt HB_sb.out hb)
      have G_sbd := Lib.hid (G_sb.out.below hb)
      have V_sbd := Lib.hid (V_sb.out.below hb)
      have Z_sbd := Lib.hid (Z_sb.out.below hb)
      have CK_sbd := Lib.hid (CK_sb.out.below hb)
      have XC_sbd := Lib.hid (XC_sb.out.below hb)
      have XH_sbd := Lib.hid (show OwI Wqb.heap.size (Wqb.alloc (.cells #[.int .i64 e] 3)).heap.size (Wqb.alloc (.cells #[.int .i64 e] 3)) (.slice (some ⟨Wqb.heap.size, 0, none⟩) 1 1) [e] from jLit Wqb [e] (by simp))
      have LXH := Lib.hid (show w.heap.size + 2 < Wqb.heap.size from Z_sb.out.lt)
      clear hb
      refine hK.out _ _ (show _ from ⟨⟨G_sbd.out.1, G_sbd.out.2.1, G_sbd.out.2.2⟩, ⟨V_sbd.out.1, V_sbd.out.2⟩, CK_sbd.out⟩) (fun hHeld => ?_)
      clear hK K
      try simp only [Act.put, List.getElem_toArray, List.getElem_cons_succ, List.getElem_cons_zero, List.setIfInBounds_toArray, List.set_cons_zero, List.set_cons_succ]
      generalize hW9 : Wqb.alloc (.cells #[.int .i64 e] 3) = Wqbd at *
      clear hW9
      refine wpAnyH_ready (rs := [13]) (by kernel_rfl) (by simp) ?_
      refine AllReadyH.cons rfl (fun K hK => ?_) (AllReadyH.nil)
      go_simp
      go_at_call 94
      refine (o_nn (a + er) Q HA1.out.1 HA1.out.2 hgr.2.1.1 hgr.2.1.2 _).mono ?_
      rw [HZ1.out]
      rintro e' w' ⟨rfl, rfl⟩
      go_wp2_with fail
      refine hK.out _ _ (show _ from ⟨⟨G_sbd.out.1, G_sbd.out.2.1, G_sbd.out.2.2⟩, ⟨V_sbd.out.1, V_sbd.out.2⟩, CK_sbd.out⟩) (fun hHeld => ?_)
      clear hK K
      try simp only [Act.put, List.getElem_toArray, List.getElem_cons_succ, List.getElem_cons_zero, List.setIfInBounds_toArray, List.set_cons_zero, List.set_cons_succ]
      refine wpAnyH_ready (rs := [14]) (by kernel_rfl) (by simp) ?_
      refine AllReadyH.cons rfl (fun K hK => ?_) (AllReadyH.nil)
      go_simp
      have hb := ba Wqbd (.cells #[.int .i64 z1] 3)
      have HB_sbdo := Lib.hid (bt HB_sbd.out hb)
      have G_sbdo := Lib.hid (G_sbd.out.below hb)
      have V_sbdo := Lib.hid (V_sbd.out.below hb)
      have Z_sbdo := Lib.hid (Z_sbd.out.below hb)
      have CK_sbdo := Lib.hid (CK_sbd.out.below hb)
      have XC_sbdo := Lib.hid (XC_sbd.out.below hb)
      have XH_sbdo := Lib.hid (XH_sbd.out.below hb)
      have XR_sbdo := Lib.hid (show OwI Wqbd.heap.size (Wqbd.alloc (.cells #[.int .i64 z1] 3)).heap.size (Wqbd.alloc (.cells #[.int .i64 z1] 3)) (.slice (some ⟨Wqbd.heap.size, 0, none⟩) 1 1) [z1] from jLit Wqbd [z1] (by simp))
      have LXR := Lib.hid (show w.heap.size + 2 < Wqbd.heap.size from Z_sbd.out.lt)
      clear hb
      refine hK.out _ _ (show _ from ⟨⟨G_sbdo.out.1, G_sbdo.out.2.1, G_sbdo.out.2.2⟩, ⟨V_sbdo.out.1, V_sbdo.out.2⟩, CK_sbdo.out⟩) (fun hHeld => ?_)
      clear hK K
      try simp only [Act.put, List.getElem_toArray, List.getElem_cons_succ, List.getElem_cons_zero, List.setIfInBounds_toArray, List.set_cons_zero, List.set_cons_succ]
      generalize hW9 : Wqbd.alloc (.cells #[.int .i64 z1] 3) = Wqbdo at *
      clear hW9
      refine wpAnyH_take (i := 15) (v := ?_) rfl (by kernel_rfl) (by kernel_rfl) (by kernel_rfl) (fun _ _ _ h => h) (Or.inl ⟨by kernel_rfl, ?_⟩) (by assumption) ?_
      rotate_left 1
      · intro w9 hSw
        try dsimp only at hSw
        go_simp
        try with_reducible rfl
      try simp only [Act.put, List.getElem_toArray, List.getElem_cons_succ, List.getElem_cons_zero, List.setIfInBounds_toArray, List.set_cons_zero, List.set_cons_succ]
      have hm5 := mid3 Wqbdo (w.heap.size + 2) (.slice (some ⟨Wq.heap.size, 0, none⟩) 1 1) (.slice (some ⟨Wqb.heap.size, 0, none⟩) 1 1) (.slice (some ⟨Wqbd.heap.size, 0, none⟩) 1 1)
      have hsz := hm5.size
      have G_y := Lib.hid (show GR _ w.heap.size P Q G from ⟨jCell hm5 G_sbdo.out.1 (by omega), jCell hm5 G_sbdo.out.2.1 (by omega), jCell hm5 G_sbdo.out.2.2 (by omega)⟩)
      have V_y := Lib.hid (show D2 _ (w.heap.size + 1) (.int .i64 H) (.slice ya hs.length yc) from ⟨jCell hm5 V_sbdo.out.1 (by omega), jCell hm5 V_sbdo.out.2 (by omega)⟩)
      have CK_y := Lib.hid (show C1o _ kb ko a from jCell hm5 CK_sbdo.out (by have := HKB.out; omega))
      have C_y := Lib.hid (XC_sbdo.out.mid hm5 (.inr (by have := LXC.out; omega)))
      have H_y := Lib.hid (XH_sbdo.out.mid hm5 (.inr (by have := LXH.out; omega)))
      have R_y := Lib.hid (XR_sbdo.out.mid hm5 (.inr (by have := LXR.out; omega)))
      have HB_y := Lib.hid (HB_sbdo.out.trans (hm5.toBelow (by omega) HB_sbdo.out.size))
      clear hm5
      refine wpAnyH_ready (rs := [16]) (by kernel_rfl) (by simp) ?_
      refine AllReadyH.cons rfl (fun K hK => ?_) AllReadyH.nil
      obtain ⟨y0, y1, y2, yf⟩ := Z_sbdo.out
      have yf0 := yf 0
      have yf1 := yf 1
      have yf2 := yf 2
      clear yf
      go_simp
      refine hK.out _ _ (show _ from ⟨⟨G_y.out.1, G_y.out.2.1, G_y.out.2.2⟩, ⟨V_y.out.1, V_y.out.2⟩, CK_y.out⟩) (fun hHeld => ?_)
      clear hK K
      try simp only [Act.put, List.getElem_toArray, List.getElem_cons_succ, List.getElem_cons_zero, List.setIfInBounds_toArray, List.set_cons_zero, List.set_cons_succ]
      refine wpAnyH_take (i := 17) (v := ?_) rfl (by kernel_rfl) (by kernel_rfl) (by kernel_rfl) (fun _ _ _ h => h) (Or.inl ⟨by kernel_rfl, ?_⟩) (by assumption) ?_
      rotate_left 1
      · intro w9 hSw
        try dsimp only at hSw
        go_simp
        try with_reducible rfl
      try simp only [Act.put, List.getElem_toArray, List.getElem_cons_succ, List.getElem_cons_zero, List.setIfInBounds_toArray, List.set_cons_zero, List.set_cons_succ]
      refine wpAnyH_done (by kernel_rfl) ?_ _
      go_wp2
      (try simp only [Exit.inBlock, Exit.then])
      refine bodyPost_ret (v := .tuple #[.agg #[.slice (some ⟨Wq.heap.size, 0, none⟩) 1 1, .slice (some ⟨Wqb.heap.size, 0, none⟩) 1 1, .slice (some ⟨Wqbd.heap.size, 0, none⟩) 1 1], .bool true]) ?_ rfl ?_
      · rw [results_cell_tmp rfl]; go_simp
      · exact ⟨_, _, _, rfl, ⟨_, _, _, rfl, C_y.out.wide (by have := LXC.out; omega) C_y.out.toIn.le (Nat.le_refl _), H_y.out.wide (by have := LXH.out; omega) H_y.out.toIn.le (Nat.le_refl _), R_y.out.wide (by have := LXR.out; omega) R_y.out.toIn.le (Nat.le_refl _)⟩, HB_y.out⟩
    · go_simp
      go_at_call 94
      refine (o_nn (a + er) Q HA1.out.1 HA1.out.2 hgr.2.1.1 hgr.2.1.2 _).mono ?_
      rw [HZ1.out]
      rintro e' w' ⟨rfl, rfl⟩
      go_wp2_with fail
      refine hK.out _ _ (show _ from ⟨⟨G_sb.out.1, G_sb.out.2.1, G_sb.out.2.2⟩, ⟨V_sb.out.1, V_sb.out.2⟩, CK_sb.out⟩) (fun hHeld => ?_)
      clear hK K
      try simp only [Act.put, List.getElem_toArray, List.getElem_cons_succ, List.getElem_cons_zero, List.setIfInBounds_toArray, List.set_cons_zero, List.set_cons_succ]
      refine wpAnyH_ready (rs := [3, 14]) (by kernel_rfl) (by simp) ?_
      refine AllReadyH.cons rfl (fun K hK => ?_) (AllReadyH.cons rfl (fun K hK => ?_) (AllReadyH.nil))
      · go_simp
        have hb := ba Wqb (.cells #[.int .i64 e] 3)
        have HB_sbd := Lib.hid (bt HB_sb.out hb)
        have G_sbd := Lib.hid (G_sb.out.below hb)
        have V_sbd := Lib.hid (V_sb.out.below hb)
        have Z_sbd := Lib.hid (Z_sb.out.below hb)
        have CK_sbd := Lib.hid (CK_sb.out.below hb)
        have XC_sbd := Lib.hid (XC_sb.out.below hb)
        have XH_sbd := Lib.hid (show OwI Wqb.heap.size (Wqb.alloc (.cells #[.int .i64 e] 3)).heap.size (Wqb.alloc (.cells #[.int .i64 e] 3)) (.slice (some ⟨Wqb.heap.size, 0, none⟩) 1 1) [e] from jLit Wqb [e] (by simp))
        have LXH := Lib.hid (show w.heap.size + 2 < Wqb.heap.size from Z_sb.out.lt)
        clear hb
        refine hK.out _ _ (show _ from ⟨⟨G_sbd.out.1, G_sbd.out.2.1, G_sbd.out.2.2⟩, ⟨V_sbd.out.1, V_sbd.out.2⟩, CK_sbd.out⟩) (fun hHeld => ?_)
        clear hK K
        try simp only [Act.put, List.getElem_toArray, List.getElem_cons_succ, List.getElem_cons_zero, List.setIfInBounds_toArray, List.set_cons_zero, List.set_cons_succ]
        generalize hW9 : Wqb.alloc (.cells #[.int .i64 e] 3) = Wqbd at *
        clear hW9
        refine wpAnyH_ready (rs := [14]) (by kernel_rfl) (by simp) ?_
        refine AllReadyH.cons rfl (fun K hK => ?_) (AllReadyH.nil)
        go_simp
        have hb := ba Wqbd (.cells #[.int .i64 z1] 3)
        have HB_sbdo := Lib.hid (bt HB_sbd.out hb)
        have G_sbdo := Lib.hid (G_sbd.out.below hb)
        have V_sbdo := Lib.hid (V_sbd.out.below hb)
        have Z_sbdo := Lib.hid (Z_sbd.out.below hb)
        have CK_sbdo := Lib.hid (CK_sbd.out.below hb)
        have XC_sbdo := Lib.hid (XC_sbd.out.below hb)
        have XH_sbdo := Lib.hid (XH_sbd.out.below hb)
        have XR_sbdo := Lib.hid (show OwI Wqbd.heap.size (Wqbd.alloc (.cells #[.int .i64 z1] 3)).heap.size (Wqbd.alloc (.cells #[.int .i64 z1] 3)) (.slice (some ⟨Wqbd.heap.size, 0, none⟩) 1 1) [z1] from jLit Wqbd [z1] (by simp))
        have LXR := Lib.hid (show w.heap.size + 2 < Wqbd.heap.size from Z_sbd.out.lt)
        clear hb
        refine hK.out _ _ (show _ from ⟨⟨G_sbdo.out.1, G_sbdo.out.2.1, G_sbdo.out.2.2⟩, ⟨V_sbdo.out.1, V_sbdo.out.2⟩, CK_sbdo.out⟩) (fun hHeld => ?_)
        clear hK K
        try simp only [Act.put, List.getElem_toArray, List.getElem_cons_succ, List.getElem_cons_zero, List.setIfInBounds_toArray, List.set_cons_zero, List.set_cons_succ]
        generalize hW9 : Wqbd.alloc (.cells #[.int .i64 z1] 3) = Wqbdo at *
        clear hW9
        refine wpAnyH_take (i := 15) (v := ?_) rfl (by kernel_rfl) (by kernel_rfl) (by kernel_rfl) (fun _ _ _ h => h) (Or.inl ⟨by kernel_rfl, ?_⟩) (by assumption) ?_
        rotate_left 1
        · intro w9 hSw
          try dsimp only at hSw
          go_simp
          try with_reducible rfl
        try simp only [Act.put, List.getElem_toArray, List.getElem_cons_succ, List.getElem_cons_zero, List.setIfInBounds_toArray, List.set_cons_zero, List.set_cons_succ]
        have hm5 := mid3 Wqbdo (w.heap.size + 2) (.slice (some ⟨Wq.heap.size, 0, none⟩) 1 1) (.slice (some ⟨Wqb.heap.size, 0, none⟩) 1 1) (.slice (some ⟨Wqbd.heap.size, 0, none⟩) 1 1)
        have hsz := hm5.size
        have G_y := Lib.hid (show GR _ w.heap.size P Q G from ⟨jCell hm5 G_sbdo.out.1 (by omega), jCell hm5 G_sbdo.out.2.1 (by omega), jCell hm5 G_sbdo.out.2.2 (by omega)⟩)
        have V_y := Lib.hid (show D2 _ (w.heap.size + 1) (.int .i64 H) (.slice ya hs.length yc) from ⟨jCell hm5 V_sbdo.out.1 (by omega), jCell hm5 V_sbdo.out.2 (by omega)⟩)
        have CK_y := Lib.hid (show C1o _ kb ko a from jCell hm5 CK_sbdo.out (by have := HKB.out; omega))
        have C_y := Lib.hid (XC_sbdo.out.mid hm5 (.inr (by have := LXC.out; omega)))
        have H_y := Lib.hid (XH_sbdo.out.mid hm5 (.inr (by have := LXH.out; omega)))
        have R_y := Lib.hid (XR_sbdo.out.mid hm5 (.inr (by have := LXR.out; omega)))
        have HB_y := Lib.hid (HB_sbdo.out.trans (hm5.toBelow (by omega) HB_sbdo.out.size))
        clear hm5
        refine wpAnyH_ready (rs := [16]) (by kernel_rfl) (by simp) ?_
        refine AllReadyH.cons rfl (fun K hK => ?_) AllReadyH.nil
        obtain ⟨y0, y1, y2, yf⟩ := Z_sbdo.out
        have yf0 := yf 0
        have yf1 := yf 1
        have yf2 := yf 2
        clear yf
        go_simp
        refine hK.out _ _ (show _ from ⟨⟨G_y.out.1, G_y.out.2.1, G_y.out.2.2⟩, ⟨V_y.out.1, V_y.out.2⟩, CK_y.out⟩) (fun hHeld => ?_)
        clear hK K
        try simp only [Act.put, List.getElem_toArray, List.getElem_cons_succ, List.getElem_cons_zero, List.setIfInBounds_toArray, List.set_cons_zero, List.set_cons_succ]
        refine wpAnyH_take (i := 17) (v := ?_) rfl (by kernel_rfl) (by kernel_rfl) (by kernel_rfl) (fun _ _ _ h => h) (Or.inl ⟨by kernel_rfl, ?_⟩) (by assumption) ?_
        rotate_left 1
        · intro w9 hSw
          try dsimp only at hSw
          go_simp
          try with_reducible rfl
        try simp only [Act.put, List.getElem_toArray, List.getElem_cons_succ, List.getElem_cons_zero, List.setIfInBounds_toArray, List.set_cons_zero, List.set_cons_succ]
        refine wpAnyH_done (by kernel_rfl) ?_ _
        go_wp2
        (try simp only [Exit.inBlock, Exit.then])
        refine bodyPost_ret (v := .tuple #[.agg #[.slice (some ⟨Wq.heap.size, 0, none⟩) 1 1, .slice (some ⟨Wqb.heap.size, 0, none⟩) 1 1, .slice (some ⟨Wqbd.heap.size, 0, none⟩) 1 1], .bool true]) ?_ rfl ?_
        · rw [results_cell_tmp rfl]; go_simp
        · exact ⟨_, _, _, rfl, ⟨_, _, _, rfl, C_y.out.wide (by have := LXC.out; omega) C_y.out.toIn.le (Nat.le_refl _), H_y.out.wide (by have := LXH.out; omega) H_y.out.toIn.le (Nat.le_refl _), R_y.out.wide (by have := LXR.out; omega) R_y.out.toIn.le (Nat.le_refl _)⟩, HB_y.out⟩
      · go_simp
        have hb := ba Wqb (.cells #[.int .i64 z1] 3)
        have HB_sbo := Lib.hid (bt HB_sb.out hb)
        have G_sbo := Lib.hid (G_sb.out.below hb)
        have V_sbo := Lib.hid (V_sb.out.below hb)
        have Z_sbo := Lib.hid (Z_sb.out.below hb)
        have CK_sbo := Lib.hid (CK_sb.out.below hb)
        have XC_sbo := Lib.hid (XC_sb.out.below hb)
        have XR_sbo := Lib.hid (show OwI Wqb.heap.size (Wqb.alloc (.cells #[.int .i64 z1] 3)).heap.size (Wqb.alloc (.cells #[.int .i64 z1] 3)) (.slice (some ⟨Wqb.heap.size, 0, none⟩) 1 1) [z1] from jLit Wqb [z1] (by simp))
        have LXR := Lib.hid (show w.heap.size + 2 < Wqb.heap.size from Z_sb.out.lt)
        clear hb
        refine hK.out _ _ (show _ from ⟨⟨G_sbo.out.1, G_sbo.out.2.1, G_sbo.out.2.2⟩, ⟨V_sbo.out.1, V_sbo.out.2⟩, CK_sbo.out⟩) (fun hHeld => ?_)
        clear hK K
        try simp only [Act.put, List.getElem_toArray, List.getElem_cons_succ, List.getElem_cons_zero, List.setIfInBounds_toArray, List.set_cons_zero, List.set_cons_succ]
        generalize hW9 : Wqb.alloc (.cells #[.int .i64 z1] 3) = Wqbo at *
        clear hW9
        refine wpAnyH_ready (rs := [3]) (by kernel_rfl) (by simp) ?_
        refine AllReadyH.cons rfl (fun K hK => ?_) (AllReadyH.nil)
        go_simp
        have hb := ba Wqbo (.cells #[.int .i64 e] 3)
        have HB_sbod := Lib.hid (bt HB_sbo.out hb)
        have G_sbod := Lib.hid (G_sbo.out.below hb)
        have V_sbod := Lib.hid (V_sbo.out.below hb)
        have Z_sbod := Lib.hid (Z_sbo.out.below hb)
        have CK_sbod := Lib.hid (CK_sbo.out.below hb)
        have XC_sbod := Lib.hid (XC_sbo.out.below hb)
        have XR_sbod := Lib.hid (XR_sbo.out.below hb)
        have XH_sbod := Lib.hid (show OwI Wqbo.heap.size (Wqbo.alloc (.cells #[.int .i64 e] 3)).heap.size (Wqbo.alloc (.cells #[.int .i64 e] 3)) (.slice (some ⟨Wqbo.heap.size, 0, none⟩) 1 1) [e] from jLit Wqbo [e] (by simp))
        have LXH := Lib.hid (show w.heap.size + 2 < Wqbo.heap.size from Z_sbo.out.lt)
        clear hb
        refine hK.out _ _ (show _ from ⟨⟨G_sbod.out.1, G_sbod.out.2.1, G_sbod.out.2.2⟩, ⟨V_sbod.out.1, V_sbod.out.2⟩, CK_sbod.out⟩) (fun hHeld => ?_)
        clear hK K
        try simp only [Act.put, List.getElem_toArray, List.getElem_cons_succ, List.getElem_cons_zero, List.setIfInBounds_toArray, List.set_cons_zero, List.set_cons_succ]
        generalize hW9 : Wqbo.alloc (.cells #[.int .i64 e] 3) = Wqbod at *
        clear hW9
        refine wpAnyH_take (i := 15) (v := ?_) rfl (by kernel_rfl) (by kernel_rfl) (by kernel_rfl) (fun _ _ _ h => h) (Or.inl ⟨by kernel_rfl, ?_⟩) (by assumption) ?_
        rotate_left 1
        · intro w9 hSw
          try dsimp only at hSw
          go_simp
          try with_reducible rfl
        try simp only [Act.put, List.getElem_toArray, List.getElem_cons_succ, List.getElem_cons_zero, List.setIfInBounds_toArray, List.set_cons_zero, List.set_cons_succ]
        have hm5 := mid3 Wqbod (w.heap.size + 2) (.slice (some ⟨Wq.heap.size, 0, none⟩) 1 1) (.slice (some ⟨Wqbo.heap.size, 0, none⟩) 1 1) (.slice (some ⟨Wqb.heap.size, 0, none⟩) 1 1)
        have hsz := hm5.size
        have G_y := Lib.hid (show GR _ w.heap.size P Q G from ⟨jCell hm5 G_sbod.out.1 (by omega), jCell hm5 G_sbod.out.2.1 (by omega), jCell hm5 G_sbod.out.2.2 (by omega)⟩)
        have V_y := Lib.hid (show D2 _ (w.heap.size + 1) (.int .i64 H) (.slice ya hs.length yc) from ⟨jCell hm5 V_sbod.out.1 (by omega), jCell hm5 V_sbod.out.2 (by omega)⟩)
        have CK_y := Lib.hid (show C1o _ kb ko a from jCell hm5 CK_sbod.out (by have := HKB.out; omega))
        have C_y := Lib.hid (XC_sbod.out.mid hm5 (.inr (by have := LXC.out; omega)))
        have H_y := Lib.hid (XH_sbod.out.mid hm5 (.inr (by have := LXH.out; omega)))
        have R_y := Lib.hid (XR_sbod.out.mid hm5 (.inr (by have := LXR.out; omega)))
        have HB_y := Lib.hid (HB_sbod.out.trans (hm5.toBelow (by omega) HB_sbod.out.size))
        clear hm5
        refine wpAnyH_ready (rs := [16]) (by kernel_rfl) (by simp) ?_
        refine AllReadyH.cons rfl (fun K hK => ?_) AllReadyH.nil
        obtain ⟨y0, y1, y2, yf⟩ := Z_sbod.out
        have yf0 := yf 0
        have yf1 := yf 1
        have yf2 := yf 2
        clear yf
        go_simp
        refine hK.out _ _ (show _ from ⟨⟨G_y.out.1, G_y.out.2.1, G_y.out.2.2⟩, ⟨V_y.out.1, V_y.out.2⟩, CK_y.out⟩) (fun hHeld => ?_)
        clear hK K
        try simp only [Act.put, List.getElem_toArray, List.getElem_cons_succ, List.getElem_cons_zero, List.setIfInBounds_toArray, List.set_cons_zero, List.set_cons_succ]
        refine wpAnyH_take (i := 17) (v := ?_) rfl (by kernel_rfl) (by kernel_rfl) (by kernel_rfl) (fun _ _ _ h => h) (Or.inl ⟨by kernel_rfl, ?_⟩) (by assumption) ?_
        rotate_left 1
        · intro w9 hSw
          try dsimp only at hSw
          go_simp
          try with_reducible rfl
        try simp only [Act.put, List.getElem_toArray, List.getElem_cons_succ, List.getElem_cons_zero, List.setIfInBounds_toArray, List.set_cons_zero, List.set_cons_succ]
        refine wpAnyH_done (by kernel_rfl) ?_ _
        go_wp2
        (try simp only [Exit.inBlock, Exit.then])
        refine bodyPost_ret (v := .tuple #[.agg #[.slice (some ⟨Wq.heap.size, 0, none⟩) 1 1, .slice (some ⟨Wqbo.heap.size, 0, none⟩) 1 1, .slice (some ⟨Wqb.heap.size, 0, none⟩) 1 1], .bool true]) ?_ rfl ?_
        · rw [results_cell_tmp rfl]; go_simp
        · exact ⟨_, _, _, rfl, ⟨_, _, _, rfl, C_y.out.wide (by have := LXC.out; omega) C_y.out.toIn.le (Nat.le_refl _), H_y.out.wide (by have := LXH.out; omega) H_y.out.toIn.le (Nat.le_refl _), R_y.out.wide (by have := LXR.out; omega) R_y.out.toIn.le (Nat.le_refl _)⟩, HB_y.out⟩
  · go_simp
    have hb := ba Wq (.cells #[.int .i64 e] 3)
    have HB_sd := Lib.hid (bt HB_s.out hb)
    have G_sd := Lib.hid (G_s.out.below hb)
    have V_sd := Lib.hid (V_s.out.below hb)
    have Z_sd := Lib.hid (Z_s.out.below hb)
    have CK_sd := Lib.hid (CK_s.out.below hb)
    have XH_sd := Lib.hid (show OwI Wq.heap.size (Wq.alloc (.cells #[.int .i64 e] 3)).heap.size (Wq.alloc (.cells #[.int .i64 e] 3)) (.slice (some ⟨Wq.heap.size, 0, none⟩) 1 1) [e] from jLit Wq [e] (by simp))
    have LXH := Lib.hid (show w.heap.size + 2 < Wq.heap.size from Z_s.out.lt)
    clear hb
    refine hK.out _ _ (show _ from ⟨⟨G_sd.out.1, G_sd.out.2.1, G_sd.out.2.2⟩, ⟨V_sd.out.1, V_sd.out.2⟩, CK_sd.out⟩) (fun hHeld => ?_)
    clear hK K
    try simp only [Act.put, List.getElem_toArray, List.getElem_cons_succ, List.getElem_cons_zero, List.setIfInBounds_toArray, List.set_cons_zero, List.set_cons_succ]
    generalize hW9 : Wq.alloc (.cells #[.int .i64 e] 3) = Wqd at *
    clear hW9
    refine wpAnyH_ready (rs := [1, 13]) (by kernel_rfl) (by simp) ?_
    refine AllReadyH.cons rfl (fun K hK => ?_) (AllReadyH.cons rfl (fun K hK => ?_) (AllReadyH.nil))
    · go_simp
      have hb := ba Wqd (.cells #[.int .i64 x] 3)
      have HB_sdb := Lib.hid (bt HB_sd.out hb)
      have G_sdb := Lib.hid (G_sd.out.below hb)
      have V_sdb := Lib.hid (V_sd.out.below hb)
      have Z_sdb := Lib.hid (Z_sd.out.below hb)
      have CK_sdb := Lib.hid (CK_sd.out.below hb)
      have XH_sdb := Lib.hid (XH_sd.out.below hb)
      have XC_sdb := Lib.hid (show OwI Wqd.heap.size (Wqd.alloc (.cells #[.int .i64 x] 3)).heap.size (Wqd.alloc (.cells #[.int .i64 x] 3)) (.slice (some ⟨Wqd.heap.size, 0, none⟩) 1 1) [x] from jLit Wqd [x] (by simp))
      have LXC := Lib.hid (show w.heap.size + 2 < Wqd.heap.size from Z_sd.out.lt)
      clear hb
      refine hK.out _ _ (show _ from ⟨⟨G_sdb.out.1, G_sdb.out.2.1, G_sdb.out.2.2⟩, ⟨V_sdb.out.1, V_sdb.out.2⟩, CK_sdb.out⟩) (fun hHeld => ?_)
      clear hK K
      try simp only [Act.put, List.getElem_toArray, List.getElem_cons_succ, List.getElem_cons_zero, List.setIfInBounds_toArray, List.set_cons_zero, List.set_cons_succ]
      generalize hW9 : Wqd.alloc (.cells #[.int .i64 x] 3) = Wqdb at *
      clear hW9
      refine wpAnyH_ready (rs := [13]) (by kernel_rfl) (by simp) ?_
      refine AllReadyH.cons rfl (fun K hK => ?_) (AllReadyH.nil)
      go_simp
      go_at_call 94
      refine (o_nn (a + er) Q HA1.out.1 HA1.out.2 hgr.2.1.1 hgr.2.1.2 _).mono ?_
      rw [HZ1.out]
      rintro e' w' ⟨rfl, rfl⟩
      go_wp2_with fail
      refine hK.out _ _ (show _ from ⟨⟨G_sdb.out.1, G_sdb.out.2.1, G_sdb.out.2.2⟩, ⟨V_sdb.out.1, V_sdb.out.2⟩, CK_sdb.out⟩) (fun hHeld => ?_)
      clear hK K
      try simp only [Act.put, List.getElem_toArray, List.getElem_cons_succ, List.getElem_cons_zero, List.setIfInBounds_toArray, List.set_cons_zero, List.set_cons_succ]
      refine wpAnyH_ready (rs := [14]) (by kernel_rfl) (by simp) ?_
      refine AllReadyH.cons rfl (fun K hK => ?_) (AllReadyH.nil)
      go_simp
      have hb := ba Wqdb (.cells #[.int .i64 z1] 3)
      have HB_sdbo := Lib.hid (bt HB_sdb.out hb)
      have G_sdbo := Lib.hid (G_sdb.out.below hb)
      have V_sdbo := Lib.hid (V_sdb.out.below hb)
      have Z_sdbo := Lib.hid (Z_sdb.out.below hb)
      have CK_sdbo := Lib.hid (CK_sdb.out.below hb)
      have XH_sdbo := Lib.hid (XH_sdb.out.below hb)
      have XC_sdbo := Lib.hid (XC_sdb.out.below hb)
      have XR_sdbo := Lib.hid (show OwI Wqdb.heap.size (Wqdb.alloc (.cells #[.int .i64 z1] 3)).heap.size (Wqdb.alloc (.cells #[.int .i64 z1] 3)) (.slice (some ⟨Wqdb.heap.size, 0, none⟩) 1 1) [z1] from jLit Wqdb [z1] (by simp))
      have LXR := Lib.hid (show w.heap.size + 2 < Wqdb.heap.size from Z_sdb.out.lt)
      clear hb
      refine hK.out _ _ (show _ from ⟨⟨G_sdbo.out.1, G_sdbo.out.2.1, G_sdbo.out.2.2⟩, ⟨V_sdbo.out.1, V_sdbo.out.2⟩, CK_sdbo.out⟩) (fun hHeld => ?_)
      clear hK K
      try simp only [Act.put, List.getElem_toArray, List.getElem_cons_succ, List.getElem_cons_zero, List.setIfInBounds_toArray, List.set_cons_zero, List.set_cons_succ]
      generalize hW9 : Wqdb.alloc (.cells #[.int .i64 z1] 3) = Wqdbo at *
      clear hW9
      refine wpAnyH_take (i := 15) (v := ?_) rfl (by kernel_rfl) (by kernel_rfl) (by kernel_rfl) (fun _ _ _ h => h) (Or.inl ⟨by kernel_rfl, ?_⟩) (by assumption) ?_
      rotate_left 1
      · intro w9 hSw
        try dsimp only at hSw
        go_simp
        try with_reducible rfl
      try simp only [Act.put, List.getElem_toArray, List.getElem_cons_succ, List.getElem_cons_zero, List.setIfInBounds_toArray, List.set_cons_zero, List.set_cons_succ]
      have hm5 := mid3 Wqdbo (w.heap.size + 2) (.slice (some ⟨Wqd.heap.size, 0, none⟩) 1 1) (.slice (some ⟨Wq.heap.size, 0, none⟩) 1 1) (.slice (some ⟨Wqdb.heap.size, 0, none⟩) 1 1)
      have hsz := hm5.size
      have G_y := Lib.hid (show GR _ w.heap.size P Q G from ⟨jCell hm5 G_sdbo.out.1 (by omega), jCell hm5 G_sdbo.out.2.1 (by omega), jCell hm5 G_sdbo.out.2.2 (by omega)⟩)
      have V_y := Lib.hid (show D2 _ (w.heap.size + 1) (.int .i64 H) (.slice ya hs.length yc) from ⟨jCell hm5 V_sdbo.out.1 (by omega), jCell hm5 V_sdbo.out.2 (by omega)⟩)
      have CK_y := Lib.hid (show C1o _ kb ko a from jCell hm5 CK_sdbo.out (by have := HKB.out; omega))
      have C_y := Lib.hid (XC_sdbo.out.mid hm5 (.inr (by have := LXC.out; omega)))
      have H_y := Lib.hid (XH_sdbo.out.mid hm5 (.inr (by have := LXH.out; omega)))
      have R_y := Lib.hid (XR_sdbo.out.mid hm5 (.inr (by have := LXR.out; omega)))
      have HB_y := Lib.hid (HB_sdbo.out.trans (hm5.toBelow (by omega) HB_sdbo.out.size))
      clear hm5
      refine wpAnyH_ready (rs := [16]) (by kernel_rfl) (by simp) ?_
      refine AllReadyH.cons rfl (fun K hK => ?_) AllReadyH.nil
      obtain ⟨y0, y1, y2, yf⟩ := Z_sdbo.out
      have yf0 := yf 0
      have yf1 := yf 1
      have yf2 := yf 2
      clear yf
      go_simp
      refine hK.out _ _ (show _ from ⟨⟨G_y.out.1, G_y.out.2.1, G_y.out.2.2⟩, ⟨V_y.out.1, V_y.out.2⟩, CK_y.out⟩) (fun hHeld => ?_)
      clear hK K
      try simp only [Act.put, List.getElem_toArray, List.getElem_cons_succ, List.getElem_cons_zero, List.setIfInBounds_toArray, List.set_cons_zero, List.set_cons_succ]
      refine wpAnyH_take (i := 17) (v := ?_) rfl (by kernel_rfl) (by kernel_rfl) (by kernel_rfl) (fun _ _ _ h => h) (Or.inl ⟨by kernel_rfl, ?_⟩) (by assumption) ?_
      rotate_left 1
      · intro w9 hSw
        try dsimp only at hSw
        go_simp
        try with_reducible rfl
      try simp only [Act.put, List.getElem_toArray, List.getElem_cons_succ, List.getElem_cons_zero, List.setIfInBounds_toArray, List.set_cons_zero, List.set_cons_succ]
      refine wpAnyH_done (by kernel_rfl) ?_ _
      go_wp2
      (try simp only [Exit.inBlock, Exit.then])
      refine bodyPost_ret (v := .tuple #[.agg #[.slice (some ⟨Wqd.heap.size, 0, none⟩) 1 1, .slice (some ⟨Wq.heap.size, 0, none⟩) 1 1, .slice (some ⟨Wqdb.heap.size, 0, none⟩) 1 1], .bool true]) ?_ rfl ?_
      · rw [results_cell_tmp rfl]; go_simp
      · exact ⟨_, _, _, rfl, ⟨_, _, _, rfl, C_y.out.wide (by have := LXC.out; omega) C_y.out.toIn.le (Nat.le_refl _), H_y.out.wide (by have := LXH.out; omega) H_y.out.toIn.le (Nat.le_refl _), R_y.out.wide (by have := LXR.out; omega) R_y.out.toIn.le (Nat.le_refl _)⟩, HB_y.out⟩
    · go_simp
      go_at_call 94
      refine (o_nn (a + er) Q HA1.out.1 HA1.out.2 hgr.2.1.1 hgr.2.1.2 _).mono ?_
      rw [HZ1.out]
      rintro e' w' ⟨rfl, rfl⟩
      go_wp2_with fail
      refine hK.out _ _ (show _ from ⟨⟨G_sd.out.1, G_sd.out.2.1, G_sd.out.2.2⟩, ⟨V_sd.out.1, V_sd.out.2⟩, CK_sd.out⟩) (fun hHeld => ?_)
      clear hK K
      try simp only [Act.put, List.getElem_toArray, List.getElem_cons_succ, List.getElem_cons_zero, List.setIfInBounds_toArray, List.set_cons_zero, List.set_cons_succ]
      refine wpAnyH_ready (rs := [1, 14]) (by kernel_rfl) (by simp) ?_
      refine AllReadyH.cons rfl (fun K hK => ?_) (AllReadyH.cons rfl (fun K hK => ?_) (AllReadyH.nil))
      · go_simp
        have hb := ba Wqd (.cells #[.int .i64 x] 3)
        have HB_sdb := Lib.hid (bt HB_sd.out hb)
        have G_sdb := Lib.hid (G_sd.out.below hb)
        have V_sdb := Lib.hid (V_sd.out.below hb)
        have Z_sdb := Lib.hid (Z_sd.out.below hb)
        have CK_sdb := Lib.hid (CK_sd.out.below hb)
        have XH_sdb := Lib.hid (XH_sd.out.below hb)
        have XC_sdb := Lib.hid (show OwI Wqd.heap.size (Wqd.alloc (.cells #[.int .i64 x] 3)).heap.size (Wqd.alloc (.cells #[.int .i64 x] 3)) (.slice (some ⟨Wqd.heap.size, 0, none⟩) 1 1) [x] from jLit Wqd [x] (by simp))
        have LXC := Lib.hid (show w.heap.size + 2 < Wqd.heap.size from Z_sd.out.lt)
        clear hb
        refine hK.out _ _ (show _ from ⟨⟨G_sdb.out.1, G_sdb.out.2.1, G_sdb.out.2.2⟩, ⟨V_sdb.out.1, V_sdb.out.2⟩, CK_sdb.out⟩) (fun hHeld => ?_)
        clear hK K
        try simp only [Act.put, List.getElem_toArray, List.getElem_cons_succ, List.getElem_cons_zero, List.setIfInBounds_toArray, List.set_cons_zero, List.set_cons_succ]
        generalize hW9 : Wqd.alloc (.cells #[.int .i64 x] 3) = Wqdb at *
        clear hW9
        refine wpAnyH_ready (rs := [14]) (by kernel_rfl) (by simp) ?_
        refine AllReadyH.cons rfl (fun K hK => ?_) (AllReadyH.nil)
        go_simp
        have hb := ba Wqdb (.cells #[.int .i64 z1] 3)
        have HB_sdbo := Lib.hid (bt HB_sdb.out hb)
        have G_sdbo := Lib.hid (G_sdb.out.below hb)
        have V_sdbo := Lib.hid (V_sdb.out.below hb)
        have Z_sdbo := Lib.hid (Z_sdb.out.below hb)
        have CK_sdbo := Lib.hid (CK_sdb.out.below hb)
        have XH_sdbo := Lib.hid (XH_sdb.out.below hb)
        have XC_sdbo := Lib.hid (XC_sdb.out.below hb)
        have XR_sdbo := Lib.hid (show OwI Wqdb.heap.size (Wqdb.alloc (.cells #[.int .i64 z1] 3)).heap.size (Wqdb.alloc (.cells #[.int .i64 z1] 3)) (.slice (some ⟨Wqdb.heap.size, 0, none⟩) 1 1) [z1] from jLit Wqdb [z1] (by simp))
        have LXR := Lib.hid (show w.heap.size + 2 < Wqdb.heap.size from Z_sdb.out.lt)
        clear hb
        refine hK.out _ _ (show _ from ⟨⟨G_sdbo.out.1, G_sdbo.out.2.1, G_sdbo.out.2.2⟩, ⟨V_sdbo.out.1, V_sdbo.out.2⟩, CK_sdbo.out⟩) (fun hHeld => ?_)
        clear hK K
        try simp only [Act.put, List.getElem_toArray, List.getElem_cons_succ, List.getElem_cons_zero, List.setIfInBounds_toArray, List.set_cons_zero, List.set_cons_succ]
        generalize hW9 : Wqdb.alloc (.cells #[.int .i64 z1] 3) = Wqdbo at *
        clear hW9
        refine wpAnyH_take (i := 15) (v := ?_) rfl (by kernel_rfl) (by kernel_rfl) (by kernel_rfl) (fun _ _ _ h => h) (Or.inl ⟨by kernel_rfl, ?_⟩) (by assumption) ?_
        rotate_left 1
        · intro w9 hSw
          try dsimp only at hSw
          go_simp
          try with_reducible rfl
        try simp only [Act.put, List.getElem_toArray, List.getElem_cons_succ, List.getElem_cons_zero, List.setIfInBounds_toArray, List.set_cons_zero, List.set_cons_succ]
        have hm5 := mid3 Wqdbo (w.heap.size + 2) (.slice (some ⟨Wqd.heap.size, 0, none⟩) 1 1) (.slice (some ⟨Wq.heap.size, 0, none⟩) 1 1) (.slice (some ⟨Wqdb.heap.size, 0, none⟩) 1 1)
        have hsz := hm5.size
        have G_y := Lib.hid (show GR _ w.heap.size P Q G from ⟨jCell hm5 G_sdbo.out.1 (by omega), jCell hm5 G_sdbo.out.2.1 (by omega), jCell hm5 G_sdbo.out.2.2 (by omega)⟩)
        have V_y := Lib.hid (show D2 _ (w.heap.size + 1) (.int .i64 H) (.slice ya hs.length yc) from ⟨jCell hm5 V_sdbo.out.1 (by omega), jCell hm5 V_sdbo.out.2 (by omega)⟩)
        have CK_y := Lib.hid (show C1o _ kb ko a from jCell hm5 CK_sdbo.out (by have := HKB.out; omega))
        have C_y := Lib.hid (XC_sdbo.out.mid hm5 (.inr (by have := LXC.out; omega)))
        have H_y := Lib.hid (XH_sdbo.out.mid hm5 (.inr (by have := LXH.out; omega)))
        have R_y := Lib.hid (XR_sdbo.out.mid hm5 (.inr (by have := LXR.out; omega)))
        have HB_y := Lib.hid (HB_sdbo.out.trans (hm5.toBelow (by omega) HB_sdbo.out.size))
        clear hm5
        refine wpAnyH_ready (rs := [16]) (by kernel_rfl) (by simp) ?_
        refine AllReadyH.cons rfl (fun K hK => ?_) AllReadyH.nil
        obtain ⟨y0, y1, y2, yf⟩ := Z_sdbo.out
        have yf0 := yf 0
        have yf1 := yf 1
        have yf2 := yf 2
        clear yf
        go_simp
        refine hK.out _ _ (show _ from ⟨⟨G_y.out.1, G_y.out.2.1, G_y.out.2.2⟩, ⟨V_y.out.1, V_y.out.2⟩, CK_y.out⟩) (fun hHeld => ?_)
        clear hK K
        try simp only [Act.put, List.getElem_toArray, List.getElem_cons_succ, List.getElem_cons_zero, List.setIfInBounds_toArray, List.set_cons_zero, List.set_cons_succ]
        refine wpAnyH_take (i := 17) (v := ?_) rfl (by kernel_rfl) (by kernel_rfl) (by kernel_rfl) (fun _ _ _ h => h) (Or.inl ⟨by kernel_rfl, ?_⟩) (by assumption) ?_
        rotate_left 1
        · intro w9 hSw
          try dsimp only at hSw
          go_simp
          try with_reducible rfl
        try simp only [Act.put, List.getElem_toArray, List.getElem_cons_succ, List.getElem_cons_zero, List.setIfInBounds_toArray, List.set_cons_zero, List.set_cons_succ]
        refine wpAnyH_done (by kernel_rfl) ?_ _
        go_wp2
        (try simp only [Exit.inBlock, Exit.then])
        refine bodyPost_ret (v := .tuple #[.agg #[.slice (some ⟨Wqd.heap.size, 0, none⟩) 1 1, .slice (some ⟨Wq.heap.size, 0, none⟩) 1 1, .slice (some ⟨Wqdb.heap.size, 0, none⟩) 1 1], .bool true]) ?_ rfl ?_
        · rw [results_cell_tmp rfl]; go_simp
        · exact ⟨_, _, _, rfl, ⟨_, _, _, rfl, C_y.out.wide (by have := LXC.out; omega) C_y.out.toIn.le (Nat.le_refl _), H_y.out.wide (by have := LXH.out; omega) H_y.out.toIn.le (Nat.le_refl _), R_y.out.wide (by have := LXR.out; omega) R_y.out.toIn.le (Nat.le_refl _)⟩, HB_y.out⟩
      · go_simp
        have hb := ba Wqd (.cells #[.int .i64 z1] 3)
        have HB_sdo := Lib.hid (bt HB_sd.out hb)
        have G_sdo := Lib.hid (G_sd.out.below hb)
        have V_sdo := Lib.hid (V_sd.out.below hb)
        have Z_sdo := Lib.hid (Z_sd.out.below hb)
        have CK_sdo := Lib.hid (CK_sd.out.below hb)
        have XH_sdo := Lib.hid (XH_sd.out.below hb)
        have XR_sdo := Lib.hid (show OwI Wqd.heap.size (Wqd.alloc (.cells #[.int .i64 z1] 3)).heap.size (Wqd.alloc (.cells #[.int .i64 z1] 3)) (.slice (some ⟨Wqd.heap.size, 0, none⟩) 1 1) [z1] from jLit Wqd [z1] (by simp))
        have LXR := Lib.hid (show w.heap.size + 2 < Wqd.heap.size from Z_sd.out.lt)
        clear hb
        refine hK.out _ _ (show _ from ⟨⟨G_sdo.out.1, G_sdo.out.2.1, G_sdo.out.2.2⟩, ⟨V_sdo.out.1, V_sdo.out.2⟩, CK_sdo.out⟩) (fun hHeld => ?_)
        clear hK K
        try simp only [Act.put, List.getElem_toArray, List.getElem_cons_succ, List.getElem_cons_zero, List.setIfInBounds_toArray, List.set_cons_zero, List.set_cons_succ]
        generalize hW9 : Wqd.alloc (.cells #[.int .i64 z1] 3) = Wqdo at *
        clear hW9
        refine wpAnyH_ready (rs := [1]) (by kernel_rfl) (by simp) ?_
        refine AllReadyH.cons rfl (fun K hK => ?_) (AllReadyH.nil)
        go_simp
        have hb := ba Wqdo (.cells #[.int .i64 x] 3)
        have HB_sdob := Lib.hid (bt HB_sdo.out hb)
        have G_sdob := Lib.hid (G_sdo.out.below hb)
        have V_sdob := Lib.hid (V_sdo.out.below hb)
        have Z_sdob := Lib.hid (Z_sdo.out.below hb)
        have CK_sdob := Lib.hid (CK_sdo.out.below hb)
        have XH_sdob := Lib.hid (XH_sdo.out.below hb)
        have XR_sdob := Lib.hid (XR_sdo.out.below hb)
        have XC_sdob := Lib.hid (show OwI Wqdo.heap.size (Wqdo.alloc (.cells #[.int .i64 x] 3)).heap.size (Wqdo.alloc (.cells #[.int .i64 x] 3)) (.slice (some ⟨Wqdo.heap.size, 0, none⟩) 1 1) [x] from jLit Wqdo [x] (by simp))
        have LXC := Lib.hid (show w.heap.size + 2 < Wqdo.heap.size from Z_sdo.out.lt)
        clear hb
        refine hK.out _ _ (show _ from ⟨⟨G_sdob.out.1, G_sdob.out.2.1, G_sdob.out.2.2⟩, ⟨V_sdob.out.1, V_sdob.out.2⟩, CK_sdob.out⟩) (fun hHeld => ?_)
        clear hK K
        try simp only [Act.put, List.getElem_toArray, List.getElem_cons_succ, List.getElem_cons_zero, List.setIfInBounds_toArray, List.set_cons_zero, List.set_cons_succ]
        generalize hW9 : Wqdo.alloc (.cells #[.int .i64 x] 3) = Wqdob at *
        clear hW9
        refine wpAnyH_take (i := 15) (v := ?_) rfl (by kernel_rfl) (by kernel_rfl) (by kernel_rfl) (fun _ _ _ h => h) (Or.inl ⟨by kernel_rfl, ?_⟩) (by assumption) ?_
        rotate_left 1
        · intro w9 hSw
          try dsimp only at hSw
          go_simp
          try with_reducible rfl
        try simp only [Act.put, List.getElem_toArray, List.getElem_cons_succ, List.getElem_cons_zero, List.setIfInBounds_toArray, List.set_cons_zero, List.set_cons_succ]
        have hm5 := mid3 Wqdob (w.heap.size + 2) (.slice (some ⟨Wqdo.heap.size, 0, none⟩) 1 1) (.slice (some ⟨Wq.heap.size, 0, none⟩) 1 1) (.slice (some ⟨Wqd.heap.size, 0, none⟩) 1 1)
        have hsz := hm5.size
        have G_y := Lib.hid (show GR _ w.heap.size P Q G from ⟨jCell hm5 G_sdob.out.1 (by omega), jCell hm5 G_sdob.out.2.1 (by omega), jCell hm5 G_sdob.out.2.2 (by omega)⟩)
        have V_y := Lib.hid (show D2 _ (w.heap.size + 1) (.int .i64 H) (.slice ya hs.length yc) from ⟨jCell hm5 V_sdob.out.1 (by omega), jCell hm5 V_sdob.out.2 (by omega)⟩)
        have CK_y := Lib.hid (show C1o _ kb ko a from jCell hm5 CK_sdob.out (by have := HKB.out; omega))
        have C_y := Lib.hid (XC_sdob.out.mid hm5 (.inr (by have := LXC.out; omega)))
        have H_y := Lib.hid (XH_sdob.out.mid hm5 (.inr (by have := LXH.out; omega)))
        have R_y := Lib.hid (XR_sdob.out.mid hm5 (.inr (by have := LXR.out; omega)))
        have HB_y := Lib.hid (HB_sdob.out.trans (hm5.toBelow (by omega) HB_sdob.out.size))
        clear hm5
        refine wpAnyH_ready (rs := [16]) (by kernel_rfl) (by simp) ?_
        refine AllReadyH.cons rfl (fun K hK => ?_) AllReadyH.nil
        obtain ⟨y0, y1, y2, yf⟩ := Z_sdob.out
        have yf0 := yf 0
        have yf1 := yf 1
        have yf2 := yf 2
        clear yf
        go_simp
        refine hK.out _ _ (show _ from ⟨⟨G_y.out.1, G_y.out.2.1, G_y.out.2.2⟩, ⟨V_y.out.1, V_y.out.2⟩, CK_y.out⟩) (fun hHeld => ?_)
        clear hK K
        try simp only [Act.put, List.getElem_toArray, List.getElem_cons_succ, List.getElem_cons_zero, List.setIfInBounds_toArray, List.set_cons_zero, List.set_cons_succ]
        refine wpAnyH_take (i := 17) (v := ?_) rfl (by kernel_rfl) (by kernel_rfl) (by kernel_rfl) (fun _ _ _ h => h) (Or.inl ⟨by kernel_rfl, ?_⟩) (by assumption) ?_
        rotate_left 1
        · intro w9 hSw
          try dsimp only at hSw
          go_simp
          try with_reducible rfl
        try simp only [Act.put, List.getElem_toArray, List.getElem_cons_succ, List.getElem_cons_zero, List.setIfInBounds_toArray, List.set_cons_zero, List.set_cons_succ]
        refine wpAnyH_done (by kernel_rfl) ?_ _
        go_wp2
        (try simp only [Exit.inBlock, Exit.then])
        refine bodyPost_ret (v := .tuple #[.agg #[.slice (some ⟨Wqdo.heap.size, 0, none⟩) 1 1, .slice (some ⟨Wq.heap.size, 0, none⟩) 1 1, .slice (some ⟨Wqd.heap.size, 0, none⟩) 1 1], .bool true]) ?_ rfl ?_
        · rw [results_cell_tmp rfl]; go_simp
        · exact ⟨_, _, _, rfl, ⟨_, _, _, rfl, C_y.out.wide (by have := LXC.out; omega) C_y.out.toIn.le (Nat.le_refl _), H_y.out.wide (by have := LXH.out; omega) H_y.out.toIn.le (Nat.le_refl _), R_y.out.wide (by have := LXR.out; omega) R_y.out.toIn.le (Nat.le_refl _)⟩, HB_y.out⟩
  · go_simp
    go_at_call 94
    refine (o_nn (a + er) Q HA1.out.1 HA1.out.2 hgr.2.1.1 hgr.2.1.2 _).mono ?_
    rw [HZ1.out]
    rintro e' w' ⟨rfl, rfl⟩
    go_wp2_with fail
    refine hK.out _ _ (show _ from ⟨⟨G_s.out.1, G_s.out.2.1, G_s.out.2.2⟩, ⟨V_s.out.1, V_s.out.2⟩, CK_s.out⟩) (fun hHeld => ?_)
    clear hK K
    try simp only [Act.put, List.getElem_toArray, List.getElem_cons_succ, List.getElem_cons_zero, List.setIfInBounds_toArray, List.set_cons_zero, List.set_cons_succ]
    refine wpAnyH_ready (rs := [1, 3, 14]) (by kernel_rfl) (by simp) ?_
    refine AllReadyH.cons rfl (fun K hK => ?_) (AllReadyH.cons rfl (fun K hK => ?_) (AllReadyH.cons rfl (fun K hK => ?_) (AllReadyH.nil)))
    · go_simp
      have hb := ba Wq (.cells #[.int .i64 x] 3)
      have HB_sb := Lib.hid (bt HB_s.out hb)
      have G_sb := Lib.hid (G_s.out.below hb)
      have V_sb := Lib.hid (V_s.out.below hb)
      have Z_sb := Lib.hid (Z_s.out.below hb)
      have CK_sb := Lib.hid (CK_s.out.below hb)
      have XC_sb := Lib.hid (show OwI Wq.heap.size (Wq.alloc (.cells #[.int .i64 x] 3)).heap.size (Wq.alloc (.cells #[.int .i64 x] 3)) (.slice (some ⟨Wq.heap.size, 0, none⟩) 1 1) [x] from jLit Wq [x] (by simp))
      have LXC := Lib.hid (show w.heap.size + 2 < Wq.heap.size from Z_s.out.lt)
      clear hb
      refine hK.out _ _ (show _ from ⟨⟨G_sb.out.1, G_sb.out.2.1, G_sb.out.2.2⟩, ⟨V_sb.out.1, V_sb.out.2⟩, CK_sb.out⟩) (fun hHeld => ?_)
      clear hK K
      try simp only [Act.put, List.getElem_toArray, List.getElem_cons_succ, List.getElem_cons_zero, List.setIfInBounds_toArray, List.set_cons_zero, List.set_cons_succ]
      generalize hW9 : Wq.alloc (.cells #[.int .i64 x] 3) = Wqb at *
      clear hW9
      refine wpAnyH_ready (rs := [3, 14]) (by kernel_rfl) (by simp) ?_
      refine AllReadyH.cons rfl (fun K hK => ?_) (AllReadyH.cons rfl (fun K hK => ?_) (AllReadyH.nil))
      · go_simp
        have hb := ba Wqb (.cells #[.int .i64 e] 3)
        have HB_sbd := Lib.hid (bt HB_sb.out hb)
        have G_sbd := Lib.hid (G_sb.out.below hb)
        have V_sbd := Lib.hid (V_sb.out.below hb)
        have Z_sbd := Lib.hid (Z_sb.out.below hb)
        have CK_sbd := Lib.hid (CK_sb.out.below hb)
        have XC_sbd := Lib.hid (XC_sb.out.below hb)
        have XH_sbd := Lib.hid (show OwI Wqb.heap.size (Wqb.alloc (.cells #[.int .i64 e] 3)).heap.size (Wqb.alloc (.cells #[.int .i64 e] 3)) (.slice (some ⟨Wqb.heap.size, 0, none⟩) 1 1) [e] from jLit Wqb [e] (by simp))
        have LXH := Lib.hid (show w.heap.size + 2 < Wqb.heap.size from Z_sb.out.lt)
        clear hb
        refine hK.out _ _ (show _ from ⟨⟨G_sbd.out.1, G_sbd.out.2.1, G_sbd.out.2.2⟩, ⟨V_sbd.out.1, V_sbd.out.2⟩, CK_sbd.out⟩) (fun hHeld => ?_)
        clear hK K
        try simp only [Act.put, List.getElem_toArray, List.getElem_cons_succ, List.getElem_cons_zero, List.setIfInBounds_toArray, List.set_cons_zero, List.set_cons_succ]
        generalize hW9 : Wqb.alloc (.cells #[.int .i64 e] 3) = Wqbd at *
        clear hW9
        refine wpAnyH_ready (rs := [14]) (by kernel_rfl) (by simp) ?_
        refine AllReadyH.cons rfl (fun K hK => ?_) (AllReadyH.nil)
        go_simp
        have hb := ba Wqbd (.cells #[.int .i64 z1] 3)
        have HB_sbdo := Lib.hid (bt HB_sbd.out hb)
        have G_sbdo := Lib.hid (G_sbd.out.below hb)
        have V_sbdo := Lib.hid (V_sbd.out.below hb)
        have Z_sbdo := Lib.hid (Z_sbd.out.below hb)
        have CK_sbdo := Lib.hid (CK_sbd.out.below hb)
        have XC_sbdo := Lib.hid (XC_sbd.out.below hb)
        have XH_sbdo := Lib.hid (XH_sbd.out.below hb)
        have XR_sbdo := Lib.hid (show OwI Wqbd.heap.size (Wqbd.alloc (.cells #[.int .i64 z1] 3)).heap.size (Wqbd.alloc (.cells #[.int .i64 z1] 3)) (.slice (some ⟨Wqbd.heap.size, 0, none⟩) 1 1) [z1] from jLit Wqbd [z1] (by simp))
        have LXR := Lib.hid (show w.heap.size + 2 < Wqbd.heap.size from Z_sbd.out.lt)
        clear hb
        refine hK.out _ _ (show _ from ⟨⟨G_sbdo.out.1, G_sbdo.out.2.1, G_sbdo.out.2.2⟩, ⟨V_sbdo.out.1, V_sbdo.out.2⟩, CK_sbdo.out⟩) (fun hHeld => ?_)
        clear hK K
        try simp only [Act.put, List.getElem_toArray, List.getElem_cons_succ, List.getElem_cons_zero, List.setIfInBounds_toArray, List.set_cons_zero, List.set_cons_succ]
        generalize hW9 : Wqbd.alloc (.cells #[.int .i64 z1] 3) = Wqbdo at *
        clear hW9
        refine wpAnyH_take (i := 15) (v := ?_) rfl (by kernel_rfl) (by kernel_rfl) (by kernel_rfl) (fun _ _ _ h => h) (Or.inl ⟨by kernel_rfl, ?_⟩) (by assumption) ?_
        rotate_left 1
        · intro w9 hSw
          try dsimp only at hSw
          go_simp
          try with_reducible rfl
        try simp only [Act.put, List.getElem_toArray, List.getElem_cons_succ, List.getElem_cons_zero, List.setIfInBounds_toArray, List.set_cons_zero, List.set_cons_succ]
        have hm5 := mid3 Wqbdo (w.heap.size + 2) (.slice (some ⟨Wq.heap.size, 0, none⟩) 1 1) (.slice (some ⟨Wqb.heap.size, 0, none⟩) 1 1) (.slice (some ⟨Wqbd.heap.size, 0, none⟩) 1 1)
        have hsz := hm5.size
        have G_y := Lib.hid (show GR _ w.heap.size P Q G from ⟨jCell hm5 G_sbdo.out.1 (by omega), jCell hm5 G_sbdo.out.2.1 (by omega), jCell hm5 G_sbdo.out.2.2 (by omega)⟩)
        have V_y := Lib.hid (show D2 _ (w.heap.size + 1) (.int .i64 H) (.slice ya hs.length yc) from ⟨jCell hm5 V_sbdo.out.1 (by omega), jCell hm5 V_sbdo.out.2 (by omega)⟩)
        have CK_y := Lib.hid (show C1o _ kb ko a from jCell hm5 CK_sbdo.out (by have := HKB.out; omega))
        have C_y := Lib.hid (XC_sbdo.out.mid hm5 (.inr (by have := LXC.out; omega)))
        have H_y := Lib.hid (XH_sbdo.out.mid hm5 (.inr (by have := LXH.out; omega)))
        have R_y := Lib.hid (XR_sbdo.out.mid hm5 (.inr (by have := LXR.out; omega)))
        have HB_y := Lib.hid (HB_sbdo.out.trans (hm5.toBelow (by omega) HB_sbdo.out.size))
        clear hm5
        refine wpAnyH_ready (rs := [16]) (by kernel_rfl) (by simp) ?_
        refine AllReadyH.cons rfl (fun K hK => ?_) AllReadyH.nil
        obtain ⟨y0, y1, y2, yf⟩ := Z_sbdo.out
        have yf0 := yf 0
        have yf1 := yf 1
        have yf2 := yf 2
        clear yf
        go_simp
        refine hK.out _ _ (show _ from ⟨⟨G_y.out.1, G_y.out.2.1, G_y.out.2.2⟩, ⟨V_y.out.1, V_y.out.2⟩, CK_y.out⟩) (fun hHeld => ?_)
        clear hK K
        try simp only [Act.put, List.getElem_toArray, List.getElem_cons_succ, List.getElem_cons_zero, List.setIfInBounds_toArray, List.set_cons_zero, List.set_cons_succ]
        refine wpAnyH_take (i := 17) (v := ?_) rfl (by kernel_rfl) (by kernel_rfl) (by kernel_rfl) (fun _ _ _ h => h) (Or.inl ⟨by kernel_rfl, ?_⟩) (by assumption) ?_
        rotate_left 1
        · intro w9 hSw
          try dsimp only at hSw
          go_simp
          try with_reducible rfl
        try simp only [Act.put, List.getElem_toArray, List.getElem_cons_succ, List.getElem_cons_zero, List.setIfInBounds_toArray, List.set_cons_zero, List.set_cons_succ]
        refine wpAnyH_done (by kernel_rfl) ?_ _
        go_wp2
        (try simp only [Exit.inBlock, Exit.then])
        refine bodyPost_ret (v := .tuple #[.agg #[.slice (some ⟨Wq.heap.size, 0, none⟩) 1 1, .slice (some ⟨Wqb.heap.size, 0, none⟩) 1 1, .slice (some ⟨Wqbd.heap.size, 0, none⟩) 1 1], .bool true]) ?_ rfl ?_
        · rw [results_cell_tmp rfl]; go_simp
        · exact ⟨_, _, _, rfl, ⟨_, _, _, rfl, C_y.out.wide (by have := LXC.out; omega) C_y.out.toIn.le (Nat.le_refl _), H_y.out.wide (by have := LXH.out; omega) H_y.out.toIn.le (Nat.le_refl _), R_y.out.wide (by have := LXR.out; omega) R_y.out.toIn.le (Nat.le_refl _)⟩, HB_y.out⟩
      · go_simp
        have hb := ba Wqb (.cells #[.int .i64 z1] 3)
        have HB_sbo := Lib.hid (bt HB_sb.out hb)
        have G_sbo := Lib.hid (G_sb.out.below hb)
        have V_sbo := Lib.hid (V_sb.out.below hb)
        have Z_sbo := Lib.hid (Z_sb.out.below hb)
        have CK_sbo := Lib.hid (CK_sb.out.below hb)
        have XC_sbo := Lib.hid (XC_sb.out.below hb)
        have XR_sbo := Lib.hid (show OwI Wqb.heap.size (Wqb.alloc (.cells #[.int .i64 z1] 3)).heap.size (Wqb.alloc (.cells #[.int .i64 z1] 3)) (.slice (some ⟨Wqb.heap.size, 0, none⟩) 1 1) [z1] from jLit Wqb [z1] (by simp))
        have LXR := Lib.hid (show w.heap.size + 2 < Wqb.heap.size from Z_sb.out.lt)
        clear hb
        refine hK.out _ _ (show _ from ⟨⟨G_sbo.out.1, G_sbo.out.2.1, G_sbo.out.2.2⟩, ⟨V_sbo.out.1, V_sbo.out.2⟩, CK_sbo.out⟩) (fun hHeld => ?_)
        clear hK K
        try simp only [Act.put, List.getElem_toArray, List.getElem_cons_succ, List.getElem_cons_zero, List.setIfInBounds_toArray, List.set_cons_zero, List.set_cons_succ]
        generalize hW9 : Wqb.alloc (.cells #[.int .i64 z1] 3) = Wqbo at *
        clear hW9
        refine wpAnyH_ready (rs := [3]) (by kernel_rfl) (by simp) ?_
        refine AllReadyH.cons rfl (fun K hK => ?_) (AllReadyH.nil)
        go_simp
        have hb := ba Wqbo (.cells #[.int .i64 e] 3)
        have HB_sbod := Lib.hid (bt HB_sbo.out hb)
        have G_sbod := Lib.hid (G_sbo.out.below hb)
        have V_sbod := Lib.hid (V_sbo.out.below hb)
        have Z_sbod := Lib.hid (Z_sbo.out.below hb)
        have CK_sbod := Lib.hid (CK_sbo.out.below hb)
        have XC_sbod := Lib.hid (XC_sbo.out.below hb)
        have XR_sbod := Lib.hid (XR_sbo.out.below hb)
        have XH_sbod := Lib.hid (show OwI Wqbo.heap.size (Wqbo.alloc (.cells #[.int .i64 e] 3)).heap.size (Wqbo.alloc (.cells #[.int .i64 e] 3)) (.slice (some ⟨Wqbo.heap.size, 0, none⟩) 1 1) [e] from jLit Wqbo [e] (by simp))
        have LXH := Lib.hid (show w.heap.size + 2 < Wqbo.heap.size from Z_sbo.out.lt)
        clear hb
        refine hK.out _ _ (show _ from ⟨⟨G_sbod.out.1, G_sbod.out.2.1, G_sbod.out.2.2⟩, ⟨V_sbod.out.1, V_sbod.out.2⟩, CK_sbod.out⟩) (fun hHeld => ?_)
        clear hK K
        try simp only [Act.put, List.getElem_toArray, List.getElem_cons_succ, List.getElem_cons_zero, List.setIfInBounds_toArray, List.set_cons_zero, List.set_cons_succ]
        generalize hW9 : Wqbo.alloc (.cells #[.int .i64 e] 3) = Wqbod at *
        clear hW9
        refine wpAnyH_take (i := 15) (v := ?_) rfl (by kernel_rfl) (by kernel_rfl) (by kernel_rfl) (fun _ _ _ h => h) (Or.inl ⟨by kernel_rfl, ?_⟩) (by assumption) ?_
        rotate_left 1
        · intro w9 hSw
          try dsimp only at hSw
          go_simp
          try with_reducible rfl
        try simp only [Act.put, List.getElem_toArray, List.getElem_cons_succ, List.getElem_cons_zero, List.setIfInBounds_toArray, List.set_cons_zero, List.set_cons_succ]
        have hm5 := mid3 Wqbod (w.heap.size + 2) (.slice (some ⟨Wq.heap.size, 0, none⟩) 1 1) (.slice (some ⟨Wqbo.heap.size, 0, none⟩) 1 1) (.slice (some ⟨Wqb.heap.size, 0, none⟩) 1 1)
        have hsz := hm5.size
        have G_y := Lib.hid (show GR _ w.heap.size P Q G from ⟨jCell hm5 G_sbod.out.1 (by omega), jCell hm5 G_sbod.out.2.1 (by omega), jCell hm5 G_sbod.out.2.2 (by omega)⟩)
        have V_y := Lib.hid (show D2 _ (w.heap.size + 1) (.int .i64 H) (.slice ya hs.length yc) from ⟨jCell hm5 V_sbod.out.1 (by omega), jCell hm5 V_sbod.out.2 (by omega)⟩)
        have CK_y := Lib.hid (show C1o _ kb ko a from jCell hm5 CK_sbod.out (by have := HKB.out; omega))
        have C_y := Lib.hid (XC_sbod.out.mid hm5 (.inr (by have := LXC.out; omega)))
        have H_y := Lib.hid (XH_sbod.out.mid hm5 (.inr (by have := LXH.out; omega)))
        have R_y := Lib.hid (XR_sbod.out.mid hm5 (.inr (by have := LXR.out; omega)))
        have HB_y := Lib.hid (HB_sbod.out.trans (hm5.toBelow (by omega) HB_sbod.out.size))
        clear hm5
        refine wpAnyH_ready (rs := [16]) (by kernel_rfl) (by simp) ?_
        refine AllReadyH.cons rfl (fun K hK => ?_) AllReadyH.nil
        obtain ⟨y0, y1, y2, yf⟩ := Z_sbod.out
        have yf0 := yf 0
        have yf1 := yf 1
        have yf2 := yf 2
        clear yf
        go_simp
        refine hK.out _ _ (show _ from ⟨⟨G_y.out.1, G_y.out.2.1, G_y.out.2.2⟩, ⟨V_y.out.1, V_y.out.2⟩, CK_y.out⟩) (fun hHeld => ?_)
        clear hK K
        try simp only [Act.put, List.getElem_toArray, List.getElem_cons_succ, List.getElem_cons_zero, List.setIfInBounds_toArray, List.set_cons_zero, List.set_cons_succ]
        refine wpAnyH_take (i := 17) (v := ?_) rfl (by kernel_rfl) (by kernel_rfl) (by kernel_rfl) (fun _ _ _ h => h) (Or.inl ⟨by kernel_rfl, ?_⟩) (by assumption) ?_
        rotate_left 1
        · intro w9 hSw
          try dsimp only at hSw
          go_simp
          try with_reducible rfl
        try simp only [Act.put, List.getElem_toArray, List.getElem_cons_succ, List.getElem_cons_zero, List.setIfInBounds_toArray, List.set_cons_zero, List.set_cons_succ]
        refine wpAnyH_done (by kernel_rfl) ?_ _
        go_wp2
        (try simp only [Exit.inBlock, Exit.then])
        refine bodyPost_ret (v := .tuple #[.agg #[.slice (some ⟨Wq.heap.size, 0, none⟩) 1 1, .slice (some ⟨Wqbo.heap.size, 0, none⟩) 1 1, .slice (some ⟨Wqb.heap.size, 0, none⟩) 1 1], .bool true]) ?_ rfl ?_
        · rw [results_cell_tmp rfl]; go_simp
        · exact ⟨_, _, _, rfl, ⟨_, _, _, rfl, C_y.out.wide (by have := LXC.out; omega) C_y.out.toIn.le (Nat.le_refl _), H_y.out.wide (by have := LXH.out; omega) H_y.out.toIn.le (Nat.le_refl _), R_y.out.wide (by have := LXR.out; omega) R_y.out.toIn.le (Nat.le_refl _)⟩, HB_y.out⟩
    · go_simp
      have hb := ba Wq (.cells #[.int .i64 e] 3)
      have HB_sd := Lib.hid (bt HB_s.out hb)
      have G_sd := Lib.hid (G_s.out.below hb)
      have V_sd := Lib.hid (V_s.out.below hb)
      have Z_sd := Lib.hid (Z_s.out.below hb)
      have CK_sd := Lib.hid (CK_s.out.below hb)
      have XH_sd := Lib.hid (show OwI Wq.heap.size (Wq.alloc (.cells #[.int .i64 e] 3)).heap.size (Wq.alloc (.cells #[.int .i64 e] 3)) (.slice (some ⟨Wq.heap.size, 0, none⟩) 1 1) [e] from jLit Wq [e] (by simp))
      have LXH := Lib.hid (show w.heap.size + 2 < Wq.heap.size from Z_s.out.lt)
      clear hb
      refine hK.out _ _ (show _ from ⟨⟨G_sd.out.1, G_sd.out.2.1, G_sd.out.2.2⟩, ⟨V_sd.out.1, V_sd.out.2⟩, CK_sd.out⟩) (fun hHeld => ?_)
      clear hK K
      try simp only [Act.put, List.getElem_toArray, List.getElem_cons_succ, List.getElem_cons_zero, List.setIfInBounds_toArray, List.set_cons_zero, List.set_cons_succ]
      generalize hW9 : Wq.alloc (.cells #[.int .i64 e] 3) = Wqd at *
      clear hW9
      refine wpAnyH_ready (rs := [1, 14]) (by kernel_rfl) (by simp) ?_
      refine AllReadyH.cons rfl (fun K hK => ?_) (AllReadyH.cons rfl (fun K hK => ?_) (AllReadyH.nil))
      · go_simp
        have hb := ba Wqd (.cells #[.int .i64 x] 3)
        have HB_sdb := Lib.hid (bt HB_sd.out hb)
        have G_sdb := Lib.hid (G_sd.out.below hb)
        have V_sdb := Lib.hid (V_sd.out.below hb)
        have Z_sdb := Lib.hid (Z_sd.out.below hb)
        have CK_sdb := Lib.hid (CK_sd.out.below hb)
        have XH_sdb := Lib.hid (XH_sd.out.below hb)
        have XC_sdb := Lib.hid (show OwI Wqd.heap.size (Wqd.alloc (.cells #[.int .i64 x] 3)).heap.size (Wqd.alloc (.cells #[.int .i64 x] 3)) (.slice (some ⟨Wqd.heap.size, 0, none⟩) 1 1) [x] from jLit Wqd [x] (by simp))
        have LXC := Lib.hid (show w.heap.size + 2 < Wqd.heap.size from Z_sd.out.lt)
        clear hb
        refine hK.out _ _ (show _ from ⟨⟨G_sdb.out.1, G_sdb.out.2.1, G_sdb.out.2.2⟩, ⟨V_sdb.out.1, V_sdb.out.2⟩, CK_sdb.out⟩) (fun hHeld => ?_)
        clear hK K
        try simp only [Act.put, List.getElem_toArray, List.getElem_cons_succ, List.getElem_cons_zero, List.setIfInBounds_toArray, List.set_cons_zero, List.set_cons_succ]
        generalize hW9 : Wqd.alloc (.cells #[.int .i64 x] 3) = Wqdb at *
        clear hW9
        refine wpAnyH_ready (rs := [14]) (by kernel_rfl) (by simp) ?_
        refine AllReadyH.cons rfl (fun K hK => ?_) (AllReadyH.nil)
        go_simp
        have hb := ba Wqdb (.cells #[.int .i64 z1] 3)
        have HB_sdbo := Lib.hid (bt HB_sdb.out hb)
        have G_sdbo := Lib.hid (G_sdb.out.below hb)
        have V_sdbo := Lib.hid (V_sdb.out.below hb)
        have Z_sdbo := Lib.hid (Z_sdb.out.below hb)
        have CK_sdbo := Lib.hid (CK_sdb.out.below hb)
        have XH_sdbo := Lib.hid (XH_sdb.out.below hb)
        have XC_sdbo := Lib.hid (XC_sdb.out.below hb)
        have XR_sdbo := Lib.hid (show OwI Wqdb.heap.size (Wqdb.alloc (.cells #[.int .i64 z1] 3)).heap.size (Wqdb.alloc (.cells #[.int .i64 z1] 3)) (.slice (some ⟨Wqdb.heap.size, 0, none⟩) 1 1) [z1] from jLit Wqdb [z1] (by simp))
        have LXR := Lib.hid (show w.heap.size + 2 < Wqdb.heap.size from Z_sdb.out.lt)
        clear hb
        refine hK.out _ _ (show _ from ⟨⟨G_sdbo.out.1, G_sdbo.out.2.1, G_sdbo.out.2.2⟩, ⟨V_sdbo.out.1, V_sdbo.out.2⟩, CK_sdbo.out⟩) (fun hHeld => ?_)
        clear hK K
        try simp only [Act.put, List.getElem_toArray, List.getElem_cons_succ, List.getElem_cons_zero, List.setIfInBounds_toArray, List.set_cons_zero, List.set_cons_succ]
        generalize hW9 : Wqdb.alloc (.cells #[.int .i64 z1] 3) = Wqdbo at *
        clear hW9
        refine wpAnyH_take (i := 15) (v := ?_) rfl (by kernel_rfl) (by kernel_rfl) (by kernel_rfl) (fun _ _ _ h => h) (Or.inl ⟨by kernel_rfl, ?_⟩) (by assumption) ?_
        rotate_left 1
        · intro w9 hSw
          try dsimp only at hSw
          go_simp
          try with_reducible rfl
        try simp only [Act.put, List.getElem_toArray, List.getElem_cons_succ, List.getElem_cons_zero, List.setIfInBounds_toArray, List.set_cons_zero, List.set_cons_succ]
        have hm5 := mid3 Wqdbo (w.heap.size + 2) (.slice (some ⟨Wqd.heap.size, 0, none⟩) 1 1) (.slice (some ⟨Wq.heap.size, 0, none⟩) 1 1) (.slice (some ⟨Wqdb.heap.size, 0, none⟩) 1 1)
        have hsz := hm5.size
        have G_y := Lib.hid (show GR _ w.heap.size P Q G from ⟨jCell hm5 G_sdbo.out.1 (by omega), jCell hm5 G_sdbo.out.2.1 (by omega), jCell hm5 G_sdbo.out.2.2 (by omega)⟩)
        have V_y := Lib.hid (show D2 _ (w.heap.size + 1) (.int .i64 H) (.slice ya hs.length yc) from ⟨jCell hm5 V_sdbo.out.1 (by omega), jCell hm5 V_sdbo.out.2 (by omega)⟩)
        have CK_y := Lib.hid (show C1o _ kb ko a from jCell hm5 CK_sdbo.out (by have := HKB.out; omega))
        have C_y := Lib.hid (XC_sdbo.out.mid hm5 (.inr (by have := LXC.out; omega)))
        have H_y := Lib.hid (XH_sdbo.out.mid hm5 (.inr (by have := LXH.out; omega)))
        have R_y := Lib.hid (XR_sdbo.out.mid hm5 (.inr (by have := LXR.out; omega)))
        have HB_y := Lib.hid (HB_sdbo.out.trans (hm5.toBelow (by omega) HB_sdbo.out.size))
        clear hm5
        refine wpAnyH_ready (rs := [16]) (by kernel_rfl) (by simp) ?_
        refine AllReadyH.cons rfl (fun K hK => ?_) AllReadyH.nil
        obtain ⟨y0, y1, y2, yf⟩ := Z_sdbo.out
        have yf0 := yf 0
        have yf1 := yf 1
        have yf2 := yf 2
        clear yf
        go_simp
        refine hK.out _ _ (show _ from ⟨⟨G_y.out.1, G_y.out.2.1, G_y.out.2.2⟩, ⟨V_y.out.1, V_y.out.2⟩, CK_y.out⟩) (fun hHeld => ?_)
        clear hK K
        try simp only [Act.put, List.getElem_toArray, List.getElem_cons_succ, List.getElem_cons_zero, List.setIfInBounds_toArray, List.set_cons_zero, List.set_cons_succ]
        refine wpAnyH_take (i := 17) (v := ?_) rfl (by kernel_rfl) (by kernel_rfl) (by kernel_rfl) (fun _ _ _ h => h) (Or.inl ⟨by kernel_rfl, ?_⟩) (by assumption) ?_
        rotate_left 1
        · intro w9 hSw
          try dsimp only at hSw
          go_simp
          try with_reducible rfl
        try simp only [Act.put, List.getElem_toArray, List.getElem_cons_succ, List.getElem_cons_zero, List.setIfInBounds_toArray, List.set_cons_zero, List.set_cons_succ]
        refine wpAnyH_done (by kernel_rfl) ?_ _
        go_wp2
        (try simp only [Exit.inBlock, Exit.then])
        refine bodyPost_ret (v := .tuple #[.agg #[.slice (some ⟨Wqd.heap.size, 0, none⟩) 1 1, .slice (some ⟨Wq.heap.size, 0, none⟩) 1 1, .slice (some ⟨Wqdb.heap.size, 0, none⟩) 1 1], .bool true]) ?_ rfl ?_
        · rw [results_cell_tmp rfl]; go_simp
        · exact ⟨_, _, _, rfl, ⟨_, _, _, rfl, C_y.out.wide (by have := LXC.out; omega) C_y.out.toIn.le (Nat.le_refl _), H_y.out.wide (by have := LXH.out; omega) H_y.out.toIn.le (Nat.le_refl _), R_y.out.wide (by have := LXR.out; omega) R_y.out.toIn.le (Nat.le_refl _)⟩, HB_y.out⟩
      · go_simp
        have hb := ba Wqd (.cells #[.int .i64 z1] 3)
        have HB_sdo := Lib.hid (bt HB_sd.out hb)
        have G_sdo := Lib.hid (G_sd.out.below hb)
        have V_sdo := Lib.hid (V_sd.out.below hb)
        have Z_sdo := Lib.hid (Z_sd.out.below hb)
        have CK_sdo := Lib.hid (CK_sd.out.below hb)
        have XH_sdo := Lib.hid (XH_sd.out.below hb)
        have XR_sdo := Lib.hid (show OwI Wqd.heap.size (Wqd.alloc (.cells #[.int .i64 z1] 3)).heap.size (Wqd.alloc (.cells #[.int .i64 z1] 3)) (.slice (some ⟨Wqd.heap.size, 0, none⟩) 1 1) [z1] from jLit Wqd [z1] (by simp))
        have LXR := Lib.hid (show w.heap.size + 2 < Wqd.heap.size from Z_sd.out.lt)
        clear hb
        refine hK.out _ _ (show _ from ⟨⟨G_sdo.out.1, G_sdo.out.2.1, G_sdo.out.2.2⟩, ⟨V_sdo.out.1, V_sdo.out.2⟩, CK_sdo.out⟩) (fun hHeld => ?_)
        clear hK K
        try simp only [Act.put, List.getElem_toArray, List.getElem_cons_succ, List.getElem_cons_zero, List.setIfInBounds_toArray, List.set_cons_zero, List.set_cons_succ]
        generalize hW9 : Wqd.alloc (.cells #[.int .i64 z1] 3) = Wqdo at *
        clear hW9
        refine wpAnyH_ready (rs := [1]) (by kernel_rfl) (by simp) ?_
        refine AllReadyH.cons rfl (fun K hK => ?_) (AllReadyH.nil)
        go_simp
        have hb := ba Wqdo (.cells #[.int .i64 x] 3)
        have HB_sdob := Lib.hid (bt HB_sdo.out hb)
        have G_sdob := Lib.hid (G_sdo.out.below hb)
        have V_sdob := Lib.hid (V_sdo.out.below hb)
        have Z_sdob := Lib.hid (Z_sdo.out.below hb)
        have CK_sdob := Lib.hid (CK_sdo.out.below hb)
        have XH_sdob := Lib.hid (XH_sdo.out.below hb)
        have XR_sdob := Lib.hid (XR_sdo.out.below hb)
        have XC_sdob := Lib.hid (show OwI Wqdo.heap.size (Wqdo.alloc (.cells #[.int .i64 x] 3)).heap.size (Wqdo.alloc (.cells #[.int .i64 x] 3)) (.slice (some ⟨Wqdo.heap.size, 0, none⟩) 1 1) [x] from jLit Wqdo [x] (by simp))
        have LXC := Lib.hid (show w.heap.size + 2 < Wqdo.heap.size from Z_sdo.out.lt)
        clear hb
        refine hK.out _ _ (show _ from ⟨⟨G_sdob.out.1, G_sdob.out.2.1, G_sdob.out.2.2⟩, ⟨V_sdob.out.1, V_sdob.out.2⟩, CK_sdob.out⟩) (fun hHeld => ?_)
        clear hK K
        try simp only [Act.put, List.getElem_toArray, List.getElem_cons_succ, List.getElem_cons_zero, List.setIfInBounds_toArray, List.set_cons_zero, List.set_cons_succ]
        generalize hW9 : Wqdo.alloc (.cells #[.int .i64 x] 3) = Wqdob at *
        clear hW9
        refine wpAnyH_take (i := 15) (v := ?_) rfl (by kernel_rfl) (by kernel_rfl) (by kernel_rfl) (fun _ _ _ h => h) (Or.inl ⟨by kernel_rfl, ?_⟩) (by assumption) ?_
        rotate_left 1
        · intro w9 hSw
          try dsimp only at hSw
          go_simp
          try with_reducible rfl
        try simp only [Act.put, List.getElem_toArray, List.getElem_cons_succ, List.getElem_cons_zero, List.setIfInBounds_toArray, List.set_cons_zero, List.set_cons_succ]
        have hm5 := mid3 Wqdob (w.heap.size + 2) (.slice (some ⟨Wqdo.heap.size, 0, none⟩) 1 1) (.slice (some ⟨Wq.heap.size, 0, none⟩) 1 1) (.slice (some ⟨Wqd.heap.size, 0, none⟩) 1 1)
        have hsz := hm5.size
        have G_y := Lib.hid (show GR _ w.heap.size P Q G from ⟨jCell hm5 G_sdob.out.1 (by omega), jCell hm5 G_sdob.out.2.1 (by omega), jCell hm5 G_sdob.out.2.2 (by omega)⟩)
        have V_y := Lib.hid (show D2 _ (w.heap.size + 1) (.int .i64 H) (.slice ya hs.length yc) from ⟨jCell hm5 V_sdob.out.1 (by omega), jCell hm5 V_sdob.out.2 (by omega)⟩)
        have CK_y := Lib.hid (show C1o _ kb ko a from jCell hm5 CK_sdob.out (by have := HKB.out; omega))
        have C_y := Lib.hid (XC_sdob.out.mid hm5 (.inr (by have := LXC.out; omega)))
        have H_y := Lib.hid (XH_sdob.out.mid hm5 (.inr (by have := LXH.out; omega)))
        have R_y := Lib.hid (XR_sdob.out.mid hm5 (.inr (by have := LXR.out; omega)))
        have HB_y := Lib.hid (HB_sdob.out.trans (hm5.toBelow (by omega) HB_sdob.out.size))
        clear hm5
        refine wpAnyH_ready (rs := [16]) (by kernel_rfl) (by simp) ?_
        refine AllReadyH.cons rfl (fun K hK => ?_) AllReadyH.nil
        obtain ⟨y0, y1, y2, yf⟩ := Z_sdob.out
        have yf0 := yf 0
        have yf1 := yf 1
        have yf2 := yf 2
        clear yf
        go_simp
        refine hK.out _ _ (show _ from ⟨⟨G_y.out.1, G_y.out.2.1, G_y.out.2.2⟩, ⟨V_y.out.1, V_y.out.2⟩, CK_y.out⟩) (fun hHeld => ?_)
        clear hK K
        try simp only [Act.put, List.getElem_toArray, List.getElem_cons_succ, List.getElem_cons_zero, List.setIfInBounds_toArray, List.set_cons_zero, List.set_cons_succ]
        refine wpAnyH_take (i := 17) (v := ?_) rfl (by kernel_rfl) (by kernel_rfl) (by kernel_rfl) (fun _ _ _ h => h) (Or.inl ⟨by kernel_rfl, ?_⟩) (by assumption) ?_
        rotate_left 1
        · intro w9 hSw
          try dsimp only at hSw
          go_simp
          try with_reducible rfl
        try simp only [Act.put, List.getElem_toArray, List.getElem_cons_succ, List.getElem_cons_zero, List.setIfInBounds_toArray, List.set_cons_zero, List.set_cons_succ]
        refine wpAnyH_done (by kernel_rfl) ?_ _
        go_wp2
        (try simp only [Exit.inBlock, Exit.then])
        refine bodyPost_ret (v := .tuple #[.agg #[.slice (some ⟨Wqdo.heap.size, 0, none⟩) 1 1, .slice (some ⟨Wq.heap.size, 0, none⟩) 1 1, .slice (some ⟨Wqd.heap.size, 0, none⟩) 1 1], .bool true]) ?_ rfl ?_
        · rw [results_cell_tmp rfl]; go_simp
        · exact ⟨_, _, _, rfl, ⟨_, _, _, rfl, C_y.out.wide (by have := LXC.out; omega) C_y.out.toIn.le (Nat.le_refl _), H_y.out.wide (by have := LXH.out; omega) H_y.out.toIn.le (Nat.le_refl _), R_y.out.wide (by have := LXR.out; omega) R_y.out.toIn.le (Nat.le_refl _)⟩, HB_y.out⟩
    · go_simp
      have hb := ba Wq (.cells #[.int .i64 z1] 3)
      have HB_so := Lib.hid (bt HB_s.out hb)
      have G_so := Lib.hid (G_s.out.below hb)
      have V_so := Lib.hid (V_s.out.below hb)
      have Z_so := Lib.hid (Z_s.out.below hb)
      have CK_so := Lib.hid (CK_s.out.below hb)
      have XR_so := Lib.hid (show OwI Wq.heap.size (Wq.alloc (.cells #[.int .i64 z1] 3)).heap.size (Wq.alloc (.cells #[.int .i64 z1] 3)) (.slice (some ⟨Wq.heap.size, 0, none⟩) 1 1) [z1] from jLit Wq [z1] (by simp))
      have LXR := Lib.hid (show w.heap.size + 2 < Wq.heap.size from Z_s.out.lt)
      clear hb
      refine hK.out _ _ (show _ from ⟨⟨G_so.out.1, G_so.out.2.1, G_so.out.2.2⟩, ⟨V_so.out.1, V_so.out.2⟩, CK_so.out⟩) (fun hHeld => ?_)
      clear hK K
      try simp only [Act.put, List.getElem_toArray, List.getElem_cons_succ, List.getElem_cons_zero, List.setIfInBounds_toArray, List.set_cons_zero, List.set_cons_succ]
      generalize hW9 : Wq.alloc (.cells #[.int .i64 z1] 3) = Wqo at *
      clear hW9
      refine wpAnyH_ready (rs := [1, 3]) (by kernel_rfl) (by simp) ?_
      refine AllReadyH.cons rfl (fun K hK => ?_) (AllReadyH.cons rfl (fun K hK => ?_) (AllReadyH.nil))
      · go_simp
        have hb := ba Wqo (.cells #[.int .i64 x] 3)
        have HB_sob := Lib.hid (bt HB_so.out hb)
        have G_sob := Lib.hid (G_so.out.below hb)
        have V_sob := Lib.hid (V_so.out.below hb)
        have Z_sob := Lib.hid (Z_so.out.below hb)
        have CK_sob := Lib.hid (CK_so.out.below hb)
        have XR_sob := Lib.hid (XR_so.out.below hb)
        have XC_sob := Lib.hid (show OwI Wqo.heap.size (Wqo.alloc (.cells #[.int .i64 x] 3)).heap.size (Wqo.alloc (.cells #[.int .i64 x] 3)) (.slice (some ⟨Wqo.heap.size, 0, none⟩) 1 1) [x] from jLit Wqo [x] (by simp))
        have LXC := Lib.hid (show w.heap.size + 2 < Wqo.heap.size from Z_so.out.lt)
        clear hb
        refine hK.out _ _ (show _ from ⟨⟨G_sob.out.1, G_sob.out.2.1, G_sob.out.2.2⟩, ⟨V_sob.out.1, V_sob.out.2⟩, CK_sob.out⟩) (fun hHeld => ?_)
        clear hK K
        try simp only [Act.put, List.getElem_toArray, List.getElem_cons_succ, List.getElem_cons_zero, List.setIfInBounds_toArray, List.set_cons_zero, List.set_cons_succ]
        generalize hW9 : Wqo.alloc (.cells #[.int .i64 x] 3) = Wqob at *
        clear hW9
        refine wpAnyH_ready (rs := [3]) (by kernel_rfl) (by simp) ?_
        refine AllReadyH.cons rfl (fun K hK => ?_) (AllReadyH.nil)
        go_simp
        have hb := ba Wqob (.cells #[.int .i64 e] 3)
        have HB_sobd := Lib.hid (bt HB_sob.out hb)
        have G_sobd := Lib.hid (G_sob.out.below hb)
        have V_sobd := Lib.hid (V_sob.out.below hb)
        have Z_sobd := Lib.hid (Z_sob.out.below hb)
        have CK_sobd := Lib.hid (CK_sob.out.below hb)
        have XR_sobd := Lib.hid (XR_sob.out.below hb)
        have XC_sobd := Lib.hid (XC_sob.out.below hb)
        have XH_sobd := Lib.hid (show OwI Wqob.heap.size (Wqob.alloc (.cells #[.int .i64 e] 3)).heap.size (Wqob.alloc (.cells #[.int .i64 e] 3)) (.slice (some ⟨Wqob.heap.size, 0, none⟩) 1 1) [e] from jLit Wqob [e] (by simp))
        have LXH := Lib.hid (show w.heap.size + 2 < Wqob.heap.size from Z_sob.out.lt)
        clear hb
        refine hK.out _ _ (show _ from ⟨⟨G_sobd.out.1, G_sobd.out.2.1, G_sobd.out.2.2⟩, ⟨V_sobd.out.1, V_sobd.out.2⟩, CK_sobd.out⟩) (fun hHeld => ?_)
        clear hK K
        try simp only [Act.put, List.getElem_toArray, List.getElem_cons_succ, List.getElem_cons_zero, List.setIfInBounds_toArray, List.set_cons_zero, List.set_cons_succ]
        generalize hW9 : Wqob.alloc (.cells #[.int .i64 e] 3) = Wqobd at *
        clear hW9
        refine wpAnyH_take (i := 15) (v := ?_) rfl (by kernel_rfl) (by kernel_rfl) (by kernel_rfl) (fun _ _ _ h => h) (Or.inl ⟨by kernel_rfl, ?_⟩) (by assumption) ?_
        rotate_left 1
        · intro w9 hSw
          try dsimp only at hSw
          go_simp
          try with_reducible rfl
        try simp only [Act.put, List.getElem_toArray, List.getElem_cons_succ, List.getElem_cons_zero, List.setIfInBounds_toArray, List.set_cons_zero, List.set_cons_succ]
        have hm5 := mid3 Wqobd (w.heap.size + 2) (.slice (some ⟨Wqo.heap.size, 0, none⟩) 1 1) (.slice (some ⟨Wqob.heap.size, 0, none⟩) 1 1) (.slice (some ⟨Wq.heap.size, 0, none⟩) 1 1)
        have hsz := hm5.size
        have G_y := Lib.hid (show GR _ w.heap.size P Q G from ⟨jCell hm5 G_sobd.out.1 (by omega), jCell hm5 G_sobd.out.2.1 (by omega), jCell hm5 G_sobd.out.2.2 (by omega)⟩)
        have V_y := Lib.hid (show D2 _ (w.heap.size + 1) (.int .i64 H) (.slice ya hs.length yc) from ⟨jCell hm5 V_sobd.out.1 (by omega), jCell hm5 V_sobd.out.2 (by omega)⟩)
        have CK_y := Lib.hid (show C1o _ kb ko a from jCell hm5 CK_sobd.out (by have := HKB.out; omega))
        have C_y := Lib.hid (XC_sobd.out.mid hm5 (.inr (by have := LXC.out; omega)))
        have H_y := Lib.hid (XH_sobd.out.mid hm5 (.inr (by have := LXH.out; omega)))
        have R_y := Lib.hid (XR_sobd.out.mid hm5 (.inr (by have := LXR.out; omega)))
        have HB_y := Lib.hid (HB_sobd.out.trans (hm5.toBelow (by omega) HB_sobd.out.size))
        clear hm5
        refine wpAnyH_ready (rs := [16]) (by kernel_rfl) (by simp) ?_
        refine AllReadyH.cons rfl (fun K hK => ?_) AllReadyH.nil
        obtain ⟨y0, y1, y2, yf⟩ := Z_sobd.out
        have yf0 := yf 0
        have yf1 := yf 1
        have yf2 := yf 2
        clear yf
        go_simp
        refine hK.out _ _ (show _ from ⟨⟨G_y.out.1, G_y.out.2.1, G_y.out.2.2⟩, ⟨V_y.out.1, V_y.out.2⟩, CK_y.out⟩) (fun hHeld => ?_)
        clear hK K
        try simp only [Act.put, List.getElem_toArray, List.getElem_cons_succ, List.getElem_cons_zero, List.setIfInBounds_toArray, List.set_cons_zero, List.set_cons_succ]
        refine wpAnyH_take (i := 17) (v := ?_) rfl (by kernel_rfl) (by kernel_rfl) (by kernel_rfl) (fun _ _ _ h => h) (Or.inl ⟨by kernel_rfl, ?_⟩) (by assumption) ?_
        rotate_left 1
        · intro w9 hSw
          try dsimp only at hSw
          go_simp
          try with_reducible rfl
        try simp only [Act.put, List.getElem_toArray, List.getElem_cons_succ, List.getElem_cons_zero, List.setIfInBounds_toArray, List.set_cons_zero, List.set_cons_succ]
        refine wpAnyH_done (by kernel_rfl) ?_ _
        go_wp2
        (try simp only [Exit.inBlock, Exit.then])
        refine bodyPost_ret (v := .tuple #[.agg #[.slice (some ⟨Wqo.heap.size, 0, none⟩) 1 1, .slice (some ⟨Wqob.heap.size, 0, none⟩) 1 1, .slice (some ⟨Wq.heap.size, 0, none⟩) 1 1], .bool true]) ?_ rfl ?_
        · rw [results_cell_tmp rfl]; go_simp
        · exact ⟨_, _, _, rfl, ⟨_, _, _, rfl, C_y.out.wide (by have := LXC.out; omega) C_y.out.toIn.le (Nat.le_refl _), H_y.out.wide (by have := LXH.out; omega) H_y.out.toIn.le (Nat.le_refl _), R_y.out.wide (by have := LXR.out; omega) R_y.out.toIn.le (Nat.le_refl _)⟩, HB_y.out⟩
      · go_simp
        have hb := ba Wqo (.cells #[.int .i64 e] 3)
        have HB_sod := Lib.hid (bt HB_so.out hb)
        have G_sod := Lib.hid (G_so.out.below hb)
        have V_sod := Lib.hid (V_so.out.below hb)
        have Z_sod := Lib.hid (Z_so.out.below hb)
        have CK_sod := Lib.hid (CK_so.out.below hb)
        have XR_sod := Lib.hid (XR_so.out.below hb)
        have XH_sod := Lib.hid (show OwI Wqo.heap.size (Wqo.alloc (.cells #[.int .i64 e] 3)).heap.size (Wqo.alloc (.cells #[.int .i64 e] 3)) (.slice (some ⟨Wqo.heap.size, 0, none⟩) 1 1) [e] from jLit Wqo [e] (by simp))
        have LXH := Lib.hid (show w.heap.size + 2 < Wqo.heap.size from Z_so.out.lt)
        clear hb
        refine hK.out _ _ (show _ from ⟨⟨G_sod.out.1, G_sod.out.2.1, G_sod.out.2.2⟩, ⟨V_sod.out.1, V_sod.out.2⟩, CK_sod.out⟩) (fun hHeld => ?_)
        clear hK K
        try simp only [Act.put, List.getElem_toArray, List.getElem_cons_succ, List.getElem_cons_zero, List.setIfInBounds_toArray, List.set_cons_zero, List.set_cons_succ]
        generalize hW9 : Wqo.alloc (.cells #[.int .i64 e] 3) = Wqod at *
        clear hW9
        refine wpAnyH_ready (rs := [1]) (by kernel_rfl) (by simp) ?_
        refine AllReadyH.cons rfl (fun K hK => ?_) (AllReadyH.nil)
        go_simp
        have hb := ba Wqod (.cells #[.int .i64 x] 3)
        have HB_sodb := Lib.hid (bt HB_sod.out hb)
        have G_sodb := Lib.hid (G_sod.out.below hb)
        have V_sodb := Lib.hid (V_sod.out.below hb)
        have Z_sodb := Lib.hid (Z_sod.out.below hb)
        have CK_sodb := Lib.hid (CK_sod.out.below hb)
        have XR_sodb := Lib.hid (XR_sod.out.below hb)
        have XH_sodb := Lib.hid (XH_sod.out.below hb)
        have XC_sodb := Lib.hid (show OwI Wqod.heap.size (Wqod.alloc (.cells #[.int .i64 x] 3)).heap.size (Wqod.alloc (.cells #[.int .i64 x] 3)) (.slice (some ⟨Wqod.heap.size, 0, none⟩) 1 1) [x] from jLit Wqod [x] (by simp))
        have LXC := Lib.hid (show w.heap.size + 2 < Wqod.heap.size from Z_sod.out.lt)
        clear hb
        refine hK.out _ _ (show _ from ⟨⟨G_sodb.out.1, G_sodb.out.2.1, G_sodb.out.2.2⟩, ⟨V_sodb.out.1, V_sodb.out.2⟩, CK_sodb.out⟩) (fun hHeld => ?_)
        clear hK K
        try simp only [Act.put, List.getElem_toArray, List.getElem_cons_succ, List.getElem_cons_zero, List.setIfInBounds_toArray, List.set_cons_zero, List.set_cons_succ]
        generalize hW9 : Wqod.alloc (.cells #[.int .i64 x] 3) = Wqodb at *
        clear hW9
        refine wpAnyH_take (i := 15) (v := ?_) rfl (by kernel_rfl) (by kernel_rfl) (by kernel_rfl) (fun _ _ _ h => h) (Or.inl ⟨by kernel_rfl, ?_⟩) (by assumption) ?_
        rotate_left 1
        · intro w9 hSw
          try dsimp only at hSw
          go_simp
          try with_reducible rfl
        try simp only [Act.put, List.getElem_toArray, List.getElem_cons_succ, List.getElem_cons_zero, List.setIfInBounds_toArray, List.set_cons_zero, List.set_cons_succ]
        have hm5 := mid3 Wqodb (w.heap.size + 2) (.slice (some ⟨Wqod.heap.size, 0, none⟩) 1 1) (.slice (some ⟨Wqo.heap.size, 0, none⟩) 1 1) (.slice (some ⟨Wq.heap.size, 0, none⟩) 1 1)
        have hsz := hm5.size
        have G_y := Lib.hid (show GR _ w.heap.size P Q G from ⟨jCell hm5 G_sodb.out.1 (by omega), jCell hm5 G_sodb.out.2.1 (by omega), jCell hm5 G_sodb.out.2.2 (by omega)⟩)
        have V_y := Lib.hid (show D2 _ (w.heap.size + 1) (.int .i64 H) (.slice ya hs.length yc) from ⟨jCell hm5 V_sodb.out.1 (by omega), jCell hm5 V_sodb.out.2 (by omega)⟩)
        have CK_y := Lib.hid (show C1o _ kb ko a from jCell hm5 CK_sodb.out (by have := HKB.out; omega))
        have C_y := Lib.hid (XC_sodb.out.mid hm5 (.inr (by have := LXC.out; omega)))
        have H_y := Lib.hid (XH_sodb.out.mid hm5 (.inr (by have := LXH.out; omega)))
        have R_y := Lib.hid (XR_sodb.out.mid hm5 (.inr (by have := LXR.out; omega)))
        have HB_y := Lib.hid (HB_sodb.out.trans (hm5.toBelow (by omega) HB_sodb.out.size))
        clear hm5
        refine wpAnyH_ready (rs := [16]) (by kernel_rfl) (by simp) ?_
        refine AllReadyH.cons rfl (fun K hK => ?_) AllReadyH.nil
        obtain ⟨y0, y1, y2, yf⟩ := Z_sodb.out
        have yf0 := yf 0
        have yf1 := yf 1
        have yf2 := yf 2
        clear yf
        go_simp
        refine hK.out _ _ (show _ from ⟨⟨G_y.out.1, G_y.out.2.1, G_y.out.2.2⟩, ⟨V_y.out.1, V_y.out.2⟩, CK_y.out⟩) (fun hHeld => ?_)
        clear hK K
        try simp only [Act.put, List.getElem_toArray, List.getElem_cons_succ, List.getElem_cons_zero, List.setIfInBounds_toArray, List.set_cons_zero, List.set_cons_succ]
        refine wpAnyH_take (i := 17) (v := ?_) rfl (by kernel_rfl) (by kernel_rfl) (by kernel_rfl) (fun _ _ _ h => h) (Or.inl ⟨by kernel_rfl, ?_⟩) (by assumption) ?_
        rotate_left 1
        · intro w9 hSw
          try dsimp only at hSw
          go_simp
          try with_reducible rfl
        try simp only [Act.put, List.getElem_toArray, List.getElem_cons_succ, List.getElem_cons_zero, List.setIfInBounds_toArray, List.set_cons_zero, List.set_cons_succ]
        refine wpAnyH_done (by kernel_rfl) ?_ _
        go_wp2
        (try simp only [Exit.inBlock, Exit.then])
        refine bodyPost_ret (v := .tuple #[.agg #[.slice (some ⟨Wqod.heap.size, 0, none⟩) 1 1, .slice (some ⟨Wqo.heap.size, 0, none⟩) 1 1, .slice (some ⟨Wq.heap.size, 0, none⟩) 1 1], .bool true]) ?_ rfl ?_
        · rw [results_cell_tmp rfl]; go_simp
        · exact ⟨_, _, _, rfl, ⟨_, _, _, rfl, C_y.out.wide (by have := LXC.out; omega) C_y.out.toIn.le (Nat.le_refl _), H_y.out.wide (by have := LXH.out; omega) H_y.out.toIn.le (Nat.le_refl _), R_y.out.wide (by have := LXR.out; omega) R_y.out.toIn.le (Nat.le_refl _)⟩, HB_y.out⟩

end Go.Proofs.Ytfjaohmildkeoaa

