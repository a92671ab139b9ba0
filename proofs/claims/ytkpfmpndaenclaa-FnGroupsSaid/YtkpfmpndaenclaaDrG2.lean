/- What the laws of layer 2 draw: the group. -/
import Derived.Test.YtkpfmpndaenclaaDrG
namespace Go.Proofs.Ytkpfmpndaenclaa
open Go.RowKit

def orders : List Int := [101, 1009, 1019, 65537, 999983]
set_option maxRecDepth 100000 in
set_option maxHeartbeats 1000000 in
theorem group_any (g k : Nat) (hk : k ≤ 1000000000) (w : World) (hc : Cur w g k) :
    Calls Try.prog 102 #[.pointer (some ⟨g, 0, none⟩)] w (GroupPost w g (k + 8)) := by
  have HC := Lib.hid hc
  have hgl := hc.lt
  have hcb := hc.below (ba w (.cells #[.int .i64 0, .int .i64 0, .int .i64 0] 24))
  have HCb := Lib.hid hcb
  clear hc hcb
  go_enter Try.func102, Try.ntmps102
  go_wp2_with fail
  refine (pick_any g k 6 (by omega) (by omega) _ HCb.out).mono ?_
  rintro e w1 ⟨x, rfl, hx, hc1, hg1⟩
  have hx0 : 0 ≤ x := hx.1
  have hx1 : x ≤ 5 := by omega
  have HC1 := Lib.hid hc1
  have HG1 := Lib.hid (grown_trans (grown_below (ba w (.cells #[.int .i64 0, .int .i64 0, .int .i64 0] 24)) (some g)) hg1)
  have HR1 := Lib.hid (show Own3 w1 w.heap.size 0 0 0 from ⟨(gr_new w 0 0 0 _).grown hg1 (by omega), fun i => by
    rw [frozen_grown hg1 (by simp) (by omega)]; exact (own3_new w 0 0 0 _).2 i⟩)
  clear hc1 hg1 hx
  by_cases hx2 : x = 0
  · subst hx2
    obtain ⟨⟨c0, c1, c2⟩, hf⟩ := HR1.out
    have f0 := hf 0
    have f1 := hf 1
    have f2 := hf 2
    clear hf
    go_wp2
    (try simp only [Exit.inBlock, Exit.then])
    refine bodyPost_ret (v := gv 1000000007 500000003 4) ?_ rfl ⟨1000000007, 500000003, 4, rfl, ⟨by omega, by omega, by omega⟩, ?_⟩
    · rw [results_cell_one rfl]; go_simp
    · have h := res_set (P := 1000000007) (Q := 500000003) (G := 4) HC1.out HG1.out hgl (Nat.le_refl w.heap.size)
      exact ⟨h.1.mono (by omega), h.2⟩
  by_cases hx3 : x = 1
  · subst hx3
    go_wp2_with fail
    have hal := ba w1 (.cells (orders.map (Value.int .i64)).toArray 3)
    refine (among_any g _ _ _ _ orders (by omega) rfl (by decide) (by decide) (by rintro a ⟨⟩; have := HC1.out.lt; simp; omega) _ (ints_lit w1 orders 3) (HC1.out.below hal)).mono ?_
    rintro e w2 ⟨q, rfl, _, hc2, hg2⟩
    have HC2 := Lib.hid hc2
    have HG2 := Lib.hid (grown_trans HG1.out (grown_trans (grown_below hal _) hg2))
    have HR2 := Lib.hid (show Own3 w2 w.heap.size 0 0 0 from ⟨(HR1.out.1.below hal).grown hg2 (by omega), fun i => by
      have hl := (HR1.out.1.below hal).lt
      rw [frozen_grown hg2 hl (by omega)]; exact (HR1.out.below hal).2 i⟩)
    clear hc2 hg2 hal
    have HD := Lib.hid (mk_range q)
    go_wp2_with fail
    refine (sMakeGroup_any _ _).mono ?_
    rintro e w3 ⟨rfl, hb3⟩
    have HC3 := Lib.hid (HC2.out.below hb3)
    have HG3 := Lib.hid (grown_trans HG2.out (grown_below hb3 _))
    have HR3 := Lib.hid (HR2.out.below hb3)
    clear hb3
    obtain ⟨⟨c0, c1, c2⟩, hf⟩ := HR3.out.below (ba w3 (.cells #[.int .i64 (mkVP q), .int .i64 (mkVQ q), .int .i64 (mkVG q)] 24))
    have f0 := hf 0
    have f1 := hf 1
    have f2 := hf 2
    clear hf
    go_wp2
    (try simp only [Exit.inBlock, Exit.then])
    refine bodyPost_ret (v := gv (mkVP q) (mkVQ q) (mkVG q)) ?_ rfl ⟨mkVP q, mkVQ q, mkVG q, rfl, HD.out, ?_⟩
    · rw [results_cell_one rfl]; go_simp
    · have hal := ba w3 (.cells #[.int .i64 (mkVP q), .int .i64 (mkVQ q), .int .i64 (mkVG q)] 24)
      have h := res_set (P := mkVP q) (Q := mkVQ q) (G := mkVG q) (HC3.out.below hal) (grown_trans HG3.out (grown_below hal _)) hgl (Nat.le_refl w.heap.size)
      exact ⟨h.1.mono (by omega), h.2⟩
  · have hx2i : (x == 0) = false := by simp [hx2]
    have hx3i : (x == 1) = false := by simp [hx3]
    go_wp2_with fail
    refine (tiny_any g _ (by omega) _ HC1.out).mono ?_
    rintro e w2 ⟨P, Q, G, rfl, hgood, ⟨q0, q1⟩, hc2, hg2⟩
    obtain ⟨⟨p0, p1⟩, _, _, ⟨g0, g1⟩, _⟩ := goodB_true.1 hgood
    have HC2 := Lib.hid hc2
    have HG2 := Lib.hid (grown_trans HG1.out hg2)
    have HR2 := Lib.hid (show Own3 w2 w.heap.size 0 0 0 from ⟨HR1.out.1.grown hg2 (by omega), fun i => by
      rw [frozen_grown hg2 HR1.out.1.lt (by omega)]; exact HR1.out.2 i⟩)
    have p1' := good_le hgood
    clear hc2 hg2 hgood
    have hal := ba w2 (.cells #[.int .i64 P, .int .i64 Q, .int .i64 G] 24)
    have HC3 := Lib.hid (HC2.out.below hal)
    have HG3 := Lib.hid (grown_trans HG2.out (grown_below hal _))
    have hwl : w.heap.size < w2.heap.size := HR2.out.1.lt
    have HR3 := Lib.hid (HR2.out.below hal)
    have HV3 := Lib.hid (own3_new w2 P Q G 24)
    have HK := Lib.hid (show ∀ W, (w2.alloc (.cells #[.int .i64 P, .int .i64 Q, .int .i64 G] 24)).grownBy W (some g) → Own3 W w2.heap.size P Q G ∧ Own3 W w.heap.size 0 0 0 from fun W h =>
      ⟨⟨HV3.out.1.grown h (by omega), fun i => by rw [frozen_grown h HV3.out.1.lt (by omega)]; exact HV3.out.2 i⟩, ⟨HR3.out.1.grown h (by omega), fun i => by rw [frozen_grown h HR3.out.1.lt (by omega)]; exact HR3.out.2 i⟩⟩)
    obtain ⟨⟨c0, c1, c2⟩, _⟩ := HV3.out
    have hw1 : IntKind.i64.wrap (Q - 1) = Q - 1 := by rw [IntKind.wrap_i64]; omega
    clear hal
    go_wp2_with fail
    go_region_with (first
          | (go_at_call 61; refine (pick_any g (k + 2 + 2) (Q - 1) (by omega) (by omega) _ HC3.out.drew).mono ?_; rintro e w4 ⟨y, rfl, hy, hc4, hg4⟩; have hy0 : 0 ≤ y := hy.1; have hy1 : y < Q - 1 := (by omega); have hw2 : IntKind.i64.wrap (1 + y) = 1 + y := (by rw [IntKind.wrap_i64]; omega); have HG4 := Lib.hid (show (w2.alloc (.cells #[.int .i64 P, .int .i64 Q, .int .i64 G] 24)).grownBy w4 (some g) from grown_trans (grown_drew _ _) hg4); have HC4 := Lib.hid hc4; obtain ⟨⟨⟨d0, d1, d2⟩, df⟩, _⟩ := HK.out w4 HG4.out)
          | (go_at_call 76; refine (gExp_any P Q G G (1 + y) (by omega) (by omega) (by omega) (by omega) (by omega) p1 (by omega) (by omega) _).mono ?_; rintro e w5 ⟨rfl, hb5⟩; have HB5 := Lib.hid hb5; obtain ⟨⟨⟨e0, e1, e2⟩, ef⟩, _⟩ := HK.out w5 (grown_trans HG4.out (grown_below HB5.out _)); have ef2 := ef 2))
    all_goals (
      rename_i K ha _ _
      refine ha _ _ ?_
      clear ha hc4 hg4 hb5 hy
      have hP := pow_lt G (1 + y) P (by omega)
      have hG := grown_trans HG4.out (grown_below HB5.out (some g))
      obtain ⟨HV, HR⟩ := HK.out w5 hG
      generalize Num.pow G (1 + y) P = v at hP ⊢
      have HC5 := Lib.hid ((HC4.out.below HB5.out).other ⟨w2.heap.size, 2, none⟩ (.int .i64 v) (Nat.lt_trans hgl hwl))
      have HG5 := Lib.hid (grown_set (grown_trans HG3.out hG) ⟨w2.heap.size, 2, none⟩ (.int .i64 v) (Nat.le_of_lt hwl))
      have HV5 := Lib.hid (HV.set v)
      have HR5 := Lib.hid (HR.other ⟨w2.heap.size, 2, none⟩ (.int .i64 v) (Nat.ne_of_gt hwl))
      clear e0 e1 e2 ef ef2 d0 d1 d2 df HV HR hG c0 c1 c2
      generalize w5.setCell ⟨w2.heap.size, 2, none⟩ (.int .i64 v) = W5 at HC5 HG5 HV5 HR5 ⊢
      obtain ⟨⟨a0, a1, a2⟩, _⟩ := HV5.out
      obtain ⟨⟨b0, b1, b2⟩, bf⟩ := HR5.out
      have bf0 := bf 0
      have bf1 := bf 1
      have bf2 := bf 2
      clear bf
      go_wp2
      (try simp only [Exit.inBlock, Exit.then])
      refine bodyPost_ret (v := gv P Q v) ?_ rfl ⟨P, Q, v, rfl, ⟨by omega, by omega, by omega⟩, ?_⟩
      · rw [results_cell_one rfl]; go_simp
      · have h := res_set (P := P) (Q := Q) (G := v) HC5.out HG5.out hgl (Nat.le_refl w.heap.size)
        exact ⟨h.1.mono (by omega), h.2⟩)

end Go.Proofs.Ytkpfmpndaenclaa

