/- What the laws of layer 2 draw: the group. -/
import Derived.Test.YtdnofcpobpoehaaDrG
namespace Go.Proofs.Ytdnofcpobpoehaa
open Go.RowKit

def orders : List Int := [101, 1009, 1019, 65537, 999983]
set_option maxRecDepth 100000 in
set_option maxHeartbeats 1000000 in
theorem group_any (g k : Nat) (hk : k ≤ 1000000000) (w : World) (hc : Cur w g k) :
    Calls Try.prog 135 #[.pointer (some ⟨g, 0, none⟩)] w (GroupPost w g (k + 8)) := by
  have HC := Lib.hid hc
  have hgl := hc.lt
  have hcb := hc.below (ba w (.cells #[.int .i64 0, .int .i64 0, .int .i64 0] 29))
  have HCb := Lib.hid hcb
  clear hc hcb
  go_enter Try.func135, Try.ntmps135
  go_wp2_with fail
  refine (pick_any g k 6 (by omega) (by omega) _ HCb.out).mono ?_
  rintro e w1 ⟨x, rfl, hx, hc1, hg1⟩
  have hx0 : 0 ≤ x := hx.1
  have hx1 : x ≤ 5 := by omega
  have HC1 := Lib.hid hc1
  have HG1 := Lib.hid (grown_trans (grown_below (ba w (.cells #[.int .i64 0, .int .i64 0, .int .i64 0] 29)) (some g)) hg1)
  have HR1 := Lib.hid (show Own3 w1 w.heap.size 0 0 0 from ⟨(gr_new w 0 0 0 _).grown hg1 (by omega), fun i => by
    rw [frozen_grown hg1 (by simp) (by omega)]; exact (own3_new w 0 0 0 _).2 i⟩)
  clear hc1 hg1 hx
  by_cases hx2 : x = 0
  · subst hx2
    obtain ⟨⟨c0, c1, c2⟩, hf⟩ := HR1.out
    have f0 := hf 0
    have f1 := hf 1
    have f2 := hf 2
    clear hf
    go_wp2
    (try simp only [Exit.inBlock, Exit.then])
    refine bodyPost_ret (v := gv 1000000007 500000003 4) ?_ rfl ⟨1000000007, 500000003, 4, rfl, ⟨by omega, by omega, by omega⟩, ?_⟩
    · rw [results_cell_one rfl]; go_simp
    · have h := res_set (P := 1000000007) (Q := 500000003) (G := 4) HC1.out HG1.out hgl (Nat.le_refl w.heap.size)
      exact ⟨h.1.mono (by omega), h.2⟩
  by_cases hx3 : x = 1
  · subst hx3
    go_wp2_with fail
    have hal := ba w1 (.cells (orders.map (Value.int .i64)).toArray 3)
    refine (among_any g _ _ _ _ orders (by omega) rfl (by decide) (by decide) (by rintro a ⟨⟩; have := HC1.out.lt; simp; omega) _ (ints_lit w1 orders 3) (HC1.out.below hal)).mono ?_
    rintro e w2 ⟨q, rfl, _, hc2, hg2⟩
    have HC2 := Lib.hid hc2
    have HG2 := Lib.hid (grown_trans HG1.out (grown_trans (grown_below hal _) hg2))
    have HR2 := Lib.hid (show Own3 w2 w.heap.size 0 0 0 from ⟨(HR1.out.1.below hal).grown hg2 (by omega), fun i => by
      have hl := (HR1.out.1.below hal).lt
      rw [frozen_grown hg2 hl (by omega)]; exact (HR1.out.below hal).2 i⟩)
    clear hc2 hg2 hal
    have HD := Lib.hid (mk_range q)
    go_wp2_with fail
    refine (sMakeGroup_any _ _).mono ?_
    rintro e w3 ⟨rfl, hb3⟩
    have HC3 := Lib.hid (HC2.out.below hb3)
    have HG3 := Lib.hid (grown_trans HG2.out (grown_below hb3 _))
    have HR3 := Lib.hid (HR2.out.below hb3)
    clear hb3
    obtain ⟨⟨c0, c1, c2⟩, hf⟩ := HR3.out.below (ba w3 (.cells #[.int .i64 (mkVP q), .int .i64 (mkVQ q), .int .i64 (mkVG q)] 29))
    have f0 := hf 0
    have f1 := hf 1
    have f2 := hf 2
    clear hf
    go_wp2
    (try simp only [Exit.inBlock, Exit.then])
    refine bodyPost_ret (v := gv (mkVP q) (mkVQ q) (mkVG q)) ?_ rfl ⟨mkVP q, mkVQ q, mkVG q, rfl, HD.out, ?_⟩
    · rw [results_cell_one rfl]; go_simp
    · have hal := ba w3 (.cells #[.int .i64 (mkVP q), .int .i64 (mkVQ q), .int .i64 (mkVG q)] 29)
      have h := res_set (P := mkVP q) (Q := mkVQ q) (G := mkVG q) (HC3.out.below hal) (grown_trans HG3.out (grown_below hal _)) hgl (Nat.le_refl w.heap.size)
      exact ⟨h.1.mono (by omega), h.2⟩
  · have hx2i : (x == 0) = false := by simp [hx2]
    have hx3i : (x == 1) = false := by simp [hx3]
    go_wp2_with fail
    refine (tiny_any g _ (by omega) _ HC1.out).mono ?_
    rintro e w2 ⟨P, Q, G, rfl, hgood, ⟨q0, q1⟩, hc2, hg2⟩
    obtain ⟨⟨p0, p1⟩, _, _, ⟨g0, g1⟩, _⟩ := goodB_true.1 hgood
    have HC2 := Lib.hid hc2
    have HG2 := Lib.hid (grown_trans HG1.out hg2)
    have HR2 := Lib.hid (show Own3 w2 w.heap.size 0 0 0 from ⟨HR1.out.1.grown hg2 (by omega), fun i => by
      rw [frozen_grown hg2 HR1.out.1.lt (by omega)]; exact HR1.out.2 i⟩)
    have p1' := good_le hgood
    clear hc2 hg2 hgood
    have hal := ba w2 (.cells #[.int .i64 P, .int .i64 Q, .int .i64 G] 29)
    have HC3 := Lib.hid (HC2.out.below hal)
    have HG3 := Lib.hid (grown_trans HG2.out (grown_below hal _))
    have hwl : w.heap.size < w2.heap.size := HR2.out.1.lt
    have HR3 := Lib.hid (HR2.out.below hal)
    have HV3 := Lib.hid (own3_new w2 P Q G 29)
    have HK := Lib.hid (show ∀ W, (w2.alloc (.cells #[.int .i64 P, .int .i64 Q, .int .i64 G] 29)).grownBy W (some g) → Own3 W w2.heap.size P Q G ∧ Own3 W w.heap.size 0 0 0 from fun W h =>
      ⟨⟨HV3.out.1.grown h (by omega), fun i => by rw [frozen_grown h HV3.out.1.lt (by omega)]; exact HV3.out.2 i⟩, ⟨HR3.out.1.grown h (by omega), fun i => by rw [frozen_grown h HR3.out.1.lt (by omega)]; exact HR3.out.2 i⟩⟩)
    obtain ⟨⟨c0, c1, c2⟩, _⟩ := HV3.out
    have hw1 : IntKind.i64.wrap (Q - 1) = Q - 1 := by rw [IntKind.wrap_i64]; omega
    clear hal
    go_wp2_with fail
    go_region_with (first
          | (go_at_call 136; refine (pick_any g (k + 2 + 2) (Q - 1) (by omega) (by omega) _ HC3.out.drew).mono ?_; rintro e w4 ⟨y, rfl, hy, hc4, hg4⟩; have hy0 : 0 ≤ y := hy.1; have hy1 : y < Q - 1 := (by omega); have hw2 : IntKind.i64.wrap (1 + y) = 1 + y := (by rw [IntKind.wrap_i64]; omega); have HG4 := Lib.hid (show (w2.alloc (.cells #[.int .i64 P, .int .i64 Q, .int .i64 G] 29)).grownBy w4 (some g) from grown_trans (grown_drew _ _) hg4); have HC4 := Lib.hid hc4; obtain ⟨⟨⟨d0, d1, d2⟩, df⟩, _⟩ := HK.out w4 HG4.out)
          | (go_at_call 119; refine (gExp_any P Q G G (1 + y) (by omega) (by omega) (by omega) (by omega) (by omega) p1 (by omega) (by omega) _).mono ?_; rintro e w5 ⟨rfl, hb5⟩; have HB5 := Lib.hid hb5; obtain ⟨⟨⟨e0, e1, e2⟩, ef⟩, _⟩ := HK.out w5 (grown_trans HG4.out (grown_below HB5.out _)); have ef2 := ef 2))
    all_goals (
      rename_i K ha _ _
      refine ha _ _ ?_
      clear ha hc4 hg4 hb5 hy
      have hP := pow_lt G (1 + y) P (by omega)
      have hG := grown_trans HG4.out (grown_below HB5.out (some g))
      obtain ⟨HV, HR⟩ := HK.out w5 hG
      generalize Num.pow G (1 + y) P = v at hP ⊢
      have HC5 := Lib.hid ((HC4.out.below HB5.out).other ⟨w2.heap.size, 2, none⟩ (.int .i64 v) (Nat.lt_trans hgl hwl))
      have HG5 := Lib.hid (grown_set (grown_trans HG3.out hG) ⟨w2.heap.size, 2, none⟩ (.int .i64 v) (Nat.le_of_lt hwl))
      have HV5 := Lib.hid (HV.set v)
      have HR5 := Lib.hid (HR.other ⟨w2.heap.size, 2, none⟩ (.int .i64 v) (Nat.ne_of_gt hwl))
      clear e0 e1 e2 ef ef2 d0 d1 d2 df HV HR hG c0 c1 c2
      generalize w5.setCell ⟨w2.heap.size, 2, none⟩ (.int .i64 v) = W5 at HC5 HG5 HV5 HR5 ⊢
      obtain ⟨⟨a0, a1, a2⟩, _⟩ := HV5.out
      obtain ⟨⟨b0, b1, b2⟩, bf⟩ := HR5.out
      have bf0 := bf 0
      have bf1 := bf 1
      have bf2 := bf 2
      clear bf
      go_wp2
      (try simp only [Exit.inBlock, Exit.then])
      refine bodyPost_ret (v := gv P Q v) ?_ rfl ⟨P, Q, v, rfl, ⟨by omega, by omega, by omega⟩, ?_⟩
      · rw [results_cell_one rfl]; go_simp
      · have h := res_set (P := P) (Q := Q) (G := v) HC5.out HG5.out hgl (Nat.le_refl w.heap.size)
        exact ⟨h.1.mono (by omega), h.2⟩)

end Go.Proofs.Ytdnofcpobpoehaa

/- What the laws of layer 2 draw: any group, good or bent. -/
namespace Go.Proofs.Ytdnofcpobpoehaa
open Go.RowKit

theorem Own3.grown {w w' : World} {b g : Nat} {P Q G : Int} (h : Own3 w b P Q G) (hg : w.grownBy w' (some g)) (hne : b ≠ g) : Own3 w' b P Q G :=
  ⟨h.1.grown hg hne, fun i => by rw [frozen_grown hg h.1.lt hne]; exact h.2 i⟩

/-- A bent group's ranges: one field may be off. -/
def DB (P Q G : Int) : Prop := (-7 ≤ P ∧ P ≤ 2000000000) ∧ (-1 ≤ Q ∧ Q ≤ 2000000000) ∧ -1 ≤ G ∧ G ≤ 2000000001
def AnyPost (w : World) (g k : Nat) (e : Ending) (w' : World) : Prop :=
  ∃ P Q G : Int, e = .returned (gv P Q G) ∧ DB P Q G ∧ Cur w' g k ∧ w.grownBy w' (some g)

set_option maxRecDepth 100000 in
set_option maxHeartbeats 1000000 in
theorem anyGroup_any (g k : Nat) (hk : k ≤ 1000000000) (w : World) (hc : Cur w g k) :
    Calls Try.prog 92 #[.pointer (some ⟨g, 0, none⟩)] w (AnyPost w g (k + 12)) := by
  have HC := Lib.hid hc
  have hgl := hc.lt
  have hal0 := ba w (.cells #[.int .i64 0, .int .i64 0, .int .i64 0] 29)
  have HCb := Lib.hid (hc.below hal0)
  clear hc
  go_enter Try.func92, Try.ntmps92
  go_wp2_with fail
  refine (group_any g _ (by omega) _ HCb.out).mono ?_
  rintro e w1 ⟨P, Q, G, rfl, hd, hc1, hg1⟩
  obtain ⟨⟨p0, p1⟩, ⟨q0, q1⟩, g0, g1⟩ := hd
  have HC1 := Lib.hid hc1
  have HG1 := Lib.hid (grown_trans (grown_below hal0 (some g)) hg1)
  have HG1' := Lib.hid hg1
  clear hc1 hg1
  have hal := ba w1 (.cells #[.int .i64 P, .int .i64 Q, .int .i64 G] 29)
  have hwl : w.heap.size < w1.heap.size := by
    have := HG1'.out.size
    simp at this
    omega
  have HR1 := Lib.hid (show Own3 w1 w.heap.size 0 0 0 from ⟨(gr_new w 0 0 0 _).grown HG1'.out (by omega), fun i => by
    rw [frozen_grown HG1'.out (by simp) (by omega)]; exact (own3_new w 0 0 0 _).2 i⟩)
  have HC2 := Lib.hid (HC1.out.below hal)
  have HG2 := Lib.hid (grown_trans HG1.out (grown_below hal (some g)))
  have HR2 := Lib.hid (HR1.out.below hal)
  have HV2 := Lib.hid (own3_new w1 P Q G 29)
  clear hal hal0
  go_wp2_with fail
  refine (pick_any g _ 24 (by omega) (by omega) _ HC2.out).mono ?_
  rintro e w2 ⟨x, rfl, hx, hc3, hg3⟩
  have hx0 : 0 ≤ x := hx.1
  have hx1 : x ≤ 23 := by omega
  have HC3 := Lib.hid hc3
  have HG3 := Lib.hid (grown_trans HG2.out hg3)
  have HR3 := Lib.hid (show Own3 w2 w.heap.size 0 0 0 from ⟨HR2.out.1.grown hg3 (by omega), fun i => by
    rw [frozen_grown hg3 HR2.out.1.lt (by omega)]; exact HR2.out.2 i⟩)
  have HV3 := Lib.hid (show Own3 w2 w1.heap.size P Q G from ⟨HV2.out.1.grown hg3 (by omega), fun i => by
    rw [frozen_grown hg3 HV2.out.1.lt (by omega)]; exact HV2.out.2 i⟩)
  clear hc3 hg3 hx
  obtain ⟨⟨c0, c1, c2⟩, cf⟩ := HV3.out
  have cf0 := cf 0
  have cf1 := cf 1
  have cf2 := cf 2
  have hw1 : IntKind.i64.wrap (P + 2) = P + 2 := by rw [IntKind.wrap_i64]; omega
  have hw2 : IntKind.i64.wrap (Q + 1) = Q + 1 := by rw [IntKind.wrap_i64]; omega
  have hw3 : IntKind.i64.wrap (P - 1) = P - 1 := by rw [IntKind.wrap_i64]; omega
  have hw4 : IntKind.i64.wrap (G + 1) = G + 1 := by rw [IntKind.wrap_i64]; omega
  by_cases hx0' : x = 0
  · subst hx0'
    go_wp2_with fail
    have hal2 := ba w2 (.cells #[.int .i64 0, .int .i64 (P + 2), .int .i64 4, .int .i64 (-7)] 3)
    refine (among_any g _ _ _ _ [0, P + 2, 4, -7] (by omega) rfl (by simp) (by simp) (by rintro a ⟨⟩; have := HC3.out.lt; simp; omega) _ (ints_lit w2 [0, P + 2, 4, -7] 3) (HC3.out.below hal2)).mono ?_
    rintro e w3 ⟨q, rfl, hm, hc4, hg4⟩
    have hq : -7 ≤ q ∧ q ≤ 2000000000 := by
      simp at hm
      omega
    have HC4 := Lib.hid hc4
    have HG4 := Lib.hid (grown_trans HG3.out (grown_trans (grown_below hal2 (some g)) hg4))
    have HR4 := Lib.hid (show Own3 w3 w.heap.size 0 0 0 from (HR3.out.below hal2).grown hg4 (by omega))
    have HV4 := Lib.hid (show Own3 w3 w1.heap.size P Q G from (HV3.out.below hal2).grown hg4 (by omega))
    clear hc4 hg4 hal2 hm cf c0 c1 c2 cf0 cf1 cf2
    obtain ⟨⟨d0, d1, d2⟩, df⟩ := HV4.out
    obtain ⟨⟨r0, r1, r2⟩, rf⟩ := HR4.out
    have df0 := df 0
    have rf0 := rf 0
    have rf1 := rf 1
    have rf2 := rf 2
    have hnw : w1.heap.size ≠ w.heap.size := by omega
    have hnw' : w.heap.size ≠ w1.heap.size := by omega
    clear df rf
    go_wp2
    (try simp only [Exit.inBlock, Exit.then])
    refine bodyPost_ret (v := gv q Q G) ?_ rfl ⟨q, Q, G, rfl, ⟨by omega, by omega, by omega⟩, ?_⟩
    · rw [results_cell_one rfl]; go_simp
    · have h := res_set (P := q) (Q := Q) (G := G) (HC4.out.other ⟨w1.heap.size, 0, none⟩ (.int .i64 q) (Nat.lt_trans hgl hwl)) (grown_set HG4.out ⟨w1.heap.size, 0, none⟩ (.int .i64 q) (Nat.le_of_lt hwl)) hgl (Nat.le_refl w.heap.size)
      exact ⟨h.1.mono (by omega), h.2⟩
  by_cases hx1' : x = 1
  · subst hx1'
    go_wp2_with fail
    have hal2 := ba w2 (.cells #[.int .i64 0, .int .i64 1, .int .i64 (Q + 1), .int .i64 (P - 1)] 3)
    refine (among_any g _ _ _ _ [0, 1, Q + 1, P - 1] (by omega) rfl (by simp) (by simp) (by rintro a ⟨⟩; have := HC3.out.lt; simp; omega) _ (ints_lit w2 [0, 1, Q + 1, P - 1] 3) (HC3.out.below hal2)).mono ?_
    rintro e w3 ⟨q, rfl, hm, hc4, hg4⟩
    have hq : -1 ≤ q ∧ q ≤ 2000000000 := by
      simp at hm
      omega
    have HC4 := Lib.hid hc4
    have HG4 := Lib.hid (grown_trans HG3.out (grown_trans (grown_below hal2 (some g)) hg4))
    have HR4 := Lib.hid (show Own3 w3 w.heap.size 0 0 0 from (HR3.out.below hal2).grown hg4 (by omega))
    have HV4 := Lib.hid (show Own3 w3 w1.heap.size P Q G from (HV3.out.below hal2).grown hg4 (by omega))
    clear hc4 hg4 hal2 hm cf c0 c1 c2 cf0 cf1 cf2
    obtain ⟨⟨d0, d1, d2⟩, df⟩ := HV4.out
    obtain ⟨⟨r0, r1, r2⟩, rf⟩ := HR4.out
    have df1 := df 1
    have rf0 := rf 0
    have rf1 := rf 1
    have rf2 := rf 2
    have hnw : w1.heap.size ≠ w.heap.size := by omega
    have hnw' : w.heap.size ≠ w1.heap.size := by omega
    clear df rf
    go_wp2
    (try simp only [Exit.inBlock, Exit.then])
    refine bodyPost_ret (v := gv P q G) ?_ rfl ⟨P, q, G, rfl, ⟨by omega, by omega, by omega⟩, ?_⟩
    · rw [results_cell_one rfl]; go_simp
    · have h := res_set (P := P) (Q := q) (G := G) (HC4.out.other ⟨w1.heap.size, 1, none⟩ (.int .i64 q) (Nat.lt_trans hgl hwl)) (grown_set HG4.out ⟨w1.heap.size, 1, none⟩ (.int .i64 q) (Nat.le_of_lt hwl)) hgl (Nat.le_refl w.heap.size)
      exact ⟨h.1.mono (by omega), h.2⟩
  by_cases hx2' : x = 2
  · subst hx2'
    go_wp2_with fail
    have hal2 := ba w2 (.cells #[.int .i64 0, .int .i64 1, .int .i64 (P - 1), .int .i64 P, .int .i64 (G + 1)] 3)
    refine (among_any g _ _ _ _ [0, 1, P - 1, P, G + 1] (by omega) rfl (by simp) (by simp) (by rintro a ⟨⟩; have := HC3.out.lt; simp; omega) _ (ints_lit w2 [0, 1, P - 1, P, G + 1] 3) (HC3.out.below hal2)).mono ?_
    rintro e w3 ⟨q, rfl, hm, hc4, hg4⟩
    have hq : -1 ≤ q ∧ q ≤ 2000000001 := by
      simp at hm
      omega
    have HC4 := Lib.hid hc4
    have HG4 := Lib.hid (grown_trans HG3.out (grown_trans (grown_below hal2 (some g)) hg4))
    have HR4 := Lib.hid (show Own3 w3 w.heap.size 0 0 0 from (HR3.out.below hal2).grown hg4 (by omega))
    have HV4 := Lib.hid (show Own3 w3 w1.heap.size P Q G from (HV3.out.below hal2).grown hg4 (by omega))
    clear hc4 hg4 hal2 hm cf c0 c1 c2 cf0 cf1 cf2
    obtain ⟨⟨d0, d1, d2⟩, df⟩ := HV4.out
    obtain ⟨⟨r0, r1, r2⟩, rf⟩ := HR4.out
    have df2 := df 2
    have rf0 := rf 0
    have rf1 := rf 1
    have rf2 := rf 2
    have hnw : w1.heap.size ≠ w.heap.size := by omega
    have hnw' : w.heap.size ≠ w1.heap.size := by omega
    clear df rf
    go_wp2
    (try simp only [Exit.inBlock, Exit.then])
    refine bodyPost_ret (v := gv P Q q) ?_ rfl ⟨P, Q, q, rfl, ⟨by omega, by omega, by omega⟩, ?_⟩
    · rw [results_cell_one rfl]; go_simp
    · have h := res_set (P := P) (Q := Q) (G := q) (HC4.out.other ⟨w1.heap.size, 2, none⟩ (.int .i64 q) (Nat.lt_trans hgl hwl)) (grown_set HG4.out ⟨w1.heap.size, 2, none⟩ (.int .i64 q) (Nat.le_of_lt hwl)) hgl (Nat.le_refl w.heap.size)
      exact ⟨h.1.mono (by omega), h.2⟩
  · have hn0 : (x == 0) = false := by simp [hx0']
    have hn1 : (x == 1) = false := by simp [hx1']
    have hn2 : (x == 2) = false := by simp [hx2']
    clear c0 c1 c2 cf0 cf1 cf2 cf
    obtain ⟨⟨d0, d1, d2⟩, _⟩ := HV3.out
    obtain ⟨⟨r0, r1, r2⟩, rf⟩ := HR3.out
    have rf0 := rf 0
    have rf1 := rf 1
    have rf2 := rf 2
    clear rf
    go_wp2
    (try simp only [Exit.inBlock, Exit.then])
    refine bodyPost_ret (v := gv P Q G) ?_ rfl ⟨P, Q, G, rfl, ⟨by omega, by omega, by omega⟩, ?_⟩
    · rw [results_cell_one rfl]; go_simp
    · have h := res_set (P := P) (Q := Q) (G := G) HC3.out HG3.out hgl (Nat.le_refl w.heap.size)
      exact ⟨h.1.mono (by omega), h.2⟩

end Go.Proofs.Ytdnofcpobpoehaa

/- What the laws of layer 2 draw: exponents and elements. -/
namespace Go.Proofs.Ytdnofcpobpoehaa
open Go.RowKit

theorem nMod_pos (a m : Int) (h0 : 0 ≤ a) (h2 : 2 ≤ m) (h3 : m ≤ 2000000000) (w : World) :
    Calls Try.prog 80 #[.int .i64 a, .int .i64 m] w fun e w' => e = .returned (.int .i64 (a % m)) ∧ w = w' := by
  have b0 : 0 ≤ a % m := Int.emod_nonneg _ (by omega)
  have b1 : a % m < m := Int.emod_lt_of_pos _ (by omega)
  have e0 : a.tmod m = a % m := Int.tmod_eq_emod_of_nonneg h0
  have e2 : (a % m + m) % m = a % m := by rw [Int.add_emod_right]; exact Int.emod_eq_of_lt b0 b1
  have e3 : (a % m + m).tmod m = a % m := by rw [Int.tmod_eq_emod_of_nonneg (by omega)]; exact e2
  generalize hr : a % m = r at *
  go_enter Try.func80, Try.ntmps80
  go_wp2
  go_ret
  exact ⟨rfl, rfl⟩

/-- What is drawn of a number between 0 and n. -/
def NumPost (w : World) (g k : Nat) (n : Int) (e : Ending) (w' : World) : Prop :=
  ∃ x : Int, e = .returned (.int .i64 x) ∧ (0 ≤ x ∧ (x < n ∨ (n < 2 ∧ x = 0))) ∧ Cur w' g k ∧ w.grownBy w' (some g)

set_option maxHeartbeats 1000000 in
theorem expo_any (g k : Nat) (hk : k ≤ 1000000000) (P Q G : Int) (q0 : -1 ≤ Q) (q1 : Q ≤ 2000000000) (w : World) (hc : Cur w g k) :
    Calls Try.prog 149 #[.pointer (some ⟨g, 0, none⟩), gv P Q G] w (NumPost w g (k + 4) Q) := by
  have hgl := hc.lt
  have hal := ba w (.cells #[.int .i64 P, .int .i64 Q, .int .i64 G] 29)
  have HC := Lib.hid (hc.below hal)
  have HG := Lib.hid (grown_below hal (some g))
  have HC0 := Lib.hid hc
  obtain ⟨c0, c1, c2⟩ := gr_new w P Q G 29
  clear hc hal
  by_cases hq : Q < 2
  · have hqd : decide (Q < 2) = true := by simp [hq]
    go_enter Try.func149, Try.ntmps149
    go_wp2
    go_ret
    exact ⟨0, rfl, ⟨by omega, .inr ⟨hq, rfl⟩⟩, HC.out.mono (by omega), HG.out⟩
  · have hqd : decide (Q < 2) = false := by simp [hq]
    have hqn : Q ≠ 0 := by omega
    go_enter Try.func149, Try.ntmps149
    have HR := Lib.hid (show GR (w.alloc (.cells #[.int .i64 P, .int .i64 Q, .int .i64 G] 29)) w.heap.size P Q G from ⟨c0, c1, c2⟩)
    have hne : w.heap.size ≠ g := by omega
    go_wp2_with fail
    go_region_with (first
      | (go_at_call 136; refine (pick_any g (k + 2) 60000 (by omega) (by omega) _ (by first | exact HC4.out | exact HC4.out.drew)).mono ?_; rintro e w5 ⟨z, rfl, hz, hc5, hg5⟩; have hz0 : 0 ≤ z := hz.1; have hz1 : z ≤ 59999 := (by omega); have hs : IntKind.i64.wrap (y * 60000 + z) = y * 60000 + z := (by rw [IntKind.wrap_i64]; omega); have HM := Lib.hid (show (y * 60000 + z).tmod Q = (y * 60000 + z) % Q from Int.tmod_eq_emod_of_nonneg (by omega)); have hnn : 0 ≤ y * 60000 + z := (by omega); have HG5 := Lib.hid (show w.grownBy w5 (some g) from by first | exact grown_trans HG4.out hg5 | exact grown_trans HG4.out (grown_trans (grown_drew _ _) hg5)); have HR5 := Lib.hid (show GR w5 w.heap.size P Q G from (by first | exact HR4.out.grown hg5 hne | exact HR4.out.grown (grown_trans (grown_drew _ _) hg5) hne)); obtain ⟨e0, e1, e2⟩ := HR5.out; have HC5 := Lib.hid hc5)
      | (go_at_call 136; refine (pick_any g k 60000 (by omega) (by omega) _ (by first | exact HC.out | exact HC.out.drew)).mono ?_; rintro e w4 ⟨y, rfl, hy, hc4, hg4⟩; have hy0 : 0 ≤ y := hy.1; have hy1 : y ≤ 59999 := (by omega); have hp : IntKind.i64.wrap (y * 60000) = y * 60000 := (by rw [IntKind.wrap_i64]; omega); have HG4 := Lib.hid (show w.grownBy w4 (some g) from by first | exact grown_trans HG.out hg4 | exact grown_trans HG.out (grown_trans (grown_drew _ _) hg4)); have HR4 := Lib.hid (show GR w4 w.heap.size P Q G from (by first | exact HR.out.grown hg4 hne | exact HR.out.grown (grown_trans (grown_drew _ _) hg4) hne)); obtain ⟨d0, d1, d2⟩ := HR4.out; have HC4 := Lib.hid hc4))
    all_goals (
      rename_i K ha
      refine ha _ _ ?_
      clear ha
      have hm0 : 0 ≤ (y * 60000 + z) % Q := Int.emod_nonneg _ hqn
      have hm1 : (y * 60000 + z) % Q < Q := Int.emod_lt_of_pos _ (by omega)
      go_wp2
      go_ret
      exact ⟨_, rfl, ⟨by (try rw [HM.out]); exact hm0, .inl (by (try rw [HM.out]); exact hm1)⟩, HC5.out.mono (by omega), HG5.out⟩)

end Go.Proofs.Ytdnofcpobpoehaa

