/- What the laws of layer 2 draw: any group, good or bent. -/
import Derived.Test.YtkpfmpndaenclaaDrG2
namespace Go.Proofs.Ytkpfmpndaenclaa
open Go.RowKit

theorem Own3.grown {w w' : World} {b g : Nat} {P Q G : Int} (h : Own3 w b P Q G) (hg : w.grownBy w' (some g)) (hne : b ≠ g) : Own3 w' b P Q G :=
  ⟨h.1.grown hg hne, fun i => by rw [frozen_grown hg h.1.lt hne]; exact h.2 i⟩

/-- A bent group's ranges: one field may be off. -/
def DB (P Q G : Int) : Prop := (-7 ≤ P ∧ P ≤ 2000000000) ∧ (-1 ≤ Q ∧ Q ≤ 2000000000) ∧ -1 ≤ G ∧ G ≤ 2000000001
def AnyPost (w : World) (g k : Nat) (e : Ending) (w' : World) : Prop :=
  ∃ P Q G : Int, e = .returned (gv P Q G) ∧ DB P Q G ∧ Cur w' g k ∧ w.grownBy w' (some g)

set_option maxRecDepth 100000 in
set_option maxHeartbeats 1000000 in
theorem anyGroup_any (g k : Nat) (hk : k ≤ 1000000000) (w : World) (hc : Cur w g k) :
    Calls Try.prog 53 #[.pointer (some ⟨g, 0, none⟩)] w (AnyPost w g (k + 12)) := by
  have HC := Lib.hid hc
  have hgl := hc.lt
  have hal0 := ba w (.cells #[.int .i64 0, .int .i64 0, .int .i64 0] 24)
  have HCb := Lib.hid (hc.below hal0)
  clear hc
  go_enter Try.func53, Try.ntmps53
  go_wp2_with fail
  refine (group_any g _ (by omega) _ HCb.out).mono ?_
  rintro e w1 ⟨P, Q, G, rfl, hd, hc1, hg1⟩
  obtain ⟨⟨p0, p1⟩, ⟨q0, q1⟩, g0, g1⟩ := hd
  have HC1 := Lib.hid hc1
  have HG1 := Lib.hid (grown_trans (grown_below hal0 (some g)) hg1)
  have HG1' := Lib.hid hg1
  clear hc1 hg1
  have hal := ba w1 (.cells #[.int .i64 P, .int .i64 Q, .int .i64 G] 24)
  have hwl : w.heap.size < w1.heap.size := by
    have := HG1'.out.size
    simp at this
    omega
  have HR1 := Lib.hid (show Own3 w1 w.heap.size 0 0 0 from ⟨(gr_new w 0 0 0 _).grown HG1'.out (by omega), fun i => by
    rw [frozen_grown HG1'.out (by simp) (by omega)]; exact (own3_new w 0 0 0 _).2 i⟩)
  have HC2 := Lib.hid (HC1.out.below hal)
  have HG2 := Lib.hid (grown_trans HG1.out (grown_below hal (some g)))
  have HR2 := Lib.hid (HR1.out.below hal)
  have HV2 := Lib.hid (own3_new w1 P Q G 24)
  clear hal hal0
  go_wp2_with fail
  refine (pick_any g _ 24 (by omega) (by omega) _ HC2.out).mono ?_
  rintro e w2 ⟨x, rfl, hx, hc3, hg3⟩
  have hx0 : 0 ≤ x := hx.1
  have hx1 : x ≤ 23 := by omega
  have HC3 := Lib.hid hc3
  have HG3 := Lib.hid (grown_trans HG2.out hg3)
  have HR3 := Lib.hid (show Own3 w2 w.heap.size 0 0 0 from ⟨HR2.out.1.grown hg3 (by omega), fun i => by
    rw [frozen_grown hg3 HR2.out.1.lt (by omega)]; exact HR2.out.2 i⟩)
  have HV3 := Lib.hid (show Own3 w2 w1.heap.size P Q G from ⟨HV2.out.1.grown hg3 (by omega), fun i => by
    rw [frozen_grown hg3 HV2.out.1.lt (by omega)]; exact HV2.out.2 i⟩)
  clear hc3 hg3 hx
  obtain ⟨⟨c0, c1, c2⟩, cf⟩ := HV3.out
  have cf0 := cf 0
  have cf1 := cf 1
  have cf2 := cf 2
  have hw1 : IntKind.i64.wrap (P + 2) = P + 2 := by rw [IntKind.wrap_i64]; omega
  have hw2 : IntKind.i64.wrap (Q + 1) = Q + 1 := by rw [IntKind.wrap_i64]; omega
  have hw3 : IntKind.i64.wrap (P - 1) = P - 1 := by rw [IntKind.wrap_i64]; omega
  have hw4 : IntKind.i64.wrap (G + 1) = G + 1 := by rw [IntKind.wrap_i64]; omega
  by_cases hx0' : x = 0
  · subst hx0'
    go_wp2_with fail
    have hal2 := ba w2 (.cells #[.int .i64 0, .int .i64 (P + 2), .int .i64 4, .int .i64 (-7)] 3)
    refine (among_any g _ _ _ _ [0, P + 2, 4, -7] (by omega) rfl (by simp) (by simp) (by rintro a ⟨⟩; have := HC3.out.lt; simp; omega) _ (ints_lit w2 [0, P + 2, 4, -7] 3) (HC3.out.below hal2)).mono ?_
    rintro e w3 ⟨q, rfl, hm, hc4, hg4⟩
    have hq : -7 ≤ q ∧ q ≤ 2000000000 := by
      simp at hm
      omega
    have HC4 := Lib.hid hc4
    have HG4 := Lib.hid (grown_trans HG3.out (grown_trans (grown_below hal2 (some g)) hg4))
    have HR4 := Lib.hid (show Own3 w3 w.heap.size 0 0 0 from (HR3.out.below hal2).grown hg4 (by omega))
    have HV4 := Lib.hid (show Own3 w3 w1.heap.size P Q G from (HV3.out.below hal2).grown hg4 (by omega))
    clear hc4 hg4 hal2 hm cf c0 c1 c2 cf0 cf1 cf2
    obtain ⟨⟨d0, d1, d2⟩, df⟩ := HV4.out
    obtain ⟨⟨r0, r1, r2⟩, rf⟩ := HR4.out
    have df0 := df 0
    have rf0 := rf 0
    have rf1 := rf 1
    have rf2 := rf 2
    have hnw : w1.heap.size ≠ w.heap.size := by omega
    have hnw' : w.heap.size ≠ w1.heap.size := by omega
    clear df rf
    go_wp2
    (try simp only [Exit.inBlock, Exit.then])
    refine bodyPost_ret (v := gv q Q G) ?_ rfl ⟨q, Q, G, rfl, ⟨by omega, by omega, by omega⟩, ?_⟩
    · rw [results_cell_one rfl]; go_simp
    · have h := res_set (P := q) (Q := Q) (G := G) (HC4.out.other ⟨w1.heap.size, 0, none⟩ (.int .i64 q) (Nat.lt_trans hgl hwl)) (grown_set HG4.out ⟨w1.heap.size, 0, none⟩ (.int .i64 q) (Nat.le_of_lt hwl)) hgl (Nat.le_refl w.heap.size)
      exact ⟨h.1.mono (by omega), h.2⟩
  by_cases hx1' : x = 1
  · subst hx1'
    go_wp2_with fail
    have hal2 := ba w2 (.cells #[.int .i64 0, .int .i64 1, .int .i64 (Q + 1), .int .i64 (P - 1)] 3)
    refine (among_any g _ _ _ _ [0, 1, Q + 1, P - 1] (by omega) rfl (by simp) (by simp) (by rintro a ⟨⟩; have := HC3.out.lt; simp; omega) _ (ints_lit w2 [0, 1, Q + 1, P - 1] 3) (HC3.out.below hal2)).mono ?_
    rintro e w3 ⟨q, rfl, hm, hc4, hg4⟩
    have hq : -1 ≤ q ∧ q ≤ 2000000000 := by
      simp at hm
      omega
    have HC4 := Lib.hid hc4
    have HG4 := Lib.hid (grown_trans HG3.out (grown_trans (grown_below hal2 (some g)) hg4))
    have HR4 := Lib.hid (show Own3 w3 w.heap.size 0 0 0 from (HR3.out.below hal2).grown hg4 (by omega))
    have HV4 := Lib.hid (show Own3 w3 w1.heap.size P Q G from (HV3.out.below hal2).grown hg4 (by omega))
    clear hc4 hg4 hal2 hm cf c0 c1 c2 cf0 cf1 cf2
    obtain ⟨⟨d0, d1, d2⟩, df⟩ := HV4.out
    obtain ⟨⟨r0, r1, r2⟩, rf⟩ := HR4.out
    have df1 := df 1
    have rf0 := rf 0
    have rf1 := rf 1
    have rf2 := rf 2
    have hnw : w1.heap.size ≠ w.heap.size := by omega
    have hnw' : w.heap.size ≠ w1.heap.size := by omega
    clear df rf
    go_wp2
    (try simp only [Exit.inBlock, Exit.then])
    refine bodyPost_ret (v := gv P q G) ?_ rfl ⟨P, q, G, rfl, ⟨by omega, by omega, by omega⟩, ?_⟩
    · rw [results_cell_one rfl]; go_simp
    · have h := res_set (P := P) (Q := q) (G := G) (HC4.out.other ⟨w1.heap.size, 1, none⟩ (.int .i64 q) (Nat.lt_trans hgl hwl)) (grown_set HG4.out ⟨w1.heap.size, 1, none⟩ (.int .i64 q) (Nat.le_of_lt hwl)) hgl (Nat.le_refl w.heap.size)
      exact ⟨h.1.mono (by omega), h.2⟩
  by_cases hx2' : x = 2
  · subst hx2'
    go_wp2_with fail
    have hal2 := ba w2 (.cells #[.int .i64 0, .int .i64 1, .int .i64 (P - 1), .int .i64 P, .int .i64 (G + 1)] 3)
    refine (among_any g _ _ _ _ [0, 1, P - 1, P, G + 1] (by omega) rfl (by simp) (by simp) (by rintro a ⟨⟩; have := HC3.out.lt; simp; omega) _ (ints_lit w2 [0, 1, P - 1, P, G + 1] 3) (HC3.out.below hal2)).mono ?_
    rintro e w3 ⟨q, rfl, hm, hc4, hg4⟩
    have hq : -1 ≤ q ∧ q ≤ 2000000001 := by
      simp at hm
      omega
    have HC4 := Lib.hid hc4
    have HG4 := Lib.hid (grown_trans HG3.out (grown_trans (grown_below hal2 (some g)) hg4))
    have HR4 := Lib.hid (show Own3 w3 w.heap.size 0 0 0 from (HR3.out.below hal2).grown hg4 (by omega))
    have HV4 := Lib.hid (show Own3 w3 w1.heap.size P Q G from (HV3.out.below hal2).grown hg4 (by omega))
    clear hc4 hg4 hal2 hm cf c0 c1 c2 cf0 cf1 cf2
    obtain ⟨⟨d0, d1, d2⟩, df⟩ := HV4.out
    obtain ⟨⟨r0, r1, r2⟩, rf⟩ := HR4.out
    have df2 := df 2
    have rf0 := rf 0
    have rf1 := rf 1
    have rf2 := rf 2
    have hnw : w1.heap.size ≠ w.heap.size := by omega
    have hnw' : w.heap.size ≠ w1.heap.size := by omega
    clear df rf
    go_wp2
    (try simp only [Exit.inBlock, Exit.then])
    refine bodyPost_ret (v := gv P Q q) ?_ rfl ⟨P, Q, q, rfl, ⟨by omega, by omega, by omega⟩, ?_⟩
    · rw [results_cell_one rfl]; go_simp
    · have h := res_set (P := P) (Q := Q) (G := q) (HC4.out.other ⟨w1.heap.size, 2, none⟩ (.int .i64 q) (Nat.lt_trans hgl hwl)) (grown_set HG4.out ⟨w1.heap.size, 2, none⟩ (.int .i64 q) (Nat.le_of_lt hwl)) hgl (Nat.le_refl w.heap.size)
      exact ⟨h.1.mono (by omega), h.2⟩
  · have hn0 : (x == 0) = false := by simp [hx0']
    have hn1 : (x == 1) = false := by simp [hx1']
    have hn2 : (x == 2) = false := by simp [hx2']
    clear c0 c1 c2 cf0 cf1 cf2 cf
    obtain ⟨⟨d0, d1, d2⟩, _⟩ := HV3.out
    obtain ⟨⟨r0, r1, r2⟩, rf⟩ := HR3.out
    have rf0 := rf 0
    have rf1 := rf 1
    have rf2 := rf 2
    clear rf
    go_wp2
    (try simp only [Exit.inBlock, Exit.then])
    refine bodyPost_ret (v := gv P Q G) ?_ rfl ⟨P, Q, G, rfl, ⟨by omega, by omega, by omega⟩, ?_⟩
    · rw [results_cell_one rfl]; go_simp
    · have h := res_set (P := P) (Q := Q) (G := G) HC3.out HG3.out hgl (Nat.le_refl w.heap.size)
      exact ⟨h.1.mono (by omega), h.2⟩

end Go.Proofs.Ytkpfmpndaenclaa

