/- What the laws of layer 2 draw: DrawElementFrom, DrawMakeGroup. -/
import Derived.Test.YtkpfmpndaenclaaDrG7
import Derived.Test.YtkpfmpndaenclaaHshA
namespace Go.Proofs.Ytkpfmpndaenclaa
open Go.RowKit

set_option maxHeartbeats 1000000 in
theorem drawMakeGroup_any (ad : Option Addr) (n cap : Nat) (w : World) (hb : IsB w ad n) :
    Calls Try.prog 15 #[.slice ad n cap] w fun e w' => (∃ x : Int, e = .returned (.int .i64 x)) ∧ Below w.heap.size w w' := by
  have HC := Lib.hid (cur_new w ad n cap hb 67)
  have HB := Lib.hid (ba w (.cells #[.slice ad n cap, .int .i64 0, .int .u64 0] 67))
  clear hb
  go_enter Try.func15, Try.ntmps15
  go_wp2_with fail
  refine (pick_any w.heap.size 0 400 (by decide) (by decide) _ HC.out).mono ?_
  rintro e w1 ⟨y, rfl, _, hc1, hg1⟩
  have hs1 : w.heap.size < w1.heap.size := hc1.lt
  have HC1 := Lib.hid hc1
  have HB1 := Lib.hid (below_cur HB.out hg1)
  clear hc1 hg1
  go_wp2_with fail
  have hal := ba w1 (.cells #[.int .i64 2, .int .i64 3, .int .i64 5, .int .i64 7, .int .i64 11, .int .i64 13, .int .i64 101, .int .i64 1019, .int .i64 999983, .int .i64 1, .int .i64 4, .int .i64 0, .int .i64 1000003, .int .i64 y] 3)
  refine (among_any w.heap.size 2 _ _ _ [2, 3, 5, 7, 11, 13, 101, 1019, 999983, 1, 4, 0, 1000003, y] (by decide) rfl (by simp) (by simp) (by rintro a ⟨⟩; simp; omega) _ (ints_spot w1 _ rfl [2, 3, 5, 7, 11, 13, 101, 1019, 999983, 1, 4, 0, 1000003, y] 3) (HC1.out.below hal)).mono ?_
  rintro e w2 ⟨x, rfl, _, _, hg2⟩
  have HB2 := Lib.hid (below_cur (bt HB1.out hal) hg2)
  clear hg2 hal
  go_wp2
  go_ret
  exact ⟨⟨x, rfl⟩, HB2.out⟩

set_option maxRecDepth 100000 in
set_option maxHeartbeats 8000000 in
theorem drawElementFrom_any (ad : Option Addr) (n cap : Nat) (w : World) (hb : IsB w ad n) :
    Calls Try.prog 31 #[.slice ad n cap] w (DrawGroupNum w) := by
  have hal := ba w (.cells #[.int .i64 0, .int .i64 0, .int .i64 0] 24)
  have HC := Lib.hid (cur_at (w.alloc (.cells #[.int .i64 0, .int .i64 0, .int .i64 0] 24)) (w.heap.size + 1) (by simp) ad n cap (hb.below hal) 67)
  have hal2 := ba (w.alloc (.cells #[.int .i64 0, .int .i64 0, .int .i64 0] 24)) (.cells #[.slice ad n cap, .int .i64 0, .int .u64 0] 67)
  have HB := Lib.hid (bt hal hal2)
  have HO := Lib.hid ((own3_new w 0 0 0 24).below hal2)
  clear hb hal hal2
  go_enter Try.func31, Try.ntmps31
  go_wp2_with fail
  refine (anyGroup_any (w.heap.size + 1) 0 (Nat.zero_le _) _ HC.out).mono ?_
  rintro e w1 ⟨P, Q, G, rfl, hd, hc1, hg1⟩
  obtain ⟨⟨p0, p1⟩, ⟨q0, q1⟩, g0, g1⟩ := hd
  have hal3 := ba w1 (.cells #[.int .i64 P, .int .i64 Q, .int .i64 G] 24)
  have hs1 : w.heap.size + 1 < w1.heap.size := hc1.lt
  have hne : w1.heap.size ≠ w.heap.size + 1 := by omega
  have hne0 : w1.heap.size ≠ w.heap.size := by omega
  have hnc : w.heap.size ≠ w.heap.size + 1 := by omega
  have hle : w.heap.size ≤ w.heap.size + 1 := by omega
  have hw3 : IntKind.i64.wrap (P - 1) = P - 1 := by rw [IntKind.wrap_i64]; omega
  have HC1 := Lib.hid (hc1.below hal3)
  have HB1 := Lib.hid (bt (below_at HB.out hg1 hle) hal3)
  have HO1 := Lib.hid ((HO.out.grown hg1 hnc).below hal3)
  have HV1 := Lib.hid (gr_new w1 P Q G 24)
  obtain ⟨v0, v1, v2⟩ := HV1.out
  clear hg1 hc1 hal3
  go_wp2_with fail
  go_region_held3 (fun w' => w'.cell? ⟨w1.heap.size, 0, none⟩ = some (.int .i64 P) ∧ w'.cell? ⟨w1.heap.size, 1, none⟩ = some (.int .i64 Q) ∧ w'.cell? ⟨w1.heap.size, 2, none⟩ = some (.int .i64 G)) (first | exact ⟨v0, v1, v2⟩ | exact ⟨x0, x1, x2⟩ | exact ⟨y0, y1, y2⟩ | exact HV3.out.below (ba _ _) | exact ⟨z0, z1, z2⟩ | exact gr_after HV4.out (Ne.symm hne0) _ _ _ | exact gr_after (GR.drew HV4.out) (Ne.symm hne0) _ _ _) ((first
    | (go_at_call 61; refine (pick_any (w.heap.size + 1) 12 60 (by decide) (by decide) _ (by first | exact HC1.out | exact HC1.out.drew)).mono ?_; rintro e w2 ⟨y, rfl, hy, hc2, hg2⟩; have HY := Lib.hid (show 0 ≤ y ∧ y ≤ 59 from by omega); have HB2 := Lib.hid (show Below w.heap.size w w2 from by first | exact below_at HB1.out hg2 hle | exact below_at HB1.out.drew hg2 hle); have HV2 := Lib.hid (show GR w2 w1.heap.size P Q G from by first | exact HV1.out.grown hg2 hne | exact GR.grown (GR.drew HV1.out) hg2 hne); obtain ⟨x0, x1, x2⟩ := HV2.out; have HO2 := Lib.hid (show Own3 w2 w.heap.size 0 0 0 from by first | exact HO1.out.grown hg2 hnc | exact Own3.grown (Own3.drew HO1.out) hg2 hnc); have HC2 := Lib.hid hc2; clear hg2 hy hc2)
    | (go_at_call 81; refine (element_any (w.heap.size + 1) 14 (by decide) P Q G p0 p1 q0 q1 g0 g1 _ (by first | exact HC2.out | exact HC2.out.drew)).mono ?_; rintro e w3 ⟨z, rfl, hz, hc3, hg3⟩; have HZ := Lib.hid hz; have HB3 := Lib.hid (show Below w.heap.size w w3 from by first | exact below_at HB2.out hg3 hle | exact below_at HB2.out.drew hg3 hle); have HV3 := Lib.hid (show GR w3 w1.heap.size P Q G from by first | exact HV2.out.grown hg3 hne | exact GR.grown (GR.drew HV2.out) hg3 hne); obtain ⟨y0, y1, y2⟩ := HV3.out; have HO3 := Lib.hid (show Own3 w3 w.heap.size 0 0 0 from by first | exact HO2.out.grown hg3 hnc | exact Own3.grown (Own3.drew HO2.out) hg3 hnc); have HC3 := Lib.hid hc3; clear hg3 hz hc3)
    | (go_at_call 60; refine (among_any (w.heap.size + 1) 18 _ _ _ [0, 1, 2, 3, 5, P - 1, P, y, z] (by decide) rfl (by simp) (by simp) (by rintro a ⟨⟩; have := HC3.out.lt; simp; omega) _ (ints_spot w3 _ rfl [0, 1, 2, 3, 5, P - 1, P, y, z] 3) (HC3.out.below (ba _ _))).mono ?_; rintro e w4 ⟨x, rfl, hx, _, hg4⟩; have HX := Lib.hid hx; have hal4 := ba w3 (.cells #[.int .i64 0, .int .i64 1, .int .i64 2, .int .i64 3, .int .i64 5, .int .i64 (P - 1), .int .i64 P, .int .i64 y, .int .i64 z] 3); have HB4 := Lib.hid (show Below w.heap.size w w4 from below_at (bt HB3.out hal4) hg4 hle); have HV4 := Lib.hid (show GR w4 w1.heap.size P Q G from (HV3.out.below hal4).grown hg4 hne); obtain ⟨z0, z1, z2⟩ := HV4.out; have HO4 := Lib.hid (show Own3 w4 w.heap.size 0 0 0 from (HO3.out.below hal4).grown hg4 hnc); obtain ⟨⟨d0, d1, d2⟩, df⟩ := HO4.out; have df0 := df 0; have df1 := df 1; have df2 := df 2; clear df hg4 hx hal4)))
  all_goals (
    go_wp2
    (try simp only [Exit.inBlock, Exit.then])
    have hxr : -8 ≤ x ∧ x ≤ 2000000000 := by
      have h := HX.out
      have h1 := HY.out
      have h2 := HZ.out
      simp at h
      omega
    refine bodyPost_ret (v := .tuple #[gv P Q G, .int .i64 x]) ?_ rfl ⟨P, Q, G, x, rfl, ⟨⟨p0, p1⟩, ⟨q0, q1⟩, g0, g1⟩, hxr, ?_⟩
    · rw [results_cell_tmp rfl]; go_simp
    · first | exact ((HB4.out.setCell (Nat.le_refl _) _).setCell (Nat.le_refl _) _).setCell (Nat.le_refl _) _ | exact (((HB4.out.drew).setCell (Nat.le_refl _) _).setCell (Nat.le_refl _) _).setCell (Nat.le_refl _) _)

end Go.Proofs.Ytkpfmpndaenclaa

