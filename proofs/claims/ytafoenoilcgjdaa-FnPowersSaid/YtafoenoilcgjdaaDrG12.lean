/- What the laws of layer 2 draw: DrawLogOf. -/
import Derived.Test.YtafoenoilcgjdaaDrG5
namespace Go.Proofs.Ytafoenoilcgjdaa
open Go.RowKit

/-- The reference's power with any exponent: it is taken modulo the order. -/
theorem gExp_gen (P Q G x e : Int) (h1 : 0 ≤ x) (h2 : x ≤ 2000000000) (h3 : 0 ≤ e) (h5 : 2 ≤ P) (h6 : P ≤ 2000000000) (h7 : 2 ≤ Q) (h8 : Q ≤ 2000000000) (w : World) :
    Calls Try.prog 79 #[gv P Q G, .int .i64 x, .int .i64 e] w fun e' w' => ∃ y : Int, e' = .returned (.int .i64 y) ∧ Below w.heap.size w w' := by
  have m0 : 0 ≤ e % Q := Int.emod_nonneg _ (by omega)
  have m1 : e % Q < Q := Int.emod_lt_of_pos _ (by omega)
  go_enter Try.func79, Try.ntmps79
  go_wp2_with fail
  go_quiet (first | (go_at_call 110; refine quietly (nMod_pos _ _ h3 h7 h8 _)) | (go_at_call 72; refine quietly (nPower_any _ _ _ h1 h2 m0 (by omega) h5 h6 _)))
  go_wp2
  go_ret
  exact ⟨_, rfl, below_drewN (ba _ _) _⟩

theorem gr_al {w : World} {b : Nat} {P Q G : Int} (h : GR w b P Q G) (o : Obj) : (w.alloc o).cell? ⟨b, 0, none⟩ = some (.int .i64 P) ∧ (w.alloc o).cell? ⟨b, 1, none⟩ = some (.int .i64 Q) ∧ (w.alloc o).cell? ⟨b, 2, none⟩ = some (.int .i64 G) := h.below (ba w o)
theorem gr_ald {w : World} {b : Nat} {P Q G : Int} (h : GR w b P Q G) (o : Obj) : (w.alloc o).drew.cell? ⟨b, 0, none⟩ = some (.int .i64 P) ∧ (w.alloc o).drew.cell? ⟨b, 1, none⟩ = some (.int .i64 Q) ∧ (w.alloc o).drew.cell? ⟨b, 2, none⟩ = some (.int .i64 G) := GR.drew (h.below (ba w o))
def DrawLog (w : World) (e : Ending) (w' : World) : Prop :=
  ∃ P Q G b y z : Int, e = .returned (.tuple #[gv P Q G, .int .i64 b, .int .i64 y, .int .i64 z]) ∧ DB P Q G ∧ Below w.heap.size w w'

set_option maxRecDepth 100000 in
set_option maxHeartbeats 8000000 in
theorem drawLogOf_any (ad : Option Addr) (n cap : Nat) (w : World) (hb : IsB w ad n) :
    Calls Try.prog 29 #[.slice ad n cap] w (DrawLog w) := by
  have hal := ba w (.cells #[.int .i64 0, .int .i64 0, .int .i64 0] 27)
  have HC := Lib.hid (cur_at (w.alloc (.cells #[.int .i64 0, .int .i64 0, .int .i64 0] 27)) (w.heap.size + 1) (by simp) ad n cap (hb.below hal) 85)
  have hal2 := ba (w.alloc (.cells #[.int .i64 0, .int .i64 0, .int .i64 0] 27)) (.cells #[.slice ad n cap, .int .i64 0, .int .u64 0] 85)
  have HB := Lib.hid (bt hal hal2)
  have HO := Lib.hid ((own3_new w 0 0 0 27).below hal2)
  clear hb hal hal2
  go_enter Try.func29, Try.ntmps29
  go_wp2_with fail
  refine (anyGroup_any (w.heap.size + 1) 0 (Nat.zero_le _) _ HC.out).mono ?_
  rintro e w1 ⟨P, Q, G, rfl, hd, hc1, hg1⟩
  obtain ⟨⟨p0, p1⟩, ⟨q0, q1⟩, g0, g1⟩ := hd
  have hal3 := ba w1 (.cells #[.int .i64 P, .int .i64 Q, .int .i64 G] 27)
  have hs1 : w.heap.size + 1 < w1.heap.size := hc1.lt
  have hne : w1.heap.size ≠ w.heap.size + 1 := by omega
  have hne0 : w1.heap.size ≠ w.heap.size := by omega
  have hnc : w.heap.size ≠ w.heap.size + 1 := by omega
  have hle : w.heap.size ≤ w.heap.size + 1 := by omega
  have hk22 : 22 ≤ 900000000 := by decide
  have hk23 : 22 ≤ 100000000000 := by decide
  have hk40 : (40 : Int) ≤ 1000000000000 := by decide
  have HC1 := Lib.hid (hc1.below hal3)
  have HB1 := Lib.hid (bt (below_at HB.out hg1 hle) hal3)
  have HO1 := Lib.hid ((HO.out.grown hg1 hnc).below hal3)
  have HV1 := Lib.hid (gr_new w1 P Q G 27)
  obtain ⟨v0, v1, v2⟩ := HV1.out
  clear hg1 hc1 hal3
  go_wp2_with fail
  refine (anyElement_any (w.heap.size + 1) 12 (by decide) P Q G p0 p1 q0 q1 g0 g1 _ HC1.out).mono ?_
  rintro e w2 ⟨b, rfl, hbr, hc2, hg2⟩
  have HC2 := Lib.hid hc2
  have HB2 := Lib.hid (below_at HB1.out hg2 hle)
  have HO2 := Lib.hid (HO1.out.grown hg2 hnc)
  have HV2 := Lib.hid (HV1.out.grown hg2 hne)
  clear hc2 hg2 v0 v1 v2
  go_wp2_with fail
  refine (one_any (w.heap.size + 1) 20 2 (by decide) (by decide) _ HC2.out).mono ?_
  rintro e w3 ⟨c, rfl, hc3, hg3⟩
  have HC3 := Lib.hid hc3
  have HB3 := Lib.hid (below_at HB2.out hg3 hle)
  have HO3 := Lib.hid (HO2.out.grown hg3 hnc)
  have HV3 := Lib.hid (HV2.out.grown hg3 hne)
  clear hc3 hg3
  obtain ⟨v0, v1, v2⟩ := HV3.out
  cases c
  · skip
    go_wp2_with fail
    go_region_held3 (fun w' => w'.cell? ⟨w1.heap.size, 0, none⟩ = some (.int .i64 P) ∧ w'.cell? ⟨w1.heap.size, 1, none⟩ = some (.int .i64 Q) ∧ w'.cell? ⟨w1.heap.size, 2, none⟩ = some (.int .i64 G)) (first | with_reducible exact gr_ald HVp.out _ | with_reducible exact gr_al HVp.out _ | with_reducible exact gr_ald HV3.out _ | with_reducible exact gr_al HV3.out _ | with_reducible exact ⟨xz0, xz1, xz2⟩ | with_reducible exact ⟨xp0, xp1, xp2⟩ | with_reducible exact ⟨v0, v1, v2⟩ | exact ⟨v0, v1, v2⟩ | exact gr_after HVz.out (Ne.symm hne0) _ _ _) ((first
      | (go_at_call 62; refine (anyElement_any (w.heap.size + 1) 22 hk22 P Q G p0 p1 q0 q1 g0 g1 _ HC3.out.drew).mono ?_; rintro e wp ⟨y, rfl, _, hcp, hgp⟩; have hkp := (show w3.grownBy wp (some (w.heap.size + 1)) from grown_trans (grown_drew _ _) hgp); have HBp := Lib.hid (below_at HB3.out hkp hle); have HVp := Lib.hid (HV3.out.grown hkp hne); obtain ⟨xp0, xp1, xp2⟩ := HVp.out; have HOp := Lib.hid (HO3.out.grown hkp hnc); have HCp := Lib.hid hcp; clear hcp hgp hkp)
      | (go_at_call 62; refine (anyElement_any (w.heap.size + 1) 22 hk22 P Q G p0 p1 q0 q1 g0 g1 _ (HC3.out.below (ba _ _)).drew).mono ?_; rintro e wp ⟨y, rfl, _, hcp, hgp⟩; have halp := grown_below (ba w3 (.cells #[.int .i64 0, .int .i64 5, .int .i64 25, .int .i64 1000, .int .i64 1000000, .int .i64 1000001, .int .i64 (-1)] 3)) (some (w.heap.size + 1)); have hkp := (show w3.grownBy wp (some (w.heap.size + 1)) from grown_trans (grown_trans halp (grown_drew _ _)) hgp); have HLap := Lib.hid (lit_grown (w := w3) (w' := wp) (g := (w.heap.size + 1)) [0, 5, 25, 1000, 1000000, 1000001, -1] 3 (grown_trans (grown_drew _ _) hgp) HC3.out.lt); have HBp := Lib.hid (below_at HB3.out hkp hle); have HVp := Lib.hid (HV3.out.grown hkp hne); obtain ⟨xp0, xp1, xp2⟩ := HVp.out; have HOp := Lib.hid (HO3.out.grown hkp hnc); have HCp := Lib.hid hcp; clear hcp hgp hkp)
      | (have HLx := HLap; go_at_call 66; have hlt0 := HC3.out.lt; refine (among_any (w.heap.size + 1) _ _ _ _ [0, 5, 25, 1000, 1000000, 1000001, -1] (by decide) rfl (by simp) (by simp) (by rintro a ⟨⟩; simp; omega) _ HLap.out (HCp.out)).mono ?_; rintro e wz ⟨z, rfl, _, _, hgz⟩; have hkz := (show wp.grownBy wz (some (w.heap.size + 1)) from hgz); have HBz := Lib.hid (below_at HBp.out hkz hle); have HVz := Lib.hid (HVp.out.grown hkz hne); obtain ⟨xz0, xz1, xz2⟩ := HVz.out; have HOz := Lib.hid (HOp.out.grown hkz hnc); obtain ⟨⟨d0, d1, d2⟩, df⟩ := HOz.out; have df0 := df 0; have df1 := df 1; have df2 := df 2; clear df)
      | (go_at_call 66; have hlt0 := HCp.out.lt; refine (among_any (w.heap.size + 1) _ _ _ _ [0, 5, 25, 1000, 1000000, 1000001, -1] (by decide) rfl (by simp) (by simp) (by rintro a ⟨⟩; simp; omega) _ (ints_spot wp _ rfl [0, 5, 25, 1000, 1000000, 1000001, -1] 3) (HCp.out.below (ba _ _))).mono ?_; rintro e wz ⟨z, rfl, _, _, hgz⟩; have halz := grown_below (ba wp (.cells #[.int .i64 0, .int .i64 5, .int .i64 25, .int .i64 1000, .int .i64 1000000, .int .i64 1000001, .int .i64 (-1)] 3)) (some (w.heap.size + 1)); have hkz := grown_trans halz hgz; have HBz := Lib.hid (below_at HBp.out hkz hle); have HVz := Lib.hid (HVp.out.grown hkz hne); obtain ⟨xz0, xz1, xz2⟩ := HVz.out; have HOz := Lib.hid (HOp.out.grown hkz hnc); obtain ⟨⟨d0, d1, d2⟩, df⟩ := HOz.out; have df0 := df 0; have df1 := df 1; have df2 := df 2; clear df)))
    all_goals (
      go_wp2
      (try simp only [Exit.inBlock, Exit.then])
      refine bodyPost_ret (v := .tuple #[gv P Q G, .int .i64 b, .int .i64 y, .int .i64 z]) ?_ rfl ⟨P, Q, G, b, y, z, rfl, ⟨⟨p0, p1⟩, ⟨q0, q1⟩, g0, g1⟩, ?_⟩
      · rw [results_cell_tmp3 rfl]; go_simp
      · first | exact ((HBz.out.setCell (Nat.le_refl _) _).setCell (Nat.le_refl _) _).setCell (Nat.le_refl _) _ | exact (((HBz.out.drew).setCell (Nat.le_refl _) _).setCell (Nat.le_refl _) _).setCell (Nat.le_refl _) _)
  go_wp2_with fail
  refine (l2Good_any P Q G _).mono ?_
  cases hgd : goodB P Q G
  · have HGD := Lib.hid hgd
    clear hgd
    rintro e w4 ⟨rfl, hb4⟩
    have HC4 := Lib.hid (HC3.out.below hb4)
    have HB4 := Lib.hid (bt HB3.out hb4)
    have HO4 := Lib.hid (HO3.out.below hb4)
    have HV4 := Lib.hid (HV3.out.below hb4)
    clear hb4 v0 v1 v2
    obtain ⟨v0, v1, v2⟩ := HV4.out
    go_wp2_with fail
    go_region_held3 (fun w' => w'.cell? ⟨w1.heap.size, 0, none⟩ = some (.int .i64 P) ∧ w'.cell? ⟨w1.heap.size, 1, none⟩ = some (.int .i64 Q) ∧ w'.cell? ⟨w1.heap.size, 2, none⟩ = some (.int .i64 G)) (first | with_reducible exact gr_ald HVp.out _ | with_reducible exact gr_al HVp.out _ | with_reducible exact gr_ald HV4.out _ | with_reducible exact gr_al HV4.out _ | with_reducible exact ⟨xz0, xz1, xz2⟩ | with_reducible exact ⟨xp0, xp1, xp2⟩ | with_reducible exact ⟨v0, v1, v2⟩ | exact ⟨v0, v1, v2⟩ | exact gr_after HVz.out (Ne.symm hne0) _ _ _) ((first
      | (go_at_call 62; refine (anyElement_any (w.heap.size + 1) 22 hk22 P Q G p0 p1 q0 q1 g0 g1 _ HC4.out.drew).mono ?_; rintro e wp ⟨y, rfl, _, hcp, hgp⟩; have hkp := (show w4.grownBy wp (some (w.heap.size + 1)) from grown_trans (grown_drew _ _) hgp); have HBp := Lib.hid (below_at HB4.out hkp hle); have HVp := Lib.hid (HV4.out.grown hkp hne); obtain ⟨xp0, xp1, xp2⟩ := HVp.out; have HOp := Lib.hid (HO4.out.grown hkp hnc); have HCp := Lib.hid hcp; clear hcp hgp hkp)
      | (go_at_call 62; refine (anyElement_any (w.heap.size + 1) 22 hk22 P Q G p0 p1 q0 q1 g0 g1 _ (HC4.out.below (ba _ _)).drew).mono ?_; rintro e wp ⟨y, rfl, _, hcp, hgp⟩; have halp := grown_below (ba w4 (.cells #[.int .i64 0, .int .i64 5, .int .i64 25, .int .i64 1000, .int .i64 1000000, .int .i64 1000001, .int .i64 (-1)] 3)) (some (w.heap.size + 1)); have hkp := (show w4.grownBy wp (some (w.heap.size + 1)) from grown_trans (grown_trans halp (grown_drew _ _)) hgp); have HLap := Lib.hid (lit_grown (w := w4) (w' := wp) (g := (w.heap.size + 1)) [0, 5, 25, 1000, 1000000, 1000001, -1] 3 (grown_trans (grown_drew _ _) hgp) HC4.out.lt); have HBp := Lib.hid (below_at HB4.out hkp hle); have HVp := Lib.hid (HV4.out.grown hkp hne); obtain ⟨xp0, xp1, xp2⟩ := HVp.out; have HOp := Lib.hid (HO4.out.grown hkp hnc); have HCp := Lib.hid hcp; clear hcp hgp hkp)
      | (have HLx := HLap; go_at_call 66; have hlt0 := HC4.out.lt; refine (among_any (w.heap.size + 1) _ _ _ _ [0, 5, 25, 1000, 1000000, 1000001, -1] (by decide) rfl (by simp) (by simp) (by rintro a ⟨⟩; simp; omega) _ HLap.out (HCp.out)).mono ?_; rintro e wz ⟨z, rfl, _, _, hgz⟩; have hkz := (show wp.grownBy wz (some (w.heap.size + 1)) from hgz); have HBz := Lib.hid (below_at HBp.out hkz hle); have HVz := Lib.hid (HVp.out.grown hkz hne); obtain ⟨xz0, xz1, xz2⟩ := HVz.out; have HOz := Lib.hid (HOp.out.grown hkz hnc); obtain ⟨⟨d0, d1, d2⟩, df⟩ := HOz.out; have df0 := df 0; have df1 := df 1; have df2 := df 2; clear df)
      | (go_at_call 66; have hlt0 := HCp.out.lt; refine (among_any (w.heap.size + 1) _ _ _ _ [0, 5, 25, 1000, 1000000, 1000001, -1] (by decide) rfl (by simp) (by simp) (by rintro a ⟨⟩; simp; omega) _ (ints_spot wp _ rfl [0, 5, 25, 1000, 1000000, 1000001, -1] 3) (HCp.out.below (ba _ _))).mono ?_; rintro e wz ⟨z, rfl, _, _, hgz⟩; have halz := grown_below (ba wp (.cells #[.int .i64 0, .int .i64 5, .int .i64 25, .int .i64 1000, .int .i64 1000000, .int .i64 1000001, .int .i64 (-1)] 3)) (some (w.heap.size + 1)); have hkz := grown_trans halz hgz; have HBz := Lib.hid (below_at HBp.out hkz hle); have HVz := Lib.hid (HVp.out.grown hkz hne); obtain ⟨xz0, xz1, xz2⟩ := HVz.out; have HOz := Lib.hid (HOp.out.grown hkz hnc); obtain ⟨⟨d0, d1, d2⟩, df⟩ := HOz.out; have df0 := df 0; have df1 := df 1; have df2 := df 2; clear df)))
    all_goals (
      go_wp2
      (try simp only [Exit.inBlock, Exit.then])
      refine bodyPost_ret (v := .tuple #[gv P Q G, .int .i64 b, .int .i64 y, .int .i64 z]) ?_ rfl ⟨P, Q, G, b, y, z, rfl, ⟨⟨p0, p1⟩, ⟨q0, q1⟩, g0, g1⟩, ?_⟩
      · rw [results_cell_tmp3 rfl]; go_simp
      · first | exact ((HBz.out.setCell (Nat.le_refl _) _).setCell (Nat.le_refl _) _).setCell (Nat.le_refl _) _ | exact (((HBz.out.drew).setCell (Nat.le_refl _) _).setCell (Nat.le_refl _) _).setCell (Nat.le_refl _) _)
  have hgt := goodB_true.1 hgd
  have hmo := good_mo hgd
  have hP2 : 2 ≤ P := by omega
  have hP3 : P ≤ 2000000000 := by omega
  have hQ2 : 2 ≤ Q := by omega
  have hQ3 : Q ≤ 2000000000 := by omega
  have HGD := Lib.hid hgd
  clear hgd hgt
  rintro e w4 ⟨rfl, hb4⟩
  have HC4 := Lib.hid (HC3.out.below hb4)
  have HB4 := Lib.hid (bt HB3.out hb4)
  have HO4 := Lib.hid (HO3.out.below hb4)
  have HV4 := Lib.hid (HV3.out.below hb4)
  clear hb4 v0 v1 v2
  obtain ⟨v0, v1, v2⟩ := HV4.out
  go_wp2_with fail
  refine (gIs_any P Q G hmo _ 1 1 [b] rfl (by decide) _ (ints_spot w4 _ rfl [b] 3)).mono ?_
  have hal5 := ba w4 (.cells #[.int .i64 b] 3)
  cases hel : allEl P Q [b]
  · have HEL := Lib.hid hel
    clear hel
    rintro e w5 ⟨rfl, hb5⟩
    have HC5 := Lib.hid ((HC4.out.below hal5).below hb5)
    have HB5 := Lib.hid (bt (bt HB4.out hal5) hb5)
    have HO5 := Lib.hid ((HO4.out.below hal5).below hb5)
    have HV5 := Lib.hid ((HV4.out.below hal5).below hb5)
    clear hb5 hal5 v0 v1 v2
    obtain ⟨v0, v1, v2⟩ := HV5.out
    go_wp2_with fail
    go_region_held3 (fun w' => w'.cell? ⟨w1.heap.size, 0, none⟩ = some (.int .i64 P) ∧ w'.cell? ⟨w1.heap.size, 1, none⟩ = some (.int .i64 Q) ∧ w'.cell? ⟨w1.heap.size, 2, none⟩ = some (.int .i64 G)) (first | with_reducible exact gr_ald HVp.out _ | with_reducible exact gr_al HVp.out _ | with_reducible exact gr_ald HV5.out _ | with_reducible exact gr_al HV5.out _ | with_reducible exact ⟨xz0, xz1, xz2⟩ | with_reducible exact ⟨xp0, xp1, xp2⟩ | with_reducible exact ⟨v0, v1, v2⟩ | exact ⟨v0, v1, v2⟩ | exact gr_after HVz.out (Ne.symm hne0) _ _ _) ((first
      | (go_at_call 62; refine (anyElement_any (w.heap.size + 1) 22 hk22 P Q G p0 p1 q0 q1 g0 g1 _ HC5.out.drew).mono ?_; rintro e wp ⟨y, rfl, _, hcp, hgp⟩; have hkp := (show w5.grownBy wp (some (w.heap.size + 1)) from grown_trans (grown_drew _ _) hgp); have HBp := Lib.hid (below_at HB5.out hkp hle); have HVp := Lib.hid (HV5.out.grown hkp hne); obtain ⟨xp0, xp1, xp2⟩ := HVp.out; have HOp := Lib.hid (HO5.out.grown hkp hnc); have HCp := Lib.hid hcp; clear hcp hgp hkp)
      | (go_at_call 62; refine (anyElement_any (w.heap.size + 1) 22 hk22 P Q G p0 p1 q0 q1 g0 g1 _ (HC5.out.below (ba _ _)).drew).mono ?_; rintro e wp ⟨y, rfl, _, hcp, hgp⟩; have halp := grown_below (ba w5 (.cells #[.int .i64 0, .int .i64 5, .int .i64 25, .int .i64 1000, .int .i64 1000000, .int .i64 1000001, .int .i64 (-1)] 3)) (some (w.heap.size + 1)); have hkp := (show w5.grownBy wp (some (w.heap.size + 1)) from grown_trans (grown_trans halp (grown_drew _ _)) hgp); have HLap := Lib.hid (lit_grown (w := w5) (w' := wp) (g := (w.heap.size + 1)) [0, 5, 25, 1000, 1000000, 1000001, -1] 3 (grown_trans (grown_drew _ _) hgp) HC5.out.lt); have HBp := Lib.hid (below_at HB5.out hkp hle); have HVp := Lib.hid (HV5.out.grown hkp hne); obtain ⟨xp0, xp1, xp2⟩ := HVp.out; have HOp := Lib.hid (HO5.out.grown hkp hnc); have HCp := Lib.hid hcp; clear hcp hgp hkp)
      | (have HLx := HLap; go_at_call 66; have hlt0 := HC5.out.lt; refine (among_any (w.heap.size + 1) _ _ _ _ [0, 5, 25, 1000, 1000000, 1000001, -1] (by decide) rfl (by simp) (by simp) (by rintro a ⟨⟩; simp; omega) _ HLap.out (HCp.out)).mono ?_; rintro e wz ⟨z, rfl, _, _, hgz⟩; have hkz := (show wp.grownBy wz (some (w.heap.size + 1)) from hgz); have HBz := Lib.hid (below_at HBp.out hkz hle); have HVz := Lib.hid (HVp.out.grown hkz hne); obtain ⟨xz0, xz1, xz2⟩ := HVz.out; have HOz := Lib.hid (HOp.out.grown hkz hnc); obtain ⟨⟨d0, d1, d2⟩, df⟩ := HOz.out; have df0 := df 0; have df1 := df 1; have df2 := df 2; clear df)
      | (go_at_call 66; have hlt0 := HCp.out.lt; refine (among_any (w.heap.size + 1) _ _ _ _ [0, 5, 25, 1000, 1000000, 1000001, -1] (by decide) rfl (by simp) (by simp) (by rintro a ⟨⟩; simp; omega) _ (ints_spot wp _ rfl [0, 5, 25, 1000, 1000000, 1000001, -1] 3) (HCp.out.below (ba _ _))).mono ?_; rintro e wz ⟨z, rfl, _, _, hgz⟩; have halz := grown_below (ba wp (.cells #[.int .i64 0, .int .i64 5, .int .i64 25, .int .i64 1000, .int .i64 1000000, .int .i64 1000001, .int .i64 (-1)] 3)) (some (w.heap.size + 1)); have hkz := grown_trans halz hgz; have HBz := Lib.hid (below_at HBp.out hkz hle); have HVz := Lib.hid (HVp.out.grown hkz hne); obtain ⟨xz0, xz1, xz2⟩ := HVz.out; have HOz := Lib.hid (HOp.out.grown hkz hnc); obtain ⟨⟨d0, d1, d2⟩, df⟩ := HOz.out; have df0 := df 0; have df1 := df 1; have df2 := df 2; clear df)))
    all_goals (
      go_wp2
      (try simp only [Exit.inBlock, Exit.then])
      refine bodyPost_ret (v := .tuple #[gv P Q G, .int .i64 b, .int .i64 y, .int .i64 z]) ?_ rfl ⟨P, Q, G, b, y, z, rfl, ⟨⟨p0, p1⟩, ⟨q0, q1⟩, g0, g1⟩, ?_⟩
      · rw [results_cell_tmp3 rfl]; go_simp
      · first | exact ((HBz.out.setCell (Nat.le_refl _) _).setCell (Nat.le_refl _) _).setCell (Nat.le_refl _) _ | exact (((HBz.out.drew).setCell (Nat.le_refl _) _).setCell (Nat.le_refl _) _).setCell (Nat.le_refl _) _)
  have hbe := (elB_true.1 (by rw [allEl_one] at hel; exact hel)).1
  have hb0 : 0 ≤ b := by omega
  have hb1 : b ≤ 2000000000 := by omega
  have HEL := Lib.hid hel
  clear hel hbe
  rintro e w5 ⟨rfl, hb5⟩
  have HC5 := Lib.hid ((HC4.out.below hal5).below hb5)
  have HB5 := Lib.hid (bt (bt HB4.out hal5) hb5)
  have HO5 := Lib.hid ((HO4.out.below hal5).below hb5)
  have HV5 := Lib.hid ((HV4.out.below hal5).below hb5)
  clear hb5 hal5 v0 v1 v2
  obtain ⟨v0, v1, v2⟩ := HV5.out
  go_wp2_with fail
  go_region_held3 (fun w' => w'.cell? ⟨w1.heap.size, 0, none⟩ = some (.int .i64 P) ∧ w'.cell? ⟨w1.heap.size, 1, none⟩ = some (.int .i64 Q) ∧ w'.cell? ⟨w1.heap.size, 2, none⟩ = some (.int .i64 G)) (first | with_reducible exact gr_ald HVg.out _ | with_reducible exact gr_al HVg.out _ | with_reducible exact gr_ald HVp.out _ | with_reducible exact gr_al HVp.out _ | with_reducible exact gr_ald HV5.out _ | with_reducible exact gr_al HV5.out _ | with_reducible exact ⟨xz0, xz1, xz2⟩ | with_reducible exact ⟨xg0, xg1, xg2⟩ | with_reducible exact ⟨xp0, xp1, xp2⟩ | with_reducible exact ⟨v0, v1, v2⟩ | exact ⟨v0, v1, v2⟩ | exact gr_after HVz.out (Ne.symm hne0) _ _ _) ((first
    | (go_at_call 67; refine (pick_any (w.heap.size + 1) 22 40 hk23 hk40 _ HC5.out.drew).mono ?_; rintro e wp ⟨u, rfl, hu, hcp, hgp⟩; have hu0 : 0 ≤ u := hu.1; have hu1 : u ≤ 39 := (by omega); have hkp := (show w5.grownBy wp (some (w.heap.size + 1)) from grown_trans (grown_drew _ _) hgp); have HBp := Lib.hid (below_at HB5.out hkp hle); have HVp := Lib.hid (HV5.out.grown hkp hne); obtain ⟨xp0, xp1, xp2⟩ := HVp.out; have HOp := Lib.hid (HO5.out.grown hkp hnc); have HCp := Lib.hid hcp; clear hcp hgp hu hkp)
    | (go_at_call 67; refine (pick_any (w.heap.size + 1) 22 40 hk23 hk40 _ (HC5.out.below (ba _ _)).drew).mono ?_; rintro e wp ⟨u, rfl, hu, hcp, hgp⟩; have hu0 : 0 ≤ u := hu.1; have hu1 : u ≤ 39 := (by omega); have halp := grown_below (ba w5 (.cells #[.int .i64 0, .int .i64 10, .int .i64 40, .int .i64 1000] 3)) (some (w.heap.size + 1)); have hkp := (show w5.grownBy wp (some (w.heap.size + 1)) from grown_trans (grown_trans halp (grown_drew _ _)) hgp); have HLap := Lib.hid (lit_grown (w := w5) (w' := wp) (g := (w.heap.size + 1)) [0, 10, 40, 1000] 3 (grown_trans (grown_drew _ _) hgp) HC5.out.lt); have HBp := Lib.hid (below_at HB5.out hkp hle); have HVp := Lib.hid (HV5.out.grown hkp hne); obtain ⟨xp0, xp1, xp2⟩ := HVp.out; have HOp := Lib.hid (HO5.out.grown hkp hnc); have HCp := Lib.hid hcp; clear hcp hgp hu hkp)
    | (have HLx := HLap; go_at_call 79; refine (gExp_gen P Q G b u hb0 hb1 hu0 hP2 hP3 hQ2 hQ3 _).mono ?_; rintro e wg ⟨y, rfl, hbg0⟩; have hbg := (show Below wp.heap.size wp wg from hbg0); have HLag := Lib.hid (HLx.out.below hbg (Nat.le_refl _)); have HBg := Lib.hid (bt HBp.out hbg); have HVg := Lib.hid (HVp.out.below hbg); obtain ⟨xg0, xg1, xg2⟩ := HVg.out; have HOg := Lib.hid (HOp.out.below hbg); have HCg := Lib.hid (HCp.out.below hbg); clear hbg hbg0)
    | (go_at_call 79; refine (gExp_gen P Q G b u hb0 hb1 hu0 hP2 hP3 hQ2 hQ3 _).mono ?_; rintro e wg ⟨y, rfl, hbg0⟩; have hbg := (show Below wp.heap.size wp wg from hbg0); have HBg := Lib.hid (bt HBp.out hbg); have HVg := Lib.hid (HVp.out.below hbg); obtain ⟨xg0, xg1, xg2⟩ := HVg.out; have HOg := Lib.hid (HOp.out.below hbg); have HCg := Lib.hid (HCp.out.below hbg); clear hbg hbg0)
    | (go_at_call 79; refine (gExp_gen P Q G b u hb0 hb1 hu0 hP2 hP3 hQ2 hQ3 _).mono ?_; rintro e wg ⟨y, rfl, hbg0⟩; have halg := ba wp (.cells #[.int .i64 0, .int .i64 10, .int .i64 40, .int .i64 1000] 3); have hbg := bt halg hbg0; have HLg := Lib.hid ((ints_spot wp _ rfl [0, 10, 40, 1000] 3).below hbg0 (Nat.le_refl _)); have HBg := Lib.hid (bt HBp.out hbg); have HVg := Lib.hid (HVp.out.below hbg); obtain ⟨xg0, xg1, xg2⟩ := HVg.out; have HOg := Lib.hid (HOp.out.below hbg); have HCg := Lib.hid (HCp.out.below hbg); clear hbg hbg0)
    | (have HLx := HLag; go_at_call 66; have hlt0 := HC5.out.lt; refine (among_any (w.heap.size + 1) _ _ _ _ [0, 10, 40, 1000] (by decide) rfl (by simp) (by simp) (by rintro a ⟨⟩; simp; omega) _ HLag.out (HCg.out)).mono ?_; rintro e wz ⟨z, rfl, _, _, hgz⟩; have hkz := (show wg.grownBy wz (some (w.heap.size + 1)) from hgz); have HBz := Lib.hid (below_at HBg.out hkz hle); have HVz := Lib.hid (HVg.out.grown hkz hne); obtain ⟨xz0, xz1, xz2⟩ := HVz.out; have HOz := Lib.hid (HOg.out.grown hkz hnc); obtain ⟨⟨d0, d1, d2⟩, df⟩ := HOz.out; have df0 := df 0; have df1 := df 1; have df2 := df 2; clear df)
    | (have HLx := HLg; go_at_call 66; have hlt0 := HCp.out.lt; refine (among_any (w.heap.size + 1) _ _ _ _ [0, 10, 40, 1000] (by decide) rfl (by simp) (by simp) (by rintro a ⟨⟩; simp; omega) _ HLg.out (HCg.out)).mono ?_; rintro e wz ⟨z, rfl, _, _, hgz⟩; have hkz := (show wg.grownBy wz (some (w.heap.size + 1)) from hgz); have HBz := Lib.hid (below_at HBg.out hkz hle); have HVz := Lib.hid (HVg.out.grown hkz hne); obtain ⟨xz0, xz1, xz2⟩ := HVz.out; have HOz := Lib.hid (HOg.out.grown hkz hnc); obtain ⟨⟨d0, d1, d2⟩, df⟩ := HOz.out; have df0 := df 0; have df1 := df 1; have df2 := df 2; clear df)
    | (go_at_call 66; have hlt0 := HCg.out.lt; refine (among_any (w.heap.size + 1) _ _ _ _ [0, 10, 40, 1000] (by decide) rfl (by simp) (by simp) (by rintro a ⟨⟩; simp; omega) _ (ints_spot wg _ rfl [0, 10, 40, 1000] 3) (HCg.out.below (ba _ _))).mono ?_; rintro e wz ⟨z, rfl, _, _, hgz⟩; have halz := grown_below (ba wg (.cells #[.int .i64 0, .int .i64 10, .int .i64 40, .int .i64 1000] 3)) (some (w.heap.size + 1)); have hkz := grown_trans halz hgz; have HBz := Lib.hid (below_at HBg.out hkz hle); have HVz := Lib.hid (HVg.out.grown hkz hne); obtain ⟨xz0, xz1, xz2⟩ := HVz.out; have HOz := Lib.hid (HOg.out.grown hkz hnc); obtain ⟨⟨d0, d1, d2⟩, df⟩ := HOz.out; have df0 := df 0; have df1 := df 1; have df2 := df 2; clear df)))
  all_goals (
    go_wp2
    (try simp only [Exit.inBlock, Exit.then])
    refine bodyPost_ret (v := .tuple #[gv P Q G, .int .i64 b, .int .i64 y, .int .i64 z]) ?_ rfl ⟨P, Q, G, b, y, z, rfl, ⟨⟨p0, p1⟩, ⟨q0, q1⟩, g0, g1⟩, ?_⟩
    · rw [results_cell_tmp3 rfl]; go_simp
    · first | exact ((HBz.out.setCell (Nat.le_refl _) _).setCell (Nat.le_refl _) _).setCell (Nat.le_refl _) _ | exact (((HBz.out.drew).setCell (Nat.le_refl _) _).setCell (Nat.le_refl _) _).setCell (Nat.le_refl _) _)

end Go.Proofs.Ytafoenoilcgjdaa

