/-
For every group and every further argument the law FnExactVerifyDealer returns true: the program's VerifyDealer answers as the reference's does, and leaves its arguments as they were.
No condition.
-/
import Derived.Test.YtchlnkdlnfjijaaGreatRows
import Derived.WalkKit
import Derived.ProofKit
import Derived.OpenShut
import Derived.ShutString
import Derived.ChangeOld
import Derived.Below
import Derived.Lib.SmallJoins
import Derived.Test.YtchlnkdlnfjijaaGreatDkR
import Derived.Test.YtchlnkdlnfjijaaGreatOpP
import Derived.Deep.RegionHeld3
import Derived.Test.YtchlnkdlnfjijaaGreatFacts
namespace Go.Proofs.YtchlnkdlnfjijaaGreat.fnExactVerifyDealer
open Go.Joins Go.ChangeShapes Go.WideShapes Go.ChangeAt Go.RowKit Go.Deep
open Go.ChangeMaps (open_string shut_string)
set_option linter.unusedVariables false

theorem own : ownKnob Tryz.prog.godebug = none := by kernel_rfl
theorem laidOut : laidOutB Tryz.prog = true := by kernel_rfl

/-- What the walk is told of a slice of integers that came in: it is nil; or it leads to a row of 'cap' cells that hold the numbers 'zs'. -/
def IsRow (k : IntKind) (w : World) (a : Option Addr) (len cap : Nat) (zs : List Int) : Prop :=
  (a = none ∧ len = 0 ∧ cap = 0 ∧ zs = []) ∨
  ∃ x, a = some x ∧ len ≤ cap ∧ cap ≤ maxLen ∧ zs.length = cap ∧ (∀ i, i < zs.length → w.cell? (x.add i) = some (.int k (zs.getD i 0))) ∧ ∀ n ∈ zs, (Lit.int k n).wf = true

set_option linter.unusedSimpArgs false

/-! ### STEP 1: the walk: the Go text returns true and writes nothing that was there -/
set_option maxRecDepth 100000 in
set_option maxHeartbeats 25600000 in
theorem walk (P0 Q0 G0 : Int) (a1 : Value) (a2 : Value) (w : World) (wP0 : (Lit.int .i64 P0).wf = true) (wQ0 : (Lit.int .i64 Q0).wf = true) (wG0 : (Lit.int .i64 G0).wf = true) (w1 : ∃ q : DlD, InD w.heap.size w a1 q ∧ q.c.length ≤ maxLen ∧ q.s.length ≤ maxLen) (w2 : ∃ q : PrD, InP w.heap.size w a2 q ∧ q.c.length ≤ maxLen ∧ q.h.length ≤ maxLen ∧ q.r.length ≤ maxLen) :
    Calls Tryz.prog 4 #[.agg #[.int .i64 P0, .int .i64 Q0, .int .i64 G0], a1, a2] w fun e w' => e = .returned (.bool true) ∧ Below w.heap.size w w' := by
  obtain ⟨dd, hdd, mdd0, mdd1⟩ := w1
  obtain ⟨jdd0, jdd1, jdd2, jdd3, rfl, _, _⟩ := hdd.shape
  obtain ⟨pp, hpp, mpp0, mpp1, mpp2⟩ := w2
  obtain ⟨jpp0, jpp1, jpp2, jpp3, jpp4, jpp5, rfl, _, _, _⟩ := hpp.parts
  have hal : Below w.heap.size w (((w.alloc (.cells #[.int .i64 P0, .int .i64 Q0, .int .i64 G0] 51)).alloc (.cells #[.slice jdd0 dd.c.length jdd1, .slice jdd2 dd.s.length jdd3] 52)).alloc (.cells #[.slice jpp0 pp.c.length jpp1, .slice jpp2 pp.h.length jpp3, .slice jpp4 pp.r.length jpp5] 53)) := bt (bt (ba _ _) (ba _ _)) (ba _ _)
  have R_0 := Lib.hid (((gr_atS w w.heap.size rfl P0 Q0 G0 51).below (ba _ (.cells #[.slice jdd0 dd.c.length jdd1, .slice jdd2 dd.s.length jdd3] 52))).below (ba _ (.cells #[.slice jpp0 pp.c.length jpp1, .slice jpp2 pp.h.length jpp3, .slice jpp4 pp.r.length jpp5] 53)))
  have JDD_0 := Lib.hid ((v2_at (w.alloc (.cells #[.int .i64 P0, .int .i64 Q0, .int .i64 G0] 51)) (w.heap.size + 1) (by simp) (.slice jdd0 dd.c.length jdd1) (.slice jdd2 dd.s.length jdd3) 52).below (ba _ (.cells #[.slice jpp0 pp.c.length jpp1, .slice jpp2 pp.h.length jpp3, .slice jpp4 pp.r.length jpp5] 53)))
  have hv := b3_new ((w.alloc (.cells #[.int .i64 P0, .int .i64 Q0, .int .i64 G0] 51)).alloc (.cells #[.slice jdd0 dd.c.length jdd1, .slice jdd2 dd.s.length jdd3] 52)) (.slice jpp0 pp.c.length jpp1) (.slice jpp2 pp.h.length jpp3) (.slice jpp4 pp.r.length jpp5) 53
  rw [show ((w.alloc (.cells #[.int .i64 P0, .int .i64 Q0, .int .i64 G0] 51)).alloc (.cells #[.slice jdd0 dd.c.length jdd1, .slice jdd2 dd.s.length jdd3] 52)).heap.size = w.heap.size + 2 by simp] at hv
  have JPP_0 := Lib.hid (hv)
  clear hv
  have DD_0 := Lib.hid (hdd.below hal)
  have PP_0 := Lib.hid (hpp.below hal)
  have HB_0 := Lib.hid hal
  clear hal hdd hpp
  have hlf0 : (0 : Int) ≤ 1048576 ∧ (1048576 : Int) ≤ 1048576 := by omega
  by_cases bs0 : 1048576 < (dd.n : Int)
  · have ES0 := Lib.hid (show szV dd.n 1048576 = -1 by unfold szV; rw [if_neg (by omega)])
    obtain ⟨jdd0, jdd1, _⟩ := JDD_0.out
    go_enter Tryz.func4, Tryz.ntmps4
    go_wp2_with fail
    refine (szD_any DD_0.out hlf0.1 hlf0.2 mdd0 mdd1).mono ?_
    rw [ES0.out]
    rintro e s1 ⟨rfl, hb⟩
    have HB_1 := Lib.hid (bt HB_0.out hb)
    have R_1 := Lib.hid (R_0.out.below hb)
    have JDD_1 := Lib.hid (JDD_0.out.below hb)
    have JPP_1 := Lib.hid (JPP_0.out.below hb)
    have DD_1 := Lib.hid (DD_0.out.below hb)
    have PP_1 := Lib.hid (PP_0.out.below hb)
    clear hb
    clear jdd0 jdd1
    go_wp2
    go_ret
    exact ⟨rfl, HB_1.out⟩
  obtain ⟨lf1, hlq1⟩ : ∃ x : Int, 1048576 - (dd.n : Int) = x := ⟨_, rfl⟩
  have ES0 := Lib.hid (show szV dd.n 1048576 = lf1 by unfold szV; rw [if_pos (by omega)]; omega)
  have hlf1 : 0 ≤ lf1 ∧ lf1 ≤ 1048576 := by omega
  have ldd : dd.n ≤ 1048576 := by omega
  clear hlq1 bs0
  by_cases bs1 : lf1 < (pp.n : Int)
  · have ES1 := Lib.hid (show szV pp.n lf1 = -1 by unfold szV; rw [if_neg (by omega)])
    obtain ⟨jdd0, jdd1, _⟩ := JDD_0.out
    go_enter Tryz.func4, Tryz.ntmps4
    go_wp2_with fail
    refine (szD_any DD_0.out hlf0.1 hlf0.2 mdd0 mdd1).mono ?_
    rw [ES0.out]
    rintro e s1 ⟨rfl, hb⟩
    have HB_1 := Lib.hid (bt HB_0.out hb)
    have R_1 := Lib.hid (R_0.out.below hb)
    have JDD_1 := Lib.hid (JDD_0.out.below hb)
    have JPP_1 := Lib.hid (JPP_0.out.below hb)
    have DD_1 := Lib.hid (DD_0.out.below hb)
    have PP_1 := Lib.hid (PP_0.out.below hb)
    clear hb
    clear jdd0 jdd1
    obtain ⟨jpp0, jpp1, jpp2, _⟩ := JPP_1.out
    go_wp2_with fail
    refine (szP_any PP_1.out hlf1.1 hlf1.2 mpp0 mpp1 mpp2).mono ?_
    rw [ES1.out]
    rintro e s2 ⟨rfl, hb⟩
    have HB_2 := Lib.hid (bt HB_1.out hb)
    have R_2 := Lib.hid (R_1.out.below hb)
    have JDD_2 := Lib.hid (JDD_1.out.below hb)
    have JPP_2 := Lib.hid (JPP_1.out.below hb)
    have DD_2 := Lib.hid (DD_1.out.below hb)
    have PP_2 := Lib.hid (PP_1.out.below hb)
    clear hb
    clear jpp0 jpp1 jpp2
    go_wp2
    go_ret
    exact ⟨rfl, HB_2.out⟩
  obtain ⟨lf2, hlq2⟩ : ∃ x : Int, lf1 - (pp.n : Int) = x := ⟨_, rfl⟩
  have ES1 := Lib.hid (show szV pp.n lf1 = lf2 by unfold szV; rw [if_pos (by omega)]; omega)
  have hlf2 : 0 ≤ lf2 ∧ lf2 ≤ 1048576 := by omega
  have lpp : pp.n ≤ 1048576 := by omega
  clear hlq2 bs1
  obtain ⟨k1, hk1⟩ : ∃ k, vdV P0 Q0 G0 dd pp = k := ⟨_, rfl⟩
  have K1 := Lib.hid hk1
  clear hk1
  obtain ⟨k2, hk2⟩ : ∃ k, vdB P0 Q0 G0 dd = k := ⟨_, rfl⟩
  have K2 := Lib.hid hk2
  clear hk2
  obtain ⟨jdd0, jdd1, _⟩ := JDD_0.out
  go_enter Tryz.func4, Tryz.ntmps4
  go_wp2_with fail
  refine (szD_any DD_0.out hlf0.1 hlf0.2 mdd0 mdd1).mono ?_
  rw [ES0.out]
  rintro e s1 ⟨rfl, hb⟩
  have HB_1 := Lib.hid (bt HB_0.out hb)
  have R_1 := Lib.hid (R_0.out.below hb)
  have JDD_1 := Lib.hid (JDD_0.out.below hb)
  have JPP_1 := Lib.hid (JPP_0.out.below hb)
  have DD_1 := Lib.hid (DD_0.out.below hb)
  have PP_1 := Lib.hid (PP_0.out.below hb)
  clear hb
  clear jdd0 jdd1
  obtain ⟨jpp0, jpp1, jpp2, _⟩ := JPP_1.out
  go_wp2_with fail
  refine (szP_any PP_1.out hlf1.1 hlf1.2 mpp0 mpp1 mpp2).mono ?_
  rw [ES1.out]
  rintro e s2 ⟨rfl, hb⟩
  have HB_2 := Lib.hid (bt HB_1.out hb)
  have R_2 := Lib.hid (R_1.out.below hb)
  have JDD_2 := Lib.hid (JDD_1.out.below hb)
  have JPP_2 := Lib.hid (JPP_1.out.below hb)
  have DD_2 := Lib.hid (DD_1.out.below hb)
  have PP_2 := Lib.hid (PP_1.out.below hb)
  clear hb
  clear jpp0 jpp1 jpp2
  go_wp2_with fail
  have hbd : Below s2.heap.size s2 s2.drew := (Below.refl _ s2).drew
  have HB_s := Lib.hid (bt HB_2.out hbd)
  have R_s := Lib.hid (R_2.out.below hbd)
  have JDD_s := Lib.hid (JDD_2.out.below hbd)
  have JPP_s := Lib.hid (JPP_2.out.below hbd)
  have DD_s := Lib.hid (DD_2.out.below hbd)
  have PP_s := Lib.hid (PP_2.out.below hbd)
  clear hbd
  refine wp_region_held_drew (S := (fun w' => (w'.cell? ⟨w.heap.size, 0, none⟩ = some (.int .i64 P0) ∧ w'.cell? ⟨w.heap.size, 1, none⟩ = some (.int .i64 Q0) ∧ w'.cell? ⟨w.heap.size, 2, none⟩ = some (.int .i64 G0)) ∧ (w'.cell? ⟨w.heap.size + 1, 0, none⟩ = some (.slice jdd0 dd.c.length jdd1) ∧ w'.cell? ⟨w.heap.size + 1, 1, none⟩ = some (.slice jdd2 dd.s.length jdd3)) ∧ (w'.cell? ⟨w.heap.size + 2, 0, none⟩ = some (.slice jpp0 pp.c.length jpp1) ∧ w'.cell? ⟨w.heap.size + 2, 1, none⟩ = some (.slice jpp2 pp.h.length jpp3) ∧ w'.cell? ⟨w.heap.size + 2, 2, none⟩ = some (.slice jpp4 pp.r.length jpp5)))) (by kernel_rfl) (show _ from ⟨⟨R_2.out.1, R_2.out.2.1, R_2.out.2.2⟩, ⟨JDD_2.out.1, JDD_2.out.2.1⟩, ⟨JPP_2.out.1, JPP_2.out.2.1, JPP_2.out.2.2.1⟩⟩) (fun hHeld => ?_)
  generalize hW0 : s2.drew = Ws at *
  clear hW0
  refine wpAnyH_take (i := 0) (v := ?_) rfl (by kernel_rfl) (by kernel_rfl) (by kernel_rfl) (fun _ _ _ h => h) (Or.inl ⟨by kernel_rfl, ?_⟩) (by assumption) ?_
  rotate_left 1
  · intro w9 hSw
    try dsimp only at hSw
    go_simp
    try with_reducible rfl
  try simp only [Act.put, List.getElem_toArray, List.getElem_cons_succ, List.getElem_cons_zero, List.setIfInBounds_toArray, List.set_cons_zero, List.set_cons_succ]
  refine wpAnyH_take (i := 2) (v := ?_) rfl (by kernel_rfl) (by kernel_rfl) (by kernel_rfl) (fun _ _ _ h => h) (Or.inl ⟨by kernel_rfl, ?_⟩) (by assumption) ?_
  rotate_left 1
  · intro w9 hSw
    try dsimp only at hSw
    go_simp
    try with_reducible rfl
  try simp only [Act.put, List.getElem_toArray, List.getElem_cons_succ, List.getElem_cons_zero, List.setIfInBounds_toArray, List.set_cons_zero, List.set_cons_succ]
  refine wpAnyH_take (i := 4) (v := ?_) rfl (by kernel_rfl) (by kernel_rfl) (by kernel_rfl) (fun _ _ _ h => h) (Or.inl ⟨by kernel_rfl, ?_⟩) (by assumption) ?_
  rotate_left 1
  · intro w9 hSw
    try dsimp only at hSw
    go_simp
    try with_reducible rfl
  try simp only [Act.put, List.getElem_toArray, List.getElem_cons_succ, List.getElem_cons_zero, List.setIfInBounds_toArray, List.set_cons_zero, List.set_cons_succ]
  refine wpAnyH_ready (rs := [1]) (by kernel_rfl) (by simp) ?_
  refine AllReadyH.cons rfl (fun K hK => ?_) (AllReadyH.nil)
  go_simp
  go_at_call 19
  refine (toGroup_any _ _ _ _).mono ?_
  rintro e' Wsb ⟨rfl, hb⟩
  have HB_sb := Lib.hid (bt HB_s.out hb)
  have R_sb := Lib.hid (R_s.out.below hb)
  have JDD_sb := Lib.hid (JDD_s.out.below hb)
  have JPP_sb := Lib.hid (JPP_s.out.below hb)
  have DD_sb := Lib.hid (DD_s.out.below hb)
  have PP_sb := Lib.hid (PP_s.out.below hb)
  clear hb
  go_wp2_with fail
  refine hK.out _ _ (show _ from ⟨⟨R_sb.out.1, R_sb.out.2.1, R_sb.out.2.2⟩, ⟨JDD_sb.out.1, JDD_sb.out.2.1⟩, ⟨JPP_sb.out.1, JPP_sb.out.2.1, JPP_sb.out.2.2.1⟩⟩) (fun hHeld => ?_)
  clear hK K
  try simp only [Act.put, List.getElem_toArray, List.getElem_cons_succ, List.getElem_cons_zero, List.setIfInBounds_toArray, List.set_cons_zero, List.set_cons_succ]
  refine wpAnyH_ready (rs := [3]) (by kernel_rfl) (by simp) ?_
  refine AllReadyH.cons rfl (fun K hK => ?_) (AllReadyH.nil)
  go_simp
  go_at_call 20
  refine (toD_any DD_sb.out (by omega)).mono ?_
  rintro e' Wsbd ⟨ydd, rfl, ho, hb⟩
  have HB_sbd := Lib.hid (bt HB_sb.out hb)
  have R_sbd := Lib.hid (R_sb.out.below hb)
  have JDD_sbd := Lib.hid (JDD_sb.out.below hb)
  have JPP_sbd := Lib.hid (JPP_sb.out.below hb)
  have DD_sbd := Lib.hid (DD_sb.out.below hb)
  have PP_sbd := Lib.hid (PP_sb.out.below hb)
  have CDD_sbd := Lib.hid (ho.toIn)
  clear ho
  clear hb
  go_wp2_with fail
  refine hK.out _ _ (show _ from ⟨⟨R_sbd.out.1, R_sbd.out.2.1, R_sbd.out.2.2⟩, ⟨JDD_sbd.out.1, JDD_sbd.out.2.1⟩, ⟨JPP_sbd.out.1, JPP_sbd.out.2.1, JPP_sbd.out.2.2.1⟩⟩) (fun hHeld => ?_)
  clear hK K
  try simp only [Act.put, List.getElem_toArray, List.getElem_cons_succ, List.getElem_cons_zero, List.setIfInBounds_toArray, List.set_cons_zero, List.set_cons_succ]
  refine wpAnyH_ready (rs := [5]) (by kernel_rfl) (by simp) ?_
  refine AllReadyH.cons rfl (fun K hK => ?_) (AllReadyH.nil)
  go_simp
  go_at_call 21
  refine (toP_any PP_sbd.out (by omega)).mono ?_
  rintro e' Wsbdf ⟨ypp, rfl, ho, hb⟩
  have HB_sbdf := Lib.hid (bt HB_sbd.out hb)
  have R_sbdf := Lib.hid (R_sbd.out.below hb)
  have JDD_sbdf := Lib.hid (JDD_sbd.out.below hb)
  have JPP_sbdf := Lib.hid (JPP_sbd.out.below hb)
  have DD_sbdf := Lib.hid (DD_sbd.out.below hb)
  have PP_sbdf := Lib.hid (PP_sbd.out.below hb)
  have CDD_sbdf := Lib.hid (CDD_sbd.out.below hb)
  have CPP_sbdf := Lib.hid (ho.toIn)
  clear ho
  clear hb
  go_wp2_with fail
  refine hK.out _ _ (show _ from ⟨⟨R_sbdf.out.1, R_sbdf.out.2.1, R_sbdf.out.2.2⟩, ⟨JDD_sbdf.out.1, JDD_sbdf.out.2.1⟩, ⟨JPP_sbdf.out.1, JPP_sbdf.out.2.1, JPP_sbdf.out.2.2.1⟩⟩) (fun hHeld => ?_)
  clear hK K
  try simp only [Act.put, List.getElem_toArray, List.getElem_cons_succ, List.getElem_cons_zero, List.setIfInBounds_toArray, List.set_cons_zero, List.set_cons_succ]
  refine wpAnyH_ready (rs := [6]) (by kernel_rfl) (by simp) ?_
  refine AllReadyH.cons rfl (fun K hK => ?_) (AllReadyH.nil)
  go_simp
  go_at_call 10
  refine (sVerifyDealer_any P0 Q0 G0 ldd lpp CDD_sbdf.out CPP_sbdf.out).mono ?_
  rw [K1.out, K2.out]
  rintro e' Wsbdfg ⟨rfl, hb⟩
  have HB_sbdfg := Lib.hid (bt HB_sbdf.out hb)
  have R_sbdfg := Lib.hid (R_sbdf.out.below hb)
  have JDD_sbdfg := Lib.hid (JDD_sbdf.out.below hb)
  have JPP_sbdfg := Lib.hid (JPP_sbdf.out.below hb)
  have DD_sbdfg := Lib.hid (DD_sbdf.out.below hb)
  have PP_sbdfg := Lib.hid (PP_sbdf.out.below hb)
  have CDD_sbdfg := Lib.hid (CDD_sbdf.out.below hb)
  have CPP_sbdfg := Lib.hid (CPP_sbdf.out.below hb)
  clear hb
  go_wp2_with fail
  refine hK.out _ _ (show _ from ⟨⟨R_sbdfg.out.1, R_sbdfg.out.2.1, R_sbdfg.out.2.2⟩, ⟨JDD_sbdfg.out.1, JDD_sbdfg.out.2.1⟩, ⟨JPP_sbdfg.out.1, JPP_sbdfg.out.2.1, JPP_sbdfg.out.2.2.1⟩⟩) (fun hHeld => ?_)
  clear hK K
  try simp only [Act.put, List.getElem_toArray, List.getElem_cons_succ, List.getElem_cons_zero, List.setIfInBounds_toArray, List.set_cons_zero, List.set_cons_succ]
  refine wpAnyH_take (i := 7) (v := ?_) rfl (by kernel_rfl) (by kernel_rfl) (by kernel_rfl) (fun _ _ _ h => h) (Or.inl ⟨by kernel_rfl, ?_⟩) (by assumption) ?_
  rotate_left 1
  · intro w9 hSw
    try dsimp only at hSw
    go_simp
    try with_reducible rfl
  try simp only [Act.put, List.getElem_toArray, List.getElem_cons_succ, List.getElem_cons_zero, List.setIfInBounds_toArray, List.set_cons_zero, List.set_cons_succ]
  refine wpAnyH_take (i := 8) (v := ?_) rfl (by kernel_rfl) (by kernel_rfl) (by kernel_rfl) (fun _ _ _ h => h) (Or.inl ⟨by kernel_rfl, ?_⟩) (by assumption) ?_
  rotate_left 1
  · intro w9 hSw
    try dsimp only at hSw
    go_simp
    try with_reducible rfl
  try simp only [Act.put, List.getElem_toArray, List.getElem_cons_succ, List.getElem_cons_zero, List.setIfInBounds_toArray, List.set_cons_zero, List.set_cons_succ]
  refine wpAnyH_take (i := 9) (v := ?_) rfl (by kernel_rfl) (by kernel_rfl) (by kernel_rfl) (fun _ _ _ h => h) (Or.inl ⟨by kernel_rfl, ?_⟩) (by assumption) ?_
  rotate_left 1
  · intro w9 hSw
    try dsimp only at hSw
    go_simp
    try with_reducible rfl
  try simp only [Act.put, List.getElem_toArray, List.getElem_cons_succ, List.getElem_cons_zero, List.setIfInBounds_toArray, List.set_cons_zero, List.set_cons_succ]
  refine wpAnyH_take (i := 10) (v := ?_) rfl (by kernel_rfl) (by kernel_rfl) (by kernel_rfl) (fun _ _ _ h => h) (Or.inl ⟨by kernel_rfl, ?_⟩) (by assumption) ?_
  rotate_left 1
  · intro w9 hSw
    try dsimp only at hSw
    go_simp
    try with_reducible rfl
  try simp only [Act.put, List.getElem_toArray, List.getElem_cons_succ, List.getElem_cons_zero, List.setIfInBounds_toArray, List.set_cons_zero, List.set_cons_succ]
  refine wpAnyH_take (i := 11) (v := ?_) rfl (by kernel_rfl) (by kernel_rfl) (by kernel_rfl) (fun _ _ _ h => h) (Or.inl ⟨by kernel_rfl, ?_⟩) (by assumption) ?_
  rotate_left 1
  · intro w9 hSw
    try dsimp only at hSw
    go_simp
    try with_reducible rfl
  try simp only [Act.put, List.getElem_toArray, List.getElem_cons_succ, List.getElem_cons_zero, List.setIfInBounds_toArray, List.set_cons_zero, List.set_cons_succ]
  refine wpAnyH_done (by kernel_rfl) ?_ _
  have HB_3 := Lib.hid HB_sbdfg.out
  have R_3 := Lib.hid R_sbdfg.out
  have JDD_3 := Lib.hid JDD_sbdfg.out
  have JPP_3 := Lib.hid JPP_sbdfg.out
  have DD_3 := Lib.hid DD_sbdfg.out
  have PP_3 := Lib.hid PP_sbdfg.out
  obtain ⟨jdd0, jdd1, _⟩ := JDD_3.out
  go_wp2_with fail
  refine (toD_any DD_3.out (by omega)).mono ?_
  rintro e u101 ⟨yydd, rfl, ho, hb1⟩
  obtain ⟨pdd0, pdd1, pdd2, pdd3, hsh, _, _⟩ := ho.toIn.shape
  subst hsh
  clear jdd0 jdd1
  have hba := ba u101 (.cells #[.slice pdd0 dd.c.length pdd1, .slice pdd2 dd.s.length pdd3] 34)
  have hb := bt hb1 hba
  have HB_4 := Lib.hid (bt HB_3.out hb)
  have R_4 := Lib.hid (R_3.out.below hb)
  have JDD_4 := Lib.hid (JDD_3.out.below hb)
  have JPP_4 := Lib.hid (JPP_3.out.below hb)
  have DD_4 := Lib.hid (DD_3.out.below hb)
  have PP_4 := Lib.hid (PP_3.out.below hb)
  have KDD_4 := Lib.hid (v2_at u101 (u101.heap.size) rfl (.slice pdd0 dd.c.length pdd1) (.slice pdd2 dd.s.length pdd3) 34)
  have XDD_4 := Lib.hid (ho.toIn.below hba)
  clear hb HB_3 R_3 JDD_3 JPP_3 DD_3 PP_3
  clear ho hb1 hba
  obtain ⟨jpp0, jpp1, jpp2, _⟩ := JPP_4.out
  obtain ⟨kdd0, kdd1, _⟩ := KDD_4.out
  go_wp2_with fail
  refine (toP_any PP_4.out (by omega)).mono ?_
  rintro e u102 ⟨yypp, rfl, ho, hb1⟩
  obtain ⟨ppp0, ppp1, ppp2, ppp3, ppp4, ppp5, hsh, _, _, _⟩ := ho.toIn.parts
  subst hsh
  clear jpp0 jpp1 jpp2
  clear kdd0 kdd1
  have hba := ba u102 (.cells #[.slice ppp0 pp.c.length ppp1, .slice ppp2 pp.h.length ppp3, .slice ppp4 pp.r.length ppp5] 36)
  have hb := bt hb1 hba
  have HB_5 := Lib.hid (bt HB_4.out hb)
  have R_5 := Lib.hid (R_4.out.below hb)
  have JDD_5 := Lib.hid (JDD_4.out.below hb)
  have JPP_5 := Lib.hid (JPP_4.out.below hb)
  have DD_5 := Lib.hid (DD_4.out.below hb)
  have PP_5 := Lib.hid (PP_4.out.below hb)
  have KDD_5 := Lib.hid (KDD_4.out.below hb)
  have XDD_5 := Lib.hid (XDD_4.out.below hb)
  have KPP_5 := Lib.hid (b3_new u102 (.slice ppp0 pp.c.length ppp1) (.slice ppp2 pp.h.length ppp3) (.slice ppp4 pp.r.length ppp5) 36)
  have XPP_5 := Lib.hid (ho.toIn.below hba)
  clear hb HB_4 R_4 JDD_4 JPP_4 DD_4 PP_4 KDD_4 XDD_4
  clear ho hb1 hba
  obtain ⟨kpp0, kpp1, kpp2, _⟩ := KPP_5.out
  go_wp2_with fail
  clear kpp0 kpp1 kpp2
  generalize hW9 : (u102.alloc (.cells #[.slice ppp0 pp.c.length ppp1, .slice ppp2 pp.h.length ppp3, .slice ppp4 pp.r.length ppp5] 36)) = u9 at *
  clear hW9
  go_wp2_with fail
  have hbd : Below u9.heap.size u9 u9.drew := (Below.refl _ u9).drew
  have HB_s := Lib.hid (bt HB_5.out hbd)
  have R_s := Lib.hid (R_5.out.below hbd)
  have JDD_s := Lib.hid (JDD_5.out.below hbd)
  have JPP_s := Lib.hid (JPP_5.out.below hbd)
  have DD_s := Lib.hid (DD_5.out.below hbd)
  have PP_s := Lib.hid (PP_5.out.below hbd)
  have KDD_s := Lib.hid (KDD_5.out.below hbd)
  have XDD_s := Lib.hid (XDD_5.out.below hbd)
  have KPP_s := Lib.hid (KPP_5.out.below hbd)
  have XPP_s := Lib.hid (XPP_5.out.below hbd)
  clear hbd
  refine wp_region_held_drew (S := (fun w' => (w'.cell? ⟨w.heap.size, 0, none⟩ = some (.int .i64 P0) ∧ w'.cell? ⟨w.heap.size, 1, none⟩ = some (.int .i64 Q0) ∧ w'.cell? ⟨w.heap.size, 2, none⟩ = some (.int .i64 G0)) ∧ (w'.cell? ⟨u101.heap.size, 0, none⟩ = some (.slice pdd0 dd.c.length pdd1) ∧ w'.cell? ⟨u101.heap.size, 1, none⟩ = some (.slice pdd2 dd.s.length pdd3)) ∧ (w'.cell? ⟨u102.heap.size, 0, none⟩ = some (.slice ppp0 pp.c.length ppp1) ∧ w'.cell? ⟨u102.heap.size, 1, none⟩ = some (.slice ppp2 pp.h.length ppp3) ∧ w'.cell? ⟨u102.heap.size, 2, none⟩ = some (.slice ppp4 pp.r.length ppp5)))) (by kernel_rfl) (show _ from ⟨⟨R_5.out.1, R_5.out.2.1, R_5.out.2.2⟩, ⟨KDD_5.out.1, KDD_5.out.2.1⟩, ⟨KPP_5.out.1, KPP_5.out.2.1, KPP_5.out.2.2.1⟩⟩) (fun hHeld => ?_)
  generalize hW0 : u9.drew = Ws at *
  clear hW0
  refine wpAnyH_take (i := 0) (v := ?_) rfl (by kernel_rfl) (by kernel_rfl) (by kernel_rfl) (fun _ _ _ h => h) (Or.inl ⟨by kernel_rfl, ?_⟩) (by assumption) ?_
  rotate_left 1
  · intro w9 hSw
    try dsimp only at hSw
    go_simp
    try with_reducible rfl
  try simp only [Act.put, List.getElem_toArray, List.getElem_cons_succ, List.getElem_cons_zero, List.setIfInBounds_toArray, List.set_cons_zero, List.set_cons_succ]
  refine wpAnyH_take (i := 2) (v := ?_) rfl (by kernel_rfl) (by kernel_rfl) (by kernel_rfl) (fun _ _ _ h => h) (Or.inl ⟨by kernel_rfl, ?_⟩) (by assumption) ?_
  rotate_left 1
  · intro w9 hSw
    try dsimp only at hSw
    go_simp
    try with_reducible rfl
  try simp only [Act.put, List.getElem_toArray, List.getElem_cons_succ, List.getElem_cons_zero, List.setIfInBounds_toArray, List.set_cons_zero, List.set_cons_succ]
  refine wpAnyH_take (i := 3) (v := ?_) rfl (by kernel_rfl) (by kernel_rfl) (by kernel_rfl) (fun _ _ _ h => h) (Or.inl ⟨by kernel_rfl, ?_⟩) (by assumption) ?_
  rotate_left 1
  · intro w9 hSw
    try dsimp only at hSw
    go_simp
    try with_reducible rfl
  try simp only [Act.put, List.getElem_toArray, List.getElem_cons_succ, List.getElem_cons_zero, List.setIfInBounds_toArray, List.set_cons_zero, List.set_cons_succ]
  refine wpAnyH_ready (rs := [1]) (by kernel_rfl) (by simp) ?_
  refine AllReadyH.cons rfl (fun K hK => ?_) (AllReadyH.nil)
  go_simp
  go_at_call 19
  refine (toGroup_any _ _ _ _).mono ?_
  rintro e' Wsb ⟨rfl, hb⟩
  have HB_sb := Lib.hid (bt HB_s.out hb)
  have R_sb := Lib.hid (R_s.out.below hb)
  have JDD_sb := Lib.hid (JDD_s.out.below hb)
  have JPP_sb := Lib.hid (JPP_s.out.below hb)
  have DD_sb := Lib.hid (DD_s.out.below hb)
  have PP_sb := Lib.hid (PP_s.out.below hb)
  have KDD_sb := Lib.hid (KDD_s.out.below hb)
  have XDD_sb := Lib.hid (XDD_s.out.below hb)
  have KPP_sb := Lib.hid (KPP_s.out.below hb)
  have XPP_sb := Lib.hid (XPP_s.out.below hb)
  clear hb
  go_wp2_with fail
  refine hK.out _ _ (show _ from ⟨⟨R_sb.out.1, R_sb.out.2.1, R_sb.out.2.2⟩, ⟨KDD_sb.out.1, KDD_sb.out.2.1⟩, ⟨KPP_sb.out.1, KPP_sb.out.2.1, KPP_sb.out.2.2.1⟩⟩) (fun hHeld => ?_)
  clear hK K
  try simp only [Act.put, List.getElem_toArray, List.getElem_cons_succ, List.getElem_cons_zero, List.setIfInBounds_toArray, List.set_cons_zero, List.set_cons_succ]
  refine wpAnyH_ready (rs := [4]) (by kernel_rfl) (by simp) ?_
  refine AllReadyH.cons rfl (fun K hK => ?_) (AllReadyH.nil)
  go_simp
  go_at_call 9
  refine (verifyDealer_any P0 Q0 G0 ldd lpp XDD_sb.out XPP_sb.out).mono ?_
  rw [K1.out, K2.out]
  rintro e' Wsbe ⟨rfl, hb⟩
  have HB_sbe := Lib.hid (bt HB_sb.out hb)
  have R_sbe := Lib.hid (R_sb.out.below hb)
  have JDD_sbe := Lib.hid (JDD_sb.out.below hb)
  have JPP_sbe := Lib.hid (JPP_sb.out.below hb)
  have DD_sbe := Lib.hid (DD_sb.out.below hb)
  have PP_sbe := Lib.hid (PP_sb.out.below hb)
  have KDD_sbe := Lib.hid (KDD_sb.out.below hb)
  have XDD_sbe := Lib.hid (XDD_sb.out.below hb)
  have KPP_sbe := Lib.hid (KPP_sb.out.below hb)
  have XPP_sbe := Lib.hid (XPP_sb.out.below hb)
  clear hb
  go_wp2_with fail
  refine hK.out _ _ (show _ from ⟨⟨R_sbe.out.1, R_sbe.out.2.1, R_sbe.out.2.2⟩, ⟨KDD_sbe.out.1, KDD_sbe.out.2.1⟩, ⟨KPP_sbe.out.1, KPP_sbe.out.2.1, KPP_sbe.out.2.2.1⟩⟩) (fun hHeld => ?_)
  clear hK K
  try simp only [Act.put, List.getElem_toArray, List.getElem_cons_succ, List.getElem_cons_zero, List.setIfInBounds_toArray, List.set_cons_zero, List.set_cons_succ]
  refine wpAnyH_take (i := 5) (v := ?_) rfl (by kernel_rfl) (by kernel_rfl) (by kernel_rfl) (fun _ _ _ h => h) (Or.inl ⟨by kernel_rfl, ?_⟩) (by assumption) ?_
  rotate_left 1
  · intro w9 hSw
    try dsimp only at hSw
    go_simp
    try with_reducible rfl
  try simp only [Act.put, List.getElem_toArray, List.getElem_cons_succ, List.getElem_cons_zero, List.setIfInBounds_toArray, List.set_cons_zero, List.set_cons_succ]
  refine wpAnyH_take (i := 6) (v := ?_) rfl (by kernel_rfl) (by kernel_rfl) (by kernel_rfl) (fun _ _ _ h => h) (Or.inl ⟨by kernel_rfl, ?_⟩) (by assumption) ?_
  rotate_left 1
  · intro w9 hSw
    try dsimp only at hSw
    go_simp
    try with_reducible rfl
  try simp only [Act.put, List.getElem_toArray, List.getElem_cons_succ, List.getElem_cons_zero, List.setIfInBounds_toArray, List.set_cons_zero, List.set_cons_succ]
  refine wpAnyH_take (i := 7) (v := ?_) rfl (by kernel_rfl) (by kernel_rfl) (by kernel_rfl) (fun _ _ _ h => h) (Or.inl ⟨by kernel_rfl, ?_⟩) (by assumption) ?_
  rotate_left 1
  · intro w9 hSw
    try dsimp only at hSw
    go_simp
    try with_reducible rfl
  try simp only [Act.put, List.getElem_toArray, List.getElem_cons_succ, List.getElem_cons_zero, List.setIfInBounds_toArray, List.set_cons_zero, List.set_cons_succ]
  refine wpAnyH_take (i := 8) (v := ?_) rfl (by kernel_rfl) (by kernel_rfl) (by kernel_rfl) (fun _ _ _ h => h) (Or.inl ⟨by kernel_rfl, ?_⟩) (by assumption) ?_
  rotate_left 1
  · intro w9 hSw
    try dsimp only at hSw
    go_simp
    try with_reducible rfl
  try simp only [Act.put, List.getElem_toArray, List.getElem_cons_succ, List.getElem_cons_zero, List.setIfInBounds_toArray, List.set_cons_zero, List.set_cons_succ]
  refine wpAnyH_take (i := 9) (v := ?_) rfl (by kernel_rfl) (by kernel_rfl) (by kernel_rfl) (fun _ _ _ h => h) (Or.inl ⟨by kernel_rfl, ?_⟩) (by assumption) ?_
  rotate_left 1
  · intro w9 hSw
    try dsimp only at hSw
    go_simp
    try with_reducible rfl
  try simp only [Act.put, List.getElem_toArray, List.getElem_cons_succ, List.getElem_cons_zero, List.setIfInBounds_toArray, List.set_cons_zero, List.set_cons_succ]
  refine wpAnyH_done (by kernel_rfl) ?_ _
  have HB_6 := Lib.hid HB_sbe.out
  have R_6 := Lib.hid R_sbe.out
  have JDD_6 := Lib.hid JDD_sbe.out
  have JPP_6 := Lib.hid JPP_sbe.out
  have DD_6 := Lib.hid DD_sbe.out
  have PP_6 := Lib.hid PP_sbe.out
  have KDD_6 := Lib.hid KDD_sbe.out
  have XDD_6 := Lib.hid XDD_sbe.out
  have KPP_6 := Lib.hid KPP_sbe.out
  have XPP_6 := Lib.hid XPP_sbe.out
  go_wp2_with fail
  have hbd : Below Wsbe.heap.size Wsbe Wsbe.drew := (Below.refl _ Wsbe).drew
  have HB_s := Lib.hid (bt HB_6.out hbd)
  have R_s := Lib.hid (R_6.out.below hbd)
  have JDD_s := Lib.hid (JDD_6.out.below hbd)
  have JPP_s := Lib.hid (JPP_6.out.below hbd)
  have DD_s := Lib.hid (DD_6.out.below hbd)
  have PP_s := Lib.hid (PP_6.out.below hbd)
  have KDD_s := Lib.hid (KDD_6.out.below hbd)
  have XDD_s := Lib.hid (XDD_6.out.below hbd)
  have KPP_s := Lib.hid (KPP_6.out.below hbd)
  have XPP_s := Lib.hid (XPP_6.out.below hbd)
  clear hbd
  refine wp_region_held_drew (S := (fun w' => (w'.cell? ⟨u101.heap.size, 0, none⟩ = some (.slice pdd0 dd.c.length pdd1) ∧ w'.cell? ⟨u101.heap.size, 1, none⟩ = some (.slice pdd2 dd.s.length pdd3)) ∧ (w'.cell? ⟨w.heap.size + 1, 0, none⟩ = some (.slice jdd0 dd.c.length jdd1) ∧ w'.cell? ⟨w.heap.size + 1, 1, none⟩ = some (.slice jdd2 dd.s.length jdd3)))) (by kernel_rfl) (show _ from ⟨⟨KDD_6.out.1, KDD_6.out.2.1⟩, ⟨JDD_6.out.1, JDD_6.out.2.1⟩⟩) (fun hHeld => ?_)
  generalize hW0 : Wsbe.drew = Ws at *
  clear hW0
  refine wpAnyH_take (i := 0) (v := ?_) rfl (by kernel_rfl) (by kernel_rfl) (by kernel_rfl) (fun _ _ _ h => h) (Or.inl ⟨by kernel_rfl, ?_⟩) (by assumption) ?_
  rotate_left 1
  · intro w9 hSw
    try dsimp only at hSw
    go_simp
    try with_reducible rfl
  try simp only [Act.put, List.getElem_toArray, List.getElem_cons_succ, List.getElem_cons_zero, List.setIfInBounds_toArray, List.set_cons_zero, List.set_cons_succ]
  refine wpAnyH_take (i := 1) (v := ?_) rfl (by kernel_rfl) (by kernel_rfl) (by kernel_rfl) (fun _ _ _ h => h) (Or.inl ⟨by kernel_rfl, ?_⟩) (by assumption) ?_
  rotate_left 1
  · intro w9 hSw
    try dsimp only at hSw
    go_simp
    try with_reducible rfl
  try simp only [Act.put, List.getElem_toArray, List.getElem_cons_succ, List.getElem_cons_zero, List.setIfInBounds_toArray, List.set_cons_zero, List.set_cons_succ]
  refine wpAnyH_ready (rs := [2]) (by kernel_rfl) (by simp) ?_
  refine AllReadyH.cons rfl (fun K hK => ?_) (AllReadyH.nil)
  go_simp
  go_at_call 20
  refine (toD_any DD_s.out (by omega)).mono ?_
  rintro e' Wsc ⟨ydd, rfl, ho, hb⟩
  have HB_sc := Lib.hid (bt HB_s.out hb)
  have R_sc := Lib.hid (R_s.out.below hb)
  have JDD_sc := Lib.hid (JDD_s.out.below hb)
  have JPP_sc := Lib.hid (JPP_s.out.below hb)
  have DD_sc := Lib.hid (DD_s.out.below hb)
  have PP_sc := Lib.hid (PP_s.out.below hb)
  have KDD_sc := Lib.hid (KDD_s.out.below hb)
  have XDD_sc := Lib.hid (XDD_s.out.below hb)
  have KPP_sc := Lib.hid (KPP_s.out.below hb)
  have XPP_sc := Lib.hid (XPP_s.out.below hb)
  have CDD_sc := Lib.hid (ho.toIn)
  clear ho
  clear hb
  go_wp2_with fail
  refine hK.out _ _ (show _ from ⟨⟨KDD_sc.out.1, KDD_sc.out.2.1⟩, ⟨JDD_sc.out.1, JDD_sc.out.2.1⟩⟩) (fun hHeld => ?_)
  clear hK K
  try simp only [Act.put, List.getElem_toArray, List.getElem_cons_succ, List.getElem_cons_zero, List.setIfInBounds_toArray, List.set_cons_zero, List.set_cons_succ]
  refine wpAnyH_ready (rs := [3]) (by kernel_rfl) (by simp) ?_
  refine AllReadyH.cons rfl (fun K hK => ?_) (AllReadyH.nil)
  go_simp
  go_at_call 22
  refine (eqD_any XDD_sc.out CDD_sc.out (by omega)).mono ?_
  rintro e' Wscd ⟨rfl, hb⟩
  have HB_scd := Lib.hid (bt HB_sc.out hb)
  have R_scd := Lib.hid (R_sc.out.below hb)
  have JDD_scd := Lib.hid (JDD_sc.out.below hb)
  have JPP_scd := Lib.hid (JPP_sc.out.below hb)
  have DD_scd := Lib.hid (DD_sc.out.below hb)
  have PP_scd := Lib.hid (PP_sc.out.below hb)
  have KDD_scd := Lib.hid (KDD_sc.out.below hb)
  have XDD_scd := Lib.hid (XDD_sc.out.below hb)
  have KPP_scd := Lib.hid (KPP_sc.out.below hb)
  have XPP_scd := Lib.hid (XPP_sc.out.below hb)
  have CDD_scd := Lib.hid (CDD_sc.out.below hb)
  clear hb
  go_wp2_with fail
  refine hK.out _ _ (show _ from ⟨⟨KDD_scd.out.1, KDD_scd.out.2.1⟩, ⟨JDD_scd.out.1, JDD_scd.out.2.1⟩⟩) (fun hHeld => ?_)
  clear hK K
  try simp only [Act.put, List.getElem_toArray, List.getElem_cons_succ, List.getElem_cons_zero, List.setIfInBounds_toArray, List.set_cons_zero, List.set_cons_succ]
  refine wpAnyH_take (i := 4) (v := ?_) rfl (by kernel_rfl) (by kernel_rfl) (by kernel_rfl) (fun _ _ _ h => h) (Or.inl ⟨by kernel_rfl, ?_⟩) (by assumption) ?_
  rotate_left 1
  · intro w9 hSw
    try dsimp only at hSw
    go_simp
    try with_reducible rfl
  try simp only [Act.put, List.getElem_toArray, List.getElem_cons_succ, List.getElem_cons_zero, List.setIfInBounds_toArray, List.set_cons_zero, List.set_cons_succ]
  refine wpAnyH_done (by kernel_rfl) ?_ _
  have HB_7 := Lib.hid HB_scd.out
  have R_7 := Lib.hid R_scd.out
  have JDD_7 := Lib.hid JDD_scd.out
  have JPP_7 := Lib.hid JPP_scd.out
  have DD_7 := Lib.hid DD_scd.out
  have PP_7 := Lib.hid PP_scd.out
  have KDD_7 := Lib.hid KDD_scd.out
  have XDD_7 := Lib.hid XDD_scd.out
  have KPP_7 := Lib.hid KPP_scd.out
  have XPP_7 := Lib.hid XPP_scd.out
  go_wp2_with fail
  have hbd : Below Wscd.heap.size Wscd Wscd.drew := (Below.refl _ Wscd).drew
  have HB_s := Lib.hid (bt HB_7.out hbd)
  have R_s := Lib.hid (R_7.out.below hbd)
  have JDD_s := Lib.hid (JDD_7.out.below hbd)
  have JPP_s := Lib.hid (JPP_7.out.below hbd)
  have DD_s := Lib.hid (DD_7.out.below hbd)
  have PP_s := Lib.hid (PP_7.out.below hbd)
  have KDD_s := Lib.hid (KDD_7.out.below hbd)
  have XDD_s := Lib.hid (XDD_7.out.below hbd)
  have KPP_s := Lib.hid (KPP_7.out.below hbd)
  have XPP_s := Lib.hid (XPP_7.out.below hbd)
  clear hbd
  refine wp_region_held_drew (S := (fun w' => (w'.cell? ⟨u102.heap.size, 0, none⟩ = some (.slice ppp0 pp.c.length ppp1) ∧ w'.cell? ⟨u102.heap.size, 1, none⟩ = some (.slice ppp2 pp.h.length ppp3) ∧ w'.cell? ⟨u102.heap.size, 2, none⟩ = some (.slice ppp4 pp.r.length ppp5)) ∧ (w'.cell? ⟨w.heap.size + 2, 0, none⟩ = some (.slice jpp0 pp.c.length jpp1) ∧ w'.cell? ⟨w.heap.size + 2, 1, none⟩ = some (.slice jpp2 pp.h.length jpp3) ∧ w'.cell? ⟨w.heap.size + 2, 2, none⟩ = some (.slice jpp4 pp.r.length jpp5)))) (by kernel_rfl) (show _ from ⟨⟨KPP_7.out.1, KPP_7.out.2.1, KPP_7.out.2.2.1⟩, ⟨JPP_7.out.1, JPP_7.out.2.1, JPP_7.out.2.2.1⟩⟩) (fun hHeld => ?_)
  generalize hW0 : Wscd.drew = Ws at *
  clear hW0
  refine wpAnyH_take (i := 0) (v := ?_) rfl (by kernel_rfl) (by kernel_rfl) (by kernel_rfl) (fun _ _ _ h => h) (Or.inl ⟨by kernel_rfl, ?_⟩) (by assumption) ?_
  rotate_left 1
  · intro w9 hSw
    try dsimp only at hSw
    go_simp
    try with_reducible rfl
  try simp only [Act.put, List.getElem_toArray, List.getElem_cons_succ, List.getElem_cons_zero, List.setIfInBounds_toArray, List.set_cons_zero, List.set_cons_succ]
  refine wpAnyH_take (i := 1) (v := ?_) rfl (by kernel_rfl) (by kernel_rfl) (by kernel_rfl) (fun _ _ _ h => h) (Or.inl ⟨by kernel_rfl, ?_⟩) (by assumption) ?_
  rotate_left 1
  · intro w9 hSw
    try dsimp only at hSw
    go_simp
    try with_reducible rfl
  try simp only [Act.put, List.getElem_toArray, List.getElem_cons_succ, List.getElem_cons_zero, List.setIfInBounds_toArray, List.set_cons_zero, List.set_cons_succ]
  refine wpAnyH_ready (rs := [2]) (by kernel_rfl) (by simp) ?_
  refine AllReadyH.cons rfl (fun K hK => ?_) (AllReadyH.nil)
  go_simp
  go_at_call 21
  refine (toP_any PP_s.out (by omega)).mono ?_
  rintro e' Wsc ⟨ypp, rfl, ho, hb⟩
  have HB_sc := Lib.hid (bt HB_s.out hb)
  have R_sc := Lib.hid (R_s.out.below hb)
  have JDD_sc := Lib.hid (JDD_s.out.below hb)
  have JPP_sc := Lib.hid (JPP_s.out.below hb)
  have DD_sc := Lib.hid (DD_s.out.below hb)
  have PP_sc := Lib.hid (PP_s.out.below hb)
  have KDD_sc := Lib.hid (KDD_s.out.below hb)
  have XDD_sc := Lib.hid (XDD_s.out.below hb)
  have KPP_sc := Lib.hid (KPP_s.out.below hb)
  have XPP_sc := Lib.hid (XPP_s.out.below hb)
  have CPP_sc := Lib.hid (ho.toIn)
  clear ho
  clear hb
  go_wp2_with fail
  refine hK.out _ _ (show _ from ⟨⟨KPP_sc.out.1, KPP_sc.out.2.1, KPP_sc.out.2.2.1⟩, ⟨JPP_sc.out.1, JPP_sc.out.2.1, JPP_sc.out.2.2.1⟩⟩) (fun hHeld => ?_)
  clear hK K
  try simp only [Act.put, List.getElem_toArray, List.getElem_cons_succ, List.getElem_cons_zero, List.setIfInBounds_toArray, List.set_cons_zero, List.set_cons_succ]
  refine wpAnyH_ready (rs := [3]) (by kernel_rfl) (by simp) ?_
  refine AllReadyH.cons rfl (fun K hK => ?_) (AllReadyH.nil)
  go_simp
  go_at_call 23
  refine (eqP_any XPP_sc.out CPP_sc.out (by omega)).mono ?_
  rintro e' Wscd ⟨rfl, hb⟩
  have HB_scd := Lib.hid (bt HB_sc.out hb)
  have R_scd := Lib.hid (R_sc.out.below hb)
  have JDD_scd := Lib.hid (JDD_sc.out.below hb)
  have JPP_scd := Lib.hid (JPP_sc.out.below hb)
  have DD_scd := Lib.hid (DD_sc.out.below hb)
  have PP_scd := Lib.hid (PP_sc.out.below hb)
  have KDD_scd := Lib.hid (KDD_sc.out.below hb)
  have XDD_scd := Lib.hid (XDD_sc.out.below hb)
  have KPP_scd := Lib.hid (KPP_sc.out.below hb)
  have XPP_scd := Lib.hid (XPP_sc.out.below hb)
  have CPP_scd := Lib.hid (CPP_sc.out.below hb)
  clear hb
  go_wp2_with fail
  refine hK.out _ _ (show _ from ⟨⟨KPP_scd.out.1, KPP_scd.out.2.1, KPP_scd.out.2.2.1⟩, ⟨JPP_scd.out.1, JPP_scd.out.2.1, JPP_scd.out.2.2.1⟩⟩) (fun hHeld => ?_)
  clear hK K
  try simp only [Act.put, List.getElem_toArray, List.getElem_cons_succ, List.getElem_cons_zero, List.setIfInBounds_toArray, List.set_cons_zero, List.set_cons_succ]
  refine wpAnyH_take (i := 4) (v := ?_) rfl (by kernel_rfl) (by kernel_rfl) (by kernel_rfl) (fun _ _ _ h => h) (Or.inl ⟨by kernel_rfl, ?_⟩) (by assumption) ?_
  rotate_left 1
  · intro w9 hSw
    try dsimp only at hSw
    go_simp
    try with_reducible rfl
  try simp only [Act.put, List.getElem_toArray, List.getElem_cons_succ, List.getElem_cons_zero, List.setIfInBounds_toArray, List.set_cons_zero, List.set_cons_succ]
  refine wpAnyH_done (by kernel_rfl) ?_ _
  have HB_8 := Lib.hid HB_scd.out
  have R_8 := Lib.hid R_scd.out
  have JDD_8 := Lib.hid JDD_scd.out
  have JPP_8 := Lib.hid JPP_scd.out
  have DD_8 := Lib.hid DD_scd.out
  have PP_8 := Lib.hid PP_scd.out
  have KDD_8 := Lib.hid KDD_scd.out
  have XDD_8 := Lib.hid XDD_scd.out
  have KPP_8 := Lib.hid KPP_scd.out
  have XPP_8 := Lib.hid XPP_scd.out
  go_wp2
  go_ret
  exact ⟨rfl, HB_8.out⟩

/-! ### The row's step -/
set_option maxRecDepth 100000 in
theorem lifted (os : Os) (started : os.Started) (H : Type) (enc : TypeId × Value → H) :
    ReturnsInHanded {} Tryz.checked os 4 .any (Rows.fnExactVerifyDealerSpec.pre6 enc Tryz.prog Tryz.f4 Rows.fnExactVerifyDealerRow.domain false) (Rows.fnExactVerifyDealerSpec.post enc Tryz.prog Tryz.f4 false true false false) := by
  refine returnsInHanded_of_change (C := Tryz.checked) own started (by kernel_rfl) Tryz.func4
    (ChangeSpec.witness6 (enc := enc) (C := Tryz.checked) false ⟨#[], #[.agg #[.int .i64 0, .int .i64 0, .int .i64 0], .agg #[.slice none 0 0, .slice none 0 0], .agg #[.slice none 0 0, .slice none 0 0, .slice none 0 0]], []⟩ 8 (by kernel_rfl) (by kernel_rfl) (by kernel_rfl) (by kernel_rfl)) ?_
  intro W base args ds gs before hval0 hW hcnd _
  have hval : ∀ (j : Nat) t v, Tryz.f4.params[j]? = some t → args[j]? = some v → Value.okWide Tryz.prog W .any base t v := hval0
  have hW' := hW
  obtain ⟨p, q, hA0, hV, rfl, hfz, hnd⟩ := hW
  have hA : DataW.TrodAll enc Tryz.prog W 0 (fun _ => true) true Tryz.f4.params.toList args.toList ds p := hA0
  rw [Tryz.params4] at hA hval
  obtain ⟨v0, vs0, d0, ds0, p0, q0, hargs, rfl, rfl, h0, r0⟩ := trodAll_cons hA
  obtain ⟨v1, vs1, d1, ds1, p1, q1, rfl, rfl, rfl, h1, r1⟩ := trodAll_cons r0
  obtain ⟨v2, vs2, d2, ds2, p2, q2, rfl, rfl, rfl, h2, r2⟩ := trodAll_cons r1
  obtain ⟨rfl, rfl, rfl⟩ := trodAll_nil r2
  obtain rfl : args = #[v0, v1, v2] := by cases args; simp_all
  obtain ⟨rfl, rfl⟩ := trodVars_none hV
  have k0 := h0
  have lt0 : ∀ x ∈ p0, x.block < W.heap.size := by obtain ⟨m, hm⟩ := k0; exact DataW.trod_lt m _ _ _ hm
  obtain ⟨c0_0, c0_1, c0_2, y0_0, y0_1, y0_2, m0, rfl, rfl, rfl, hy0_0, hy0_1, hy0_2⟩ := open_agg3 Tryz.underlying51 (by kernel_rfl) (by kernel_rfl) (hval 0 51 v0 rfl rfl) h0
  obtain ⟨P0, e0_0, _, wP0⟩ := DataW.trod_int Tryz.underlying3 hy0_0
  obtain rfl := (List.cons.inj e0_0).1
  obtain ⟨Q0, e0_1, _, wQ0⟩ := DataW.trod_int Tryz.underlying3 hy0_1
  obtain rfl := (List.cons.inj e0_1).1
  obtain ⟨G0, e0_2, _, wG0⟩ := DataW.trod_int Tryz.underlying3 hy0_2
  obtain rfl := (List.cons.inj e0_2).1
  have k1 := h1
  have lt1 : ∀ x ∈ p1, x.block < W.heap.size := by obtain ⟨m, hm⟩ := k1; exact DataW.trod_lt m _ _ _ hm
  have w1 := inD_open (hval 1 52 v1 rfl rfl) h1
  have k2 := h2
  have lt2 : ∀ x ∈ p2, x.block < W.heap.size := by obtain ⟨m, hm⟩ := k2; exact DataW.trod_lt m _ _ _ hm
  have w2 := inP_open (hval 2 53 v2 rfl rfl) h2
  clear hA0 hval0
  refine (walk P0 Q0 G0 _ _ W wP0 wQ0 wG0 w1 w2).mono fun e W' ⟨he, bel⟩ => ?_
  subst he
  exact ⟨_, rfl, _, _, _, [], _, [], hW', trodAll_mk1 (shut_bool Tryz.underlying4 _), (trodAll_cons_mk (Below.trod laidOut (by kernel_rfl) (of_decide_eq_true (by kernel_rfl)) k0 bel lt0) (trodAll_cons_mk (Below.trod laidOut (by kernel_rfl) (of_decide_eq_true (by kernel_rfl)) k1 bel lt1) (trodAll_cons_mk (Below.trod laidOut (by kernel_rfl) (of_decide_eq_true (by kernel_rfl)) k2 bel lt2) trodAll_mk0))), rfl, bel.frame _, fun h => by cases h⟩

theorem over : Rows.fnExactVerifyDealerRow.holds Tryz.pinned (OpenSpec.ofChange Rows.fnExactVerifyDealerSpec) :=
  OpenClaim.holds_of_wide 4 Tryz.f4 rfl rfl rfl rfl rfl rfl rfl ⟨rfl, rfl, rfl, rfl, rfl⟩ rfl rfl rfl rfl rfl (by kernel_rfl) Tryz.func4
    (show joinedFacts Tryz.prog 4 Tryz.f4 Rows.fnExactVerifyDealerSpec Rows.fnExactVerifyDealerRow = true by unfold joinedFacts; rw [Head.make, Head.lifts, Head.enters]; kernel_rfl)
    (of_decide_eq_true (by kernel_rfl)) (by unfold Func.isWrapper; first | (rw [if_pos (by decide +kernel)]; kernel_rfl) | (rw [if_neg (by decide +kernel)]; exact ⟨rfl, rfl⟩))
    (fun os started H enc _ => lifted os started H enc)

/-- The statement. -/
theorem proved : Rows.FnExactVerifyDealerSaid := over
#print axioms proved
end Go.Proofs.YtchlnkdlnfjijaaGreat.fnExactVerifyDealer
