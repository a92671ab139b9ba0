/-
For every group and every further argument the law FnExactCheckKeyGen returns true: the program's CheckKeyGen answers as the reference's does, and leaves its arguments as they were.
No condition.
-/
import Derived.Test.YtchlnkdlnfjijaaRows
import Derived.WalkKit
import Derived.ProofKit
import Derived.OpenShut
import Derived.ShutString
import Derived.ChangeOld
import Derived.Below
import Derived.Lib.SmallJoins
import Derived.Test.YtchlnkdlnfjijaaDkZ
import Derived.Test.YtchlnkdlnfjijaaOpS
import Derived.Deep.RegionHeld3
import Derived.Test.YtchlnkdlnfjijaaFacts
namespace Go.Proofs.Ytchlnkdlnfjijaa.fnExactCheckKeyGen
open Go.Joins Go.ChangeShapes Go.WideShapes Go.ChangeAt Go.RowKit Go.Deep
open Go.ChangeMaps (open_string shut_string)
set_option linter.unusedVariables false

theorem own : ownKnob Try.prog.godebug = none := by kernel_rfl
theorem laidOut : laidOutB Try.prog = true := by kernel_rfl

/-- What the walk is told of a slice of integers that came in: it is nil; or it leads to a row of 'cap' cells that hold the numbers 'zs'. -/
def IsRow (k : IntKind) (w : World) (a : Option Addr) (len cap : Nat) (zs : List Int) : Prop :=
  (a = none ∧ len = 0 ∧ cap = 0 ∧ zs = []) ∨
  ∃ x, a = some x ∧ len ≤ cap ∧ cap ≤ maxLen ∧ zs.length = cap ∧ (∀ i, i < zs.length → w.cell? (x.add i) = some (.int k (zs.getD i 0))) ∧ ∀ n ∈ zs, (Lit.int k n).wf = true

set_option linter.unusedSimpArgs false

/-! ### STEP 1: the walk: the Go text returns true and writes nothing that was there -/
set_option maxRecDepth 100000 in
set_option maxHeartbeats 25600000 in
theorem walk (P0 Q0 G0 : Int) (a1 : Value) (a2 : Value) (a3 : Value) (w : World) (wP0 : (Lit.int .i64 P0).wf = true) (wQ0 : (Lit.int .i64 Q0).wf = true) (wG0 : (Lit.int .i64 G0).wf = true) (w1 : ∃ ds, InDs w.heap.size w a1 ds ∧ ds.length ≤ maxLen ∧ ∀ d ∈ ds, d.c.length ≤ maxLen ∧ d.s.length ≤ maxLen) (w2 : ∃ zss, InS w.heap.size w a2 zss ∧ zss.length ≤ maxLen ∧ ∀ z ∈ zss, z.length ≤ maxLen) (w3 : ∃ q : KgD, InK w.heap.size w a3 q ∧ q.q.length ≤ maxLen ∧ q.c.length ≤ maxLen ∧ q.s.length ≤ maxLen ∧ (Lit.int .i64 q.k).wf = true) :
    Calls Try.prog 10 #[.agg #[.int .i64 P0, .int .i64 Q0, .int .i64 G0], a1, a2, a3] w fun e w' => e = .returned (.bool true) ∧ Below w.heap.size w w' := by
  obtain ⟨dd, hdd, mdd, qdd⟩ := w1
  obtain ⟨vv, hvv, mvv, qvv⟩ := w2
  obtain ⟨kk, hkk, mkk0, mkk1, mkk2, hwkk⟩ := w3
  obtain ⟨jkk0, jkk1, jkk2, jkk3, jkk4, jkk5, rfl, _, _, _⟩ := hkk.shape
  have hal : Below w.heap.size w ((w.alloc (.cells #[.int .i64 P0, .int .i64 Q0, .int .i64 G0] 47)).alloc (.cells #[.slice jkk0 kk.q.length jkk1, .int .i64 kk.k, .slice jkk2 kk.c.length jkk3, .slice jkk4 kk.s.length jkk5] 78)) := bt (ba _ _) (ba _ _)
  have R_0 := Lib.hid ((gr_atS w w.heap.size rfl P0 Q0 G0 47).below (ba _ (.cells #[.slice jkk0 kk.q.length jkk1, .int .i64 kk.k, .slice jkk2 kk.c.length jkk3, .slice jkk4 kk.s.length jkk5] 78)))
  have JKK_0 := Lib.hid (vl_at (w.alloc (.cells #[.int .i64 P0, .int .i64 Q0, .int .i64 G0] 47)) (w.heap.size + 1) (by simp) [.slice jkk0 kk.q.length jkk1, .int .i64 kk.k, .slice jkk2 kk.c.length jkk3, .slice jkk4 kk.s.length jkk5] 78)
  have DD_0 := Lib.hid (hdd.below hal)
  have VV_0 := Lib.hid (hvv.below hal)
  have KK_0 := Lib.hid (hkk.below hal)
  have HB_0 := Lib.hid hal
  clear hal hdd hvv hkk
  have hlf0 : (0 : Int) ≤ 1048576 ∧ (1048576 : Int) ≤ 1048576 := by omega
  by_cases bs0 : 1048576 < ((dd.length + nDs dd : Nat) : Int)
  · have ES0 := Lib.hid (show szV (dd.length + nDs dd : Nat) 1048576 = -1 by unfold szV; rw [if_neg (by omega)])
    go_enter Try.func10, Try.ntmps10
    go_wp2_with fail
    refine (szDs_any DD_0.out hlf0.1 hlf0.2 mdd qdd).mono ?_
    rw [ES0.out]
    rintro e s1 ⟨rfl, hb⟩
    have HB_1 := Lib.hid (bt HB_0.out hb)
    have R_1 := Lib.hid (R_0.out.below hb)
    have JKK_1 := Lib.hid (JKK_0.out.below hb)
    have DD_1 := Lib.hid (DD_0.out.below hb)
    have VV_1 := Lib.hid (VV_0.out.below hb)
    have KK_1 := Lib.hid (KK_0.out.below hb)
    clear hb
    go_wp2
    go_ret
    exact ⟨rfl, HB_1.out⟩
  obtain ⟨lf1, hlq1⟩ : ∃ x : Int, 1048576 - ((dd.length + nDs dd : Nat) : Int) = x := ⟨_, rfl⟩
  have ES0 := Lib.hid (show szV (dd.length + nDs dd : Nat) 1048576 = lf1 by unfold szV; rw [if_pos (by omega)]; omega)
  have hlf1 : 0 ≤ lf1 ∧ lf1 ≤ 1048576 := by omega
  have ldd : dd.length ≤ 1048576 := by omega
  have rdd : nDs dd ≤ 1048576 := by omega
  clear hlq1 bs0
  by_cases bs1 : lf1 < ((vv.length + nS vv : Nat) : Int)
  · have ES1 := Lib.hid (show szV (vv.length + nS vv : Nat) lf1 = -1 by unfold szV; rw [if_neg (by omega)])
    go_enter Try.func10, Try.ntmps10
    go_wp2_with fail
    refine (szDs_any DD_0.out hlf0.1 hlf0.2 mdd qdd).mono ?_
    rw [ES0.out]
    rintro e s1 ⟨rfl, hb⟩
    have HB_1 := Lib.hid (bt HB_0.out hb)
    have R_1 := Lib.hid (R_0.out.below hb)
    have JKK_1 := Lib.hid (JKK_0.out.below hb)
    have DD_1 := Lib.hid (DD_0.out.below hb)
    have VV_1 := Lib.hid (VV_0.out.below hb)
    have KK_1 := Lib.hid (KK_0.out.below hb)
    clear hb
    go_wp2_with fail
    refine (szS_any VV_1.out hlf1.1 hlf1.2 mvv qvv).mono ?_
    rw [ES1.out]
    rintro e s2 ⟨rfl, rfl⟩
    go_wp2
    go_ret
    exact ⟨rfl, HB_1.out⟩
  obtain ⟨lf2, hlq2⟩ : ∃ x : Int, lf1 - ((vv.length + nS vv : Nat) : Int) = x := ⟨_, rfl⟩
  have ES1 := Lib.hid (show szV (vv.length + nS vv : Nat) lf1 = lf2 by unfold szV; rw [if_pos (by omega)]; omega)
  have hlf2 : 0 ≤ lf2 ∧ lf2 ≤ 1048576 := by omega
  have lvv : vv.length ≤ 1048576 := by omega
  have rvv : nS vv ≤ 1048576 := by omega
  clear hlq2 bs1
  by_cases bs2 : lf2 < (kk.n : Int)
  · have ES2 := Lib.hid (show szV kk.n lf2 = -1 by unfold szV; rw [if_neg (by omega)])
    go_enter Try.func10, Try.ntmps10
    go_wp2_with fail
    refine (szDs_any DD_0.out hlf0.1 hlf0.2 mdd qdd).mono ?_
    rw [ES0.out]
    rintro e s1 ⟨rfl, hb⟩
    have HB_1 := Lib.hid (bt HB_0.out hb)
    have R_1 := Lib.hid (R_0.out.below hb)
    have JKK_1 := Lib.hid (JKK_0.out.below hb)
    have DD_1 := Lib.hid (DD_0.out.below hb)
    have VV_1 := Lib.hid (VV_0.out.below hb)
    have KK_1 := Lib.hid (KK_0.out.below hb)
    clear hb
    go_wp2_with fail
    refine (szS_any VV_1.out hlf1.1 hlf1.2 mvv qvv).mono ?_
    rw [ES1.out]
    rintro e s2 ⟨rfl, rfl⟩
    have jkkx0 := JKK_1.out.1 0 _ rfl
    have jkkx1 := JKK_1.out.1 1 _ rfl
    have jkkx2 := JKK_1.out.1 2 _ rfl
    have jkkx3 := JKK_1.out.1 3 _ rfl
    go_wp2_with fail
    refine (szK_any KK_1.out hlf2.1 hlf2.2 mkk0 mkk1 mkk2).mono ?_
    rw [ES2.out]
    rintro e s3 ⟨rfl, hb⟩
    have HB_2 := Lib.hid (bt HB_1.out hb)
    have R_2 := Lib.hid (R_1.out.below hb)
    have JKK_2 := Lib.hid (JKK_1.out.below hb)
    have DD_2 := Lib.hid (DD_1.out.below hb)
    have VV_2 := Lib.hid (VV_1.out.below hb)
    have KK_2 := Lib.hid (KK_1.out.below hb)
    clear hb
    clear jkkx0 jkkx1 jkkx2 jkkx3
    go_wp2
    go_ret
    exact ⟨rfl, HB_2.out⟩
  obtain ⟨lf3, hlq3⟩ : ∃ x : Int, lf2 - (kk.n : Int) = x := ⟨_, rfl⟩
  have ES2 := Lib.hid (show szV kk.n lf2 = lf3 by unfold szV; rw [if_pos (by omega)]; omega)
  have hlf3 : 0 ≤ lf3 ∧ lf3 ≤ 1048576 := by omega
  have lkk : kk.n ≤ 1048576 := by omega
  clear hlq3 bs2
  obtain ⟨k1, hk1⟩ : ∃ k, kcV P0 Q0 G0 dd vv kk = k := ⟨_, rfl⟩
  have K1 := Lib.hid hk1
  clear hk1
  obtain ⟨k2, hk2⟩ : ∃ k, cgB P0 Q0 G0 dd vv = k := ⟨_, rfl⟩
  have K2 := Lib.hid hk2
  clear hk2
  go_enter Try.func10, Try.ntmps10
  go_wp2_with fail
  refine (szDs_any DD_0.out hlf0.1 hlf0.2 mdd qdd).mono ?_
  rw [ES0.out]
  rintro e s1 ⟨rfl, hb⟩
  have HB_1 := Lib.hid (bt HB_0.out hb)
  have R_1 := Lib.hid (R_0.out.below hb)
  have JKK_1 := Lib.hid (JKK_0.out.below hb)
  have DD_1 := Lib.hid (DD_0.out.below hb)
  have VV_1 := Lib.hid (VV_0.out.below hb)
  have KK_1 := Lib.hid (KK_0.out.below hb)
  clear hb
  go_wp2_with fail
  refine (szS_any VV_1.out hlf1.1 hlf1.2 mvv qvv).mono ?_
  rw [ES1.out]
  rintro e s2 ⟨rfl, rfl⟩
  have jkkx0 := JKK_1.out.1 0 _ rfl
  have jkkx1 := JKK_1.out.1 1 _ rfl
  have jkkx2 := JKK_1.out.1 2 _ rfl
  have jkkx3 := JKK_1.out.1 3 _ rfl
  go_wp2_with fail
  refine (szK_any KK_1.out hlf2.1 hlf2.2 mkk0 mkk1 mkk2).mono ?_
  rw [ES2.out]
  rintro e s3 ⟨rfl, hb⟩
  have HB_2 := Lib.hid (bt HB_1.out hb)
  have R_2 := Lib.hid (R_1.out.below hb)
  have JKK_2 := Lib.hid (JKK_1.out.below hb)
  have DD_2 := Lib.hid (DD_1.out.below hb)
  have VV_2 := Lib.hid (VV_1.out.below hb)
  have KK_2 := Lib.hid (KK_1.out.below hb)
  clear hb
  clear jkkx0 jkkx1 jkkx2 jkkx3
  go_wp2_with fail
  have hbd : Below s3.heap.size s3 s3.drew := (Below.refl _ s3).drew
  have HB_s := Lib.hid (bt HB_2.out hbd)
  have R_s := Lib.hid (R_2.out.below hbd)
  have JKK_s := Lib.hid (JKK_2.out.below hbd)
  have DD_s := Lib.hid (DD_2.out.below hbd)
  have VV_s := Lib.hid (VV_2.out.below hbd)
  have KK_s := Lib.hid (KK_2.out.below hbd)
  clear hbd
  refine wp_region_held_drew (S := (fun w' => (w'.cell? ⟨w.heap.size, 0, none⟩ = some (.int .i64 P0) ∧ w'.cell? ⟨w.heap.size, 1, none⟩ = some (.int .i64 Q0) ∧ w'.cell? ⟨w.heap.size, 2, none⟩ = some (.int .i64 G0)) ∧ (w'.cell? ⟨w.heap.size + 1, 0, none⟩ = some (.slice jkk0 kk.q.length jkk1) ∧ w'.cell? ⟨w.heap.size + 1, 1, none⟩ = some (.int .i64 kk.k) ∧ w'.cell? ⟨w.heap.size + 1, 2, none⟩ = some (.slice jkk2 kk.c.length jkk3) ∧ w'.cell? ⟨w.heap.size + 1, 3, none⟩ = some (.slice jkk4 kk.s.length jkk5)))) (by kernel_rfl) (show _ from ⟨⟨R_2.out.1, R_2.out.2.1, R_2.out.2.2⟩, ⟨JKK_2.out.1 0 _ rfl, JKK_2.out.1 1 _ rfl, JKK_2.out.1 2 _ rfl, JKK_2.out.1 3 _ rfl⟩⟩) (fun hHeld => ?_)
  generalize hW0 : s3.drew = Ws at *
  clear hW0
  refine wpAnyH_take (i := 0) (v := ?_) rfl (by kernel_rfl) (by kernel_rfl) (by kernel_rfl) (fun _ _ _ h => h) (Or.inl ⟨by kernel_rfl, ?_⟩) (by assumption) ?_
  rotate_left 1
  · intro w9 hSw
    try dsimp only at hSw
    go_simp
    try with_reducible rfl
  try simp only [Act.put, List.getElem_toArray, List.getElem_cons_succ, List.getElem_cons_zero, List.setIfInBounds_toArray, List.set_cons_zero, List.set_cons_succ]
  refine wpAnyH_take (i := 2) (v := ?_) rfl (by kernel_rfl) (by kernel_rfl) (by kernel_rfl) (fun _ _ _ h => h) (Or.inl ⟨by kernel_rfl, ?_⟩) (by assumption) ?_
  rotate_left 1
  · intro w9 hSw
    try dsimp only at hSw
    go_simp
    try with_reducible rfl
  try simp only [Act.put, List.getElem_toArray, List.getElem_cons_succ, List.getElem_cons_zero, List.setIfInBounds_toArray, List.set_cons_zero, List.set_cons_succ]
  refine wpAnyH_take (i := 4) (v := ?_) rfl (by kernel_rfl) (by kernel_rfl) (by kernel_rfl) (fun _ _ _ h => h) (Or.inl ⟨by kernel_rfl, ?_⟩) (by assumption) ?_
  rotate_left 1
  · intro w9 hSw
    try dsimp only at hSw
    go_simp
    try with_reducible rfl
  try simp only [Act.put, List.getElem_toArray, List.getElem_cons_succ, List.getElem_cons_zero, List.setIfInBounds_toArray, List.set_cons_zero, List.set_cons_succ]
  refine wpAnyH_take (i := 6) (v := ?_) rfl (by kernel_rfl) (by kernel_rfl) (by kernel_rfl) (fun _ _ _ h => h) (Or.inl ⟨by kernel_rfl, ?_⟩) (by assumption) ?_
  rotate_left 1
  · intro w9 hSw
    try dsimp only at hSw
    go_simp
    try with_reducible rfl
  try simp only [Act.put, List.getElem_toArray, List.getElem_cons_succ, List.getElem_cons_zero, List.setIfInBounds_toArray, List.set_cons_zero, List.set_cons_succ]
  refine wpAnyH_ready (rs := [1]) (by kernel_rfl) (by simp) ?_
  refine AllReadyH.cons rfl (fun K hK => ?_) (AllReadyH.nil)
  go_simp
  go_at_call 26
  refine (toGroup_any _ _ _ _).mono ?_
  rintro e' Wsb ⟨rfl, hb⟩
  have HB_sb := Lib.hid (bt HB_s.out hb)
  have R_sb := Lib.hid (R_s.out.below hb)
  have JKK_sb := Lib.hid (JKK_s.out.below hb)
  have DD_sb := Lib.hid (DD_s.out.below hb)
  have VV_sb := Lib.hid (VV_s.out.below hb)
  have KK_sb := Lib.hid (KK_s.out.below hb)
  clear hb
  go_wp2_with fail
  refine hK.out _ _ (show _ from ⟨⟨R_sb.out.1, R_sb.out.2.1, R_sb.out.2.2⟩, ⟨JKK_sb.out.1 0 _ rfl, JKK_sb.out.1 1 _ rfl, JKK_sb.out.1 2 _ rfl, JKK_sb.out.1 3 _ rfl⟩⟩) (fun hHeld => ?_)
  clear hK K
  try simp only [Act.put, List.getElem_toArray, List.getElem_cons_succ, List.getElem_cons_zero, List.setIfInBounds_toArray, List.set_cons_zero, List.set_cons_succ]
  refine wpAnyH_ready (rs := [3]) (by kernel_rfl) (by simp) ?_
  refine AllReadyH.cons rfl (fun K hK => ?_) (AllReadyH.nil)
  go_simp
  go_at_call 27
  refine (toDs_any DD_sb.out (by omega) (by omega)).mono ?_
  rintro e' Wsbd ⟨ydd, rfl, ho, hb⟩
  have HB_sbd := Lib.hid (bt HB_sb.out hb)
  have R_sbd := Lib.hid (R_sb.out.below hb)
  have JKK_sbd := Lib.hid (JKK_sb.out.below hb)
  have DD_sbd := Lib.hid (DD_sb.out.below hb)
  have VV_sbd := Lib.hid (VV_sb.out.below hb)
  have KK_sbd := Lib.hid (KK_sb.out.below hb)
  have CDD_sbd := Lib.hid (ho.toIn)
  clear ho
  clear hb
  go_wp2_with fail
  refine hK.out _ _ (show _ from ⟨⟨R_sbd.out.1, R_sbd.out.2.1, R_sbd.out.2.2⟩, ⟨JKK_sbd.out.1 0 _ rfl, JKK_sbd.out.1 1 _ rfl, JKK_sbd.out.1 2 _ rfl, JKK_sbd.out.1 3 _ rfl⟩⟩) (fun hHeld => ?_)
  clear hK K
  try simp only [Act.put, List.getElem_toArray, List.getElem_cons_succ, List.getElem_cons_zero, List.setIfInBounds_toArray, List.set_cons_zero, List.set_cons_succ]
  refine wpAnyH_ready (rs := [5]) (by kernel_rfl) (by simp) ?_
  refine AllReadyH.cons rfl (fun K hK => ?_) (AllReadyH.nil)
  go_simp
  go_at_call 39
  refine (toS_any VV_sbd.out (by omega) (by omega)).mono ?_
  rintro e' Wsbdf ⟨yvv, rfl, ho, hb⟩
  have HB_sbdf := Lib.hid (bt HB_sbd.out hb)
  have R_sbdf := Lib.hid (R_sbd.out.below hb)
  have JKK_sbdf := Lib.hid (JKK_sbd.out.below hb)
  have DD_sbdf := Lib.hid (DD_sbd.out.below hb)
  have VV_sbdf := Lib.hid (VV_sbd.out.below hb)
  have KK_sbdf := Lib.hid (KK_sbd.out.below hb)
  have CDD_sbdf := Lib.hid (CDD_sbd.out.below hb)
  have CVV_sbdf := Lib.hid (ho.toIn)
  clear ho
  clear hb
  go_wp2_with fail
  refine hK.out _ _ (show _ from ⟨⟨R_sbdf.out.1, R_sbdf.out.2.1, R_sbdf.out.2.2⟩, ⟨JKK_sbdf.out.1 0 _ rfl, JKK_sbdf.out.1 1 _ rfl, JKK_sbdf.out.1 2 _ rfl, JKK_sbdf.out.1 3 _ rfl⟩⟩) (fun hHeld => ?_)
  clear hK K
  try simp only [Act.put, List.getElem_toArray, List.getElem_cons_succ, List.getElem_cons_zero, List.setIfInBounds_toArray, List.set_cons_zero, List.set_cons_succ]
  refine wpAnyH_ready (rs := [7]) (by kernel_rfl) (by simp) ?_
  refine AllReadyH.cons rfl (fun K hK => ?_) (AllReadyH.nil)
  go_simp
  go_at_call 58
  refine (toK_any KK_sbdf.out (by omega)).mono ?_
  rintro e' Wsbdfh ⟨ykk, rfl, ho, hb⟩
  have HB_sbdfh := Lib.hid (bt HB_sbdf.out hb)
  have R_sbdfh := Lib.hid (R_sbdf.out.below hb)
  have JKK_sbdfh := Lib.hid (JKK_sbdf.out.below hb)
  have DD_sbdfh := Lib.hid (DD_sbdf.out.below hb)
  have VV_sbdfh := Lib.hid (VV_sbdf.out.below hb)
  have KK_sbdfh := Lib.hid (KK_sbdf.out.below hb)
  have CDD_sbdfh := Lib.hid (CDD_sbdf.out.below hb)
  have CVV_sbdfh := Lib.hid (CVV_sbdf.out.below hb)
  have CKK_sbdfh := Lib.hid (ho.toIn)
  clear ho
  clear hb
  go_wp2_with fail
  refine hK.out _ _ (show _ from ⟨⟨R_sbdfh.out.1, R_sbdfh.out.2.1, R_sbdfh.out.2.2⟩, ⟨JKK_sbdfh.out.1 0 _ rfl, JKK_sbdfh.out.1 1 _ rfl, JKK_sbdfh.out.1 2 _ rfl, JKK_sbdfh.out.1 3 _ rfl⟩⟩) (fun hHeld => ?_)
  clear hK K
  try simp only [Act.put, List.getElem_toArray, List.getElem_cons_succ, List.getElem_cons_zero, List.setIfInBounds_toArray, List.set_cons_zero, List.set_cons_succ]
  refine wpAnyH_ready (rs := [8]) (by kernel_rfl) (by simp) ?_
  refine AllReadyH.cons rfl (fun K hK => ?_) (AllReadyH.nil)
  go_simp
  go_at_call 18
  refine (sCheckKeyGen_any P0 Q0 G0 (by omega) (by omega) (by omega) (by omega) lkk CDD_sbdfh.out CVV_sbdfh.out CKK_sbdfh.out).mono ?_
  rw [K1.out, K2.out]
  rintro e' Wsbdfhi ⟨rfl, hb⟩
  have HB_sbdfhi := Lib.hid (bt HB_sbdfh.out hb)
  have R_sbdfhi := Lib.hid (R_sbdfh.out.below hb)
  have JKK_sbdfhi := Lib.hid (JKK_sbdfh.out.below hb)
  have DD_sbdfhi := Lib.hid (DD_sbdfh.out.below hb)
  have VV_sbdfhi := Lib.hid (VV_sbdfh.out.below hb)
  have KK_sbdfhi := Lib.hid (KK_sbdfh.out.below hb)
  have CDD_sbdfhi := Lib.hid (CDD_sbdfh.out.below hb)
  have CVV_sbdfhi := Lib.hid (CVV_sbdfh.out.below hb)
  have CKK_sbdfhi := Lib.hid (CKK_sbdfh.out.below hb)
  clear hb
  go_wp2_with fail
  refine hK.out _ _ (show _ from ⟨⟨R_sbdfhi.out.1, R_sbdfhi.out.2.1, R_sbdfhi.out.2.2⟩, ⟨JKK_sbdfhi.out.1 0 _ rfl, JKK_sbdfhi.out.1 1 _ rfl, JKK_sbdfhi.out.1 2 _ rfl, JKK_sbdfhi.out.1 3 _ rfl⟩⟩) (fun hHeld => ?_)
  clear hK K
  try simp only [Act.put, List.getElem_toArray, List.getElem_cons_succ, List.getElem_cons_zero, List.setIfInBounds_toArray, List.set_cons_zero, List.set_cons_succ]
  refine wpAnyH_take (i := 9) (v := ?_) rfl (by kernel_rfl) (by kernel_rfl) (by kernel_rfl) (fun _ _ _ h => h) (Or.inl ⟨by kernel_rfl, ?_⟩) (by assumption) ?_
  rotate_left 1
  · intro w9 hSw
    try dsimp only at hSw
    go_simp
    try with_reducible rfl
  try simp only [Act.put, List.getElem_toArray, List.getElem_cons_succ, List.getElem_cons_zero, List.setIfInBounds_toArray, List.set_cons_zero, List.set_cons_succ]
  refine wpAnyH_take (i := 10) (v := ?_) rfl (by kernel_rfl) (by kernel_rfl) (by kernel_rfl) (fun _ _ _ h => h) (Or.inl ⟨by kernel_rfl, ?_⟩) (by assumption) ?_
  rotate_left 1
  · intro w9 hSw
    try dsimp only at hSw
    go_simp
    try with_reducible rfl
  try simp only [Act.put, List.getElem_toArray, List.getElem_cons_succ, List.getElem_cons_zero, List.setIfInBounds_toArray, List.set_cons_zero, List.set_cons_succ]
  refine wpAnyH_take (i := 11) (v := ?_) rfl (by kernel_rfl) (by kernel_rfl) (by kernel_rfl) (fun _ _ _ h => h) (Or.inl ⟨by kernel_rfl, ?_⟩) (by assumption) ?_
  rotate_left 1
  · intro w9 hSw
    try dsimp only at hSw
    go_simp
    try with_reducible rfl
  try simp only [Act.put, List.getElem_toArray, List.getElem_cons_succ, List.getElem_cons_zero, List.setIfInBounds_toArray, List.set_cons_zero, List.set_cons_succ]
  refine wpAnyH_take (i := 12) (v := ?_) rfl (by kernel_rfl) (by kernel_rfl) (by kernel_rfl) (fun _ _ _ h => h) (Or.inl ⟨by kernel_rfl, ?_⟩) (by assumption) ?_
  rotate_left 1
  · intro w9 hSw
    try dsimp only at hSw
    go_simp
    try with_reducible rfl
  try simp only [Act.put, List.getElem_toArray, List.getElem_cons_succ, List.getElem_cons_zero, List.setIfInBounds_toArray, List.set_cons_zero, List.set_cons_succ]
  refine wpAnyH_take (i := 13) (v := ?_) rfl (by kernel_rfl) (by kernel_rfl) (by kernel_rfl) (fun _ _ _ h => h) (Or.inl ⟨by kernel_rfl, ?_⟩) (by assumption) ?_
  rotate_left 1
  · intro w9 hSw
    try dsimp only at hSw
    go_simp
    try with_reducible rfl
  try simp only [Act.put, List.getElem_toArray, List.getElem_cons_succ, List.getElem_cons_zero, List.setIfInBounds_toArray, List.set_cons_zero, List.set_cons_succ]
  refine wpAnyH_done (by kernel_rfl) ?_ _
  have HB_3 := Lib.hid HB_sbdfhi.out
  have R_3 := Lib.hid R_sbdfhi.out
  have JKK_3 := Lib.hid JKK_sbdfhi.out
  have DD_3 := Lib.hid DD_sbdfhi.out
  have VV_3 := Lib.hid VV_sbdfhi.out
  have KK_3 := Lib.hid KK_sbdfhi.out
  go_wp2_with fail
  refine (toDs_any DD_3.out (by omega) (by omega)).mono ?_
  rintro e u101 ⟨xdd, rfl, ho, hb⟩
  have HB_4 := Lib.hid (bt HB_3.out hb)
  have R_4 := Lib.hid (R_3.out.below hb)
  have JKK_4 := Lib.hid (JKK_3.out.below hb)
  have DD_4 := Lib.hid (DD_3.out.below hb)
  have VV_4 := Lib.hid (VV_3.out.below hb)
  have KK_4 := Lib.hid (KK_3.out.below hb)
  have XDD_4 := Lib.hid (ho.toIn)
  clear hb HB_3 R_3 JKK_3 DD_3 VV_3 KK_3
  clear ho
  go_wp2_with fail
  refine (toS_any VV_4.out (by omega) (by omega)).mono ?_
  rintro e u102 ⟨xvv, rfl, ho, hb⟩
  have HB_5 := Lib.hid (bt HB_4.out hb)
  have R_5 := Lib.hid (R_4.out.below hb)
  have JKK_5 := Lib.hid (JKK_4.out.below hb)
  have DD_5 := Lib.hid (DD_4.out.below hb)
  have VV_5 := Lib.hid (VV_4.out.below hb)
  have KK_5 := Lib.hid (KK_4.out.below hb)
  have XDD_5 := Lib.hid (XDD_4.out.below hb)
  have XVV_5 := Lib.hid (ho.toIn)
  clear hb HB_4 R_4 JKK_4 DD_4 VV_4 KK_4 XDD_4
  clear ho
  have jkkx0 := JKK_5.out.1 0 _ rfl
  have jkkx1 := JKK_5.out.1 1 _ rfl
  have jkkx2 := JKK_5.out.1 2 _ rfl
  have jkkx3 := JKK_5.out.1 3 _ rfl
  go_wp2_with fail
  refine (toK_any KK_5.out (by omega)).mono ?_
  rintro e u103 ⟨yykk, rfl, ho, hb1⟩
  obtain ⟨pkk0, pkk1, pkk2, pkk3, pkk4, pkk5, hsh, _, _, _⟩ := ho.toIn.shape
  subst hsh
  clear jkkx0 jkkx1 jkkx2 jkkx3
  have hba := ba u103 (.cells #[.slice pkk0 kk.q.length pkk1, .int .i64 kk.k, .slice pkk2 kk.c.length pkk3, .slice pkk4 kk.s.length pkk5] 31)
  have hb := bt hb1 hba
  have HB_6 := Lib.hid (bt HB_5.out hb)
  have R_6 := Lib.hid (R_5.out.below hb)
  have JKK_6 := Lib.hid (JKK_5.out.below hb)
  have DD_6 := Lib.hid (DD_5.out.below hb)
  have VV_6 := Lib.hid (VV_5.out.below hb)
  have KK_6 := Lib.hid (KK_5.out.below hb)
  have XDD_6 := Lib.hid (XDD_5.out.below hb)
  have XVV_6 := Lib.hid (XVV_5.out.below hb)
  have KKK_6 := Lib.hid (vl_at u103 (u103.heap.size) rfl [.slice pkk0 kk.q.length pkk1, .int .i64 kk.k, .slice pkk2 kk.c.length pkk3, .slice pkk4 kk.s.length pkk5] 31)
  have XKK_6 := Lib.hid (ho.toIn.below hba)
  clear hb HB_5 R_5 JKK_5 DD_5 VV_5 KK_5 XDD_5 XVV_5
  clear ho hb1 hba
  have kkkx0 := KKK_6.out.1 0 _ rfl
  have kkkx1 := KKK_6.out.1 1 _ rfl
  have kkkx2 := KKK_6.out.1 2 _ rfl
  have kkkx3 := KKK_6.out.1 3 _ rfl
  go_wp2_with fail
  clear kkkx0 kkkx1 kkkx2 kkkx3
  generalize hW9 : (u103.alloc (.cells #[.slice pkk0 kk.q.length pkk1, .int .i64 kk.k, .slice pkk2 kk.c.length pkk3, .slice pkk4 kk.s.length pkk5] 31)) = u9 at *
  clear hW9
  go_wp2_with fail
  have hbd : Below u9.heap.size u9 u9.drew := (Below.refl _ u9).drew
  have HB_s := Lib.hid (bt HB_6.out hbd)
  have R_s := Lib.hid (R_6.out.below hbd)
  have JKK_s := Lib.hid (JKK_6.out.below hbd)
  have DD_s := Lib.hid (DD_6.out.below hbd)
  have VV_s := Lib.hid (VV_6.out.below hbd)
  have KK_s := Lib.hid (KK_6.out.below hbd)
  have XDD_s := Lib.hid (XDD_6.out.below hbd)
  have XVV_s := Lib.hid (XVV_6.out.below hbd)
  have KKK_s := Lib.hid (KKK_6.out.below hbd)
  have XKK_s := Lib.hid (XKK_6.out.below hbd)
  clear hbd
  refine wp_region_held_drew (S := (fun w' => (w'.cell? ⟨w.heap.size, 0, none⟩ = some (.int .i64 P0) ∧ w'.cell? ⟨w.heap.size, 1, none⟩ = some (.int .i64 Q0) ∧ w'.cell? ⟨w.heap.size, 2, none⟩ = some (.int .i64 G0)) ∧ (w'.cell? ⟨u103.heap.size, 0, none⟩ = some (.slice pkk0 kk.q.length pkk1) ∧ w'.cell? ⟨u103.heap.size, 1, none⟩ = some (.int .i64 kk.k) ∧ w'.cell? ⟨u103.heap.size, 2, none⟩ = some (.slice pkk2 kk.c.length pkk3) ∧ w'.cell? ⟨u103.heap.size, 3, none⟩ = some (.slice pkk4 kk.s.length pkk5)))) (by kernel_rfl) (show _ from ⟨⟨R_6.out.1, R_6.out.2.1, R_6.out.2.2⟩, ⟨KKK_6.out.1 0 _ rfl, KKK_6.out.1 1 _ rfl, KKK_6.out.1 2 _ rfl, KKK_6.out.1 3 _ rfl⟩⟩) (fun hHeld => ?_)
  generalize hW0 : u9.drew = Ws at *
  clear hW0
  refine wpAnyH_take (i := 0) (v := ?_) rfl (by kernel_rfl) (by kernel_rfl) (by kernel_rfl) (fun _ _ _ h => h) (Or.inl ⟨by kernel_rfl, ?_⟩) (by assumption) ?_
  rotate_left 1
  · intro w9 hSw
    try dsimp only at hSw
    go_simp
    try with_reducible rfl
  try simp only [Act.put, List.getElem_toArray, List.getElem_cons_succ, List.getElem_cons_zero, List.setIfInBounds_toArray, List.set_cons_zero, List.set_cons_succ]
  refine wpAnyH_take (i := 2) (v := ?_) rfl (by kernel_rfl) (by kernel_rfl) (by kernel_rfl) (fun _ _ _ h => h) (Or.inl ⟨by kernel_rfl, ?_⟩) (by assumption) ?_
  rotate_left 1
  · intro w9 hSw
    try dsimp only at hSw
    go_simp
    try with_reducible rfl
  try simp only [Act.put, List.getElem_toArray, List.getElem_cons_succ, List.getElem_cons_zero, List.setIfInBounds_toArray, List.set_cons_zero, List.set_cons_succ]
  refine wpAnyH_take (i := 3) (v := ?_) rfl (by kernel_rfl) (by kernel_rfl) (by kernel_rfl) (fun _ _ _ h => h) (Or.inl ⟨by kernel_rfl, ?_⟩) (by assumption) ?_
  rotate_left 1
  · intro w9 hSw
    try dsimp only at hSw
    go_simp
    try with_reducible rfl
  try simp only [Act.put, List.getElem_toArray, List.getElem_cons_succ, List.getElem_cons_zero, List.setIfInBounds_toArray, List.set_cons_zero, List.set_cons_succ]
  refine wpAnyH_take (i := 4) (v := ?_) rfl (by kernel_rfl) (by kernel_rfl) (by kernel_rfl) (fun _ _ _ h => h) (Or.inl ⟨by kernel_rfl, ?_⟩) (by assumption) ?_
  rotate_left 1
  · intro w9 hSw
    try dsimp only at hSw
    go_simp
    try with_reducible rfl
  try simp only [Act.put, List.getElem_toArray, List.getElem_cons_succ, List.getElem_cons_zero, List.setIfInBounds_toArray, List.set_cons_zero, List.set_cons_succ]
  refine wpAnyH_ready (rs := [1]) (by kernel_rfl) (by simp) ?_
  refine AllReadyH.cons rfl (fun K hK => ?_) (AllReadyH.nil)
  go_simp
  go_at_call 26
  refine (toGroup_any _ _ _ _).mono ?_
  rintro e' Wsb ⟨rfl, hb⟩
  have HB_sb := Lib.hid (bt HB_s.out hb)
  have R_sb := Lib.hid (R_s.out.below hb)
  have JKK_sb := Lib.hid (JKK_s.out.below hb)
  have DD_sb := Lib.hid (DD_s.out.below hb)
  have VV_sb := Lib.hid (VV_s.out.below hb)
  have KK_sb := Lib.hid (KK_s.out.below hb)
  have XDD_sb := Lib.hid (XDD_s.out.below hb)
  have XVV_sb := Lib.hid (XVV_s.out.below hb)
  have KKK_sb := Lib.hid (KKK_s.out.below hb)
  have XKK_sb := Lib.hid (XKK_s.out.below hb)
  clear hb
  go_wp2_with fail
  refine hK.out _ _ (show _ from ⟨⟨R_sb.out.1, R_sb.out.2.1, R_sb.out.2.2⟩, ⟨KKK_sb.out.1 0 _ rfl, KKK_sb.out.1 1 _ rfl, KKK_sb.out.1 2 _ rfl, KKK_sb.out.1 3 _ rfl⟩⟩) (fun hHeld => ?_)
  clear hK K
  try simp only [Act.put, List.getElem_toArray, List.getElem_cons_succ, List.getElem_cons_zero, List.setIfInBounds_toArray, List.set_cons_zero, List.set_cons_succ]
  refine wpAnyH_ready (rs := [5]) (by kernel_rfl) (by simp) ?_
  refine AllReadyH.cons rfl (fun K hK => ?_) (AllReadyH.nil)
  go_simp
  go_at_call 17
  refine (checkKeyGen_any P0 Q0 G0 (by omega) (by omega) (by omega) (by omega) lkk XDD_sb.out XVV_sb.out XKK_sb.out).mono ?_
  rw [K1.out, K2.out]
  rintro e' Wsbf ⟨rfl, hb⟩
  have HB_sbf := Lib.hid (bt HB_sb.out hb)
  have R_sbf := Lib.hid (R_sb.out.below hb)
  have JKK_sbf := Lib.hid (JKK_sb.out.below hb)
  have DD_sbf := Lib.hid (DD_sb.out.below hb)
  have VV_sbf := Lib.hid (VV_sb.out.below hb)
  have KK_sbf := Lib.hid (KK_sb.out.below hb)
  have XDD_sbf := Lib.hid (XDD_sb.out.below hb)
  have XVV_sbf := Lib.hid (XVV_sb.out.below hb)
  have KKK_sbf := Lib.hid (KKK_sb.out.below hb)
  have XKK_sbf := Lib.hid (XKK_sb.out.below hb)
  clear hb
  go_wp2_with fail
  refine hK.out _ _ (show _ from ⟨⟨R_sbf.out.1, R_sbf.out.2.1, R_sbf.out.2.2⟩, ⟨KKK_sbf.out.1 0 _ rfl, KKK_sbf.out.1 1 _ rfl, KKK_sbf.out.1 2 _ rfl, KKK_sbf.out.1 3 _ rfl⟩⟩) (fun hHeld => ?_)
  clear hK K
  try simp only [Act.put, List.getElem_toArray, List.getElem_cons_succ, List.getElem_cons_zero, List.setIfInBounds_toArray, List.set_cons_zero, List.set_cons_succ]
  refine wpAnyH_take (i := 6) (v := ?_) rfl (by kernel_rfl) (by kernel_rfl) (by kernel_rfl) (fun _ _ _ h => h) (Or.inl ⟨by kernel_rfl, ?_⟩) (by assumption) ?_
  rotate_left 1
  · intro w9 hSw
    try dsimp only at hSw
    go_simp
    try with_reducible rfl
  try simp only [Act.put, List.getElem_toArray, List.getElem_cons_succ, List.getElem_cons_zero, List.setIfInBounds_toArray, List.set_cons_zero, List.set_cons_succ]
  refine wpAnyH_take (i := 7) (v := ?_) rfl (by kernel_rfl) (by kernel_rfl) (by kernel_rfl) (fun _ _ _ h => h) (Or.inl ⟨by kernel_rfl, ?_⟩) (by assumption) ?_
  rotate_left 1
  · intro w9 hSw
    try dsimp only at hSw
    go_simp
    try with_reducible rfl
  try simp only [Act.put, List.getElem_toArray, List.getElem_cons_succ, List.getElem_cons_zero, List.setIfInBounds_toArray, List.set_cons_zero, List.set_cons_succ]
  refine wpAnyH_take (i := 8) (v := ?_) rfl (by kernel_rfl) (by kernel_rfl) (by kernel_rfl) (fun _ _ _ h => h) (Or.inl ⟨by kernel_rfl, ?_⟩) (by assumption) ?_
  rotate_left 1
  · intro w9 hSw
    try dsimp only at hSw
    go_simp
    try with_reducible rfl
  try simp only [Act.put, List.getElem_toArray, List.getElem_cons_succ, List.getElem_cons_zero, List.setIfInBounds_toArray, List.set_cons_zero, List.set_cons_succ]
  refine wpAnyH_take (i := 9) (v := ?_) rfl (by kernel_rfl) (by kernel_rfl) (by kernel_rfl) (fun _ _ _ h => h) (Or.inl ⟨by kernel_rfl, ?_⟩) (by assumption) ?_
  rotate_left 1
  · intro w9 hSw
    try dsimp only at hSw
    go_simp
    try with_reducible rfl
  try simp only [Act.put, List.getElem_toArray, List.getElem_cons_succ, List.getElem_cons_zero, List.setIfInBounds_toArray, List.set_cons_zero, List.set_cons_succ]
  refine wpAnyH_take (i := 10) (v := ?_) rfl (by kernel_rfl) (by kernel_rfl) (by kernel_rfl) (fun _ _ _ h => h) (Or.inl ⟨by kernel_rfl, ?_⟩) (by assumption) ?_
  rotate_left 1
  · intro w9 hSw
    try dsimp only at hSw
    go_simp
    try with_reducible rfl
  try simp only [Act.put, List.getElem_toArray, List.getElem_cons_succ, List.getElem_cons_zero, List.setIfInBounds_toArray, List.set_cons_zero, List.set_cons_succ]
  refine wpAnyH_done (by kernel_rfl) ?_ _
  have HB_7 := Lib.hid HB_sbf.out
  have R_7 := Lib.hid R_sbf.out
  have JKK_7 := Lib.hid JKK_sbf.out
  have DD_7 := Lib.hid DD_sbf.out
  have VV_7 := Lib.hid VV_sbf.out
  have KK_7 := Lib.hid KK_sbf.out
  have XDD_7 := Lib.hid XDD_sbf.out
  have XVV_7 := Lib.hid XVV_sbf.out
  have KKK_7 := Lib.hid KKK_sbf.out
  have XKK_7 := Lib.hid XKK_sbf.out
  go_wp2_with fail
  refine (toDs_any DD_7.out (by omega) (by omega)).mono ?_
  rintro e u104 ⟨rdd, rfl, ho, hb⟩
  have HB_8 := Lib.hid (bt HB_7.out hb)
  have R_8 := Lib.hid (R_7.out.below hb)
  have JKK_8 := Lib.hid (JKK_7.out.below hb)
  have DD_8 := Lib.hid (DD_7.out.below hb)
  have VV_8 := Lib.hid (VV_7.out.below hb)
  have KK_8 := Lib.hid (KK_7.out.below hb)
  have XDD_8 := Lib.hid (XDD_7.out.below hb)
  have XVV_8 := Lib.hid (XVV_7.out.below hb)
  have KKK_8 := Lib.hid (KKK_7.out.below hb)
  have XKK_8 := Lib.hid (XKK_7.out.below hb)
  have CI_8 := Lib.hid (ho.toIn)
  clear hb HB_7 R_7 JKK_7 DD_7 VV_7 KK_7 XDD_7 XVV_7 KKK_7 XKK_7
  clear ho
  go_wp2_with fail
  refine (eqDs_any XDD_8.out CI_8.out (by omega) (by omega)).mono ?_
  rintro e u105 ⟨rfl, hb⟩
  have HB_9 := Lib.hid (bt HB_8.out hb)
  have R_9 := Lib.hid (R_8.out.below hb)
  have JKK_9 := Lib.hid (JKK_8.out.below hb)
  have DD_9 := Lib.hid (DD_8.out.below hb)
  have VV_9 := Lib.hid (VV_8.out.below hb)
  have KK_9 := Lib.hid (KK_8.out.below hb)
  have XDD_9 := Lib.hid (XDD_8.out.below hb)
  have XVV_9 := Lib.hid (XVV_8.out.below hb)
  have KKK_9 := Lib.hid (KKK_8.out.below hb)
  have XKK_9 := Lib.hid (XKK_8.out.below hb)
  clear hb HB_8 R_8 JKK_8 DD_8 VV_8 KK_8 XDD_8 XVV_8 KKK_8 XKK_8 CI_8
  go_wp2_with fail
  refine (toS_any VV_9.out (by omega) (by omega)).mono ?_
  rintro e u106 ⟨rvv, rfl, ho, hb⟩
  have HB_10 := Lib.hid (bt HB_9.out hb)
  have R_10 := Lib.hid (R_9.out.below hb)
  have JKK_10 := Lib.hid (JKK_9.out.below hb)
  have DD_10 := Lib.hid (DD_9.out.below hb)
  have VV_10 := Lib.hid (VV_9.out.below hb)
  have KK_10 := Lib.hid (KK_9.out.below hb)
  have XDD_10 := Lib.hid (XDD_9.out.below hb)
  have XVV_10 := Lib.hid (XVV_9.out.below hb)
  have KKK_10 := Lib.hid (KKK_9.out.below hb)
  have XKK_10 := Lib.hid (XKK_9.out.below hb)
  have CI_10 := Lib.hid (ho.toIn)
  clear hb HB_9 R_9 JKK_9 DD_9 VV_9 KK_9 XDD_9 XVV_9 KKK_9 XKK_9
  clear ho
  go_wp2_with fail
  refine (eqS_any XVV_10.out CI_10.out (by omega) (by omega)).mono ?_
  rintro e u107 ⟨rfl, hb⟩
  have HB_11 := Lib.hid (bt HB_10.out hb)
  have R_11 := Lib.hid (R_10.out.below hb)
  have JKK_11 := Lib.hid (JKK_10.out.below hb)
  have DD_11 := Lib.hid (DD_10.out.below hb)
  have VV_11 := Lib.hid (VV_10.out.below hb)
  have KK_11 := Lib.hid (KK_10.out.below hb)
  have XDD_11 := Lib.hid (XDD_10.out.below hb)
  have XVV_11 := Lib.hid (XVV_10.out.below hb)
  have KKK_11 := Lib.hid (KKK_10.out.below hb)
  have XKK_11 := Lib.hid (XKK_10.out.below hb)
  clear hb HB_10 R_10 JKK_10 DD_10 VV_10 KK_10 XDD_10 XVV_10 KKK_10 XKK_10 CI_10
  go_wp2_with fail
  have hbd : Below u107.heap.size u107 u107.drew := (Below.refl _ u107).drew
  have HB_s := Lib.hid (bt HB_11.out hbd)
  have R_s := Lib.hid (R_11.out.below hbd)
  have JKK_s := Lib.hid (JKK_11.out.below hbd)
  have DD_s := Lib.hid (DD_11.out.below hbd)
  have VV_s := Lib.hid (VV_11.out.below hbd)
  have KK_s := Lib.hid (KK_11.out.below hbd)
  have XDD_s := Lib.hid (XDD_11.out.below hbd)
  have XVV_s := Lib.hid (XVV_11.out.below hbd)
  have KKK_s := Lib.hid (KKK_11.out.below hbd)
  have XKK_s := Lib.hid (XKK_11.out.below hbd)
  clear hbd
  refine wp_region_held_drew (S := (fun w' => (w'.cell? ⟨u103.heap.size, 0, none⟩ = some (.slice pkk0 kk.q.length pkk1) ∧ w'.cell? ⟨u103.heap.size, 1, none⟩ = some (.int .i64 kk.k) ∧ w'.cell? ⟨u103.heap.size, 2, none⟩ = some (.slice pkk2 kk.c.length pkk3) ∧ w'.cell? ⟨u103.heap.size, 3, none⟩ = some (.slice pkk4 kk.s.length pkk5)) ∧ (w'.cell? ⟨w.heap.size + 1, 0, none⟩ = some (.slice jkk0 kk.q.length jkk1) ∧ w'.cell? ⟨w.heap.size + 1, 1, none⟩ = some (.int .i64 kk.k) ∧ w'.cell? ⟨w.heap.size + 1, 2, none⟩ = some (.slice jkk2 kk.c.length jkk3) ∧ w'.cell? ⟨w.heap.size + 1, 3, none⟩ = some (.slice jkk4 kk.s.length jkk5)))) (by kernel_rfl) (show _ from ⟨⟨KKK_11.out.1 0 _ rfl, KKK_11.out.1 1 _ rfl, KKK_11.out.1 2 _ rfl, KKK_11.out.1 3 _ rfl⟩, ⟨JKK_11.out.1 0 _ rfl, JKK_11.out.1 1 _ rfl, JKK_11.out.1 2 _ rfl, JKK_11.out.1 3 _ rfl⟩⟩) (fun hHeld => ?_)
  generalize hW0 : u107.drew = Ws at *
  clear hW0
  refine wpAnyH_take (i := 0) (v := ?_) rfl (by kernel_rfl) (by kernel_rfl) (by kernel_rfl) (fun _ _ _ h => h) (Or.inl ⟨by kernel_rfl, ?_⟩) (by assumption) ?_
  rotate_left 1
  · intro w9 hSw
    try dsimp only at hSw
    go_simp
    try with_reducible rfl
  try simp only [Act.put, List.getElem_toArray, List.getElem_cons_succ, List.getElem_cons_zero, List.setIfInBounds_toArray, List.set_cons_zero, List.set_cons_succ]
  refine wpAnyH_take (i := 1) (v := ?_) rfl (by kernel_rfl) (by kernel_rfl) (by kernel_rfl) (fun _ _ _ h => h) (Or.inl ⟨by kernel_rfl, ?_⟩) (by assumption) ?_
  rotate_left 1
  · intro w9 hSw
    try dsimp only at hSw
    go_simp
    try with_reducible rfl
  try simp only [Act.put, List.getElem_toArray, List.getElem_cons_succ, List.getElem_cons_zero, List.setIfInBounds_toArray, List.set_cons_zero, List.set_cons_succ]
  refine wpAnyH_ready (rs := [2]) (by kernel_rfl) (by simp) ?_
  refine AllReadyH.cons rfl (fun K hK => ?_) (AllReadyH.nil)
  go_simp
  go_at_call 58
  refine (toK_any KK_s.out (by omega)).mono ?_
  rintro e' Wsc ⟨ykk, rfl, ho, hb⟩
  have HB_sc := Lib.hid (bt HB_s.out hb)
  have R_sc := Lib.hid (R_s.out.below hb)
  have JKK_sc := Lib.hid (JKK_s.out.below hb)
  have DD_sc := Lib.hid (DD_s.out.below hb)
  have VV_sc := Lib.hid (VV_s.out.below hb)
  have KK_sc := Lib.hid (KK_s.out.below hb)
  have XDD_sc := Lib.hid (XDD_s.out.below hb)
  have XVV_sc := Lib.hid (XVV_s.out.below hb)
  have KKK_sc := Lib.hid (KKK_s.out.below hb)
  have XKK_sc := Lib.hid (XKK_s.out.below hb)
  have CKK_sc := Lib.hid (ho.toIn)
  clear ho
  clear hb
  go_wp2_with fail
  refine hK.out _ _ (show _ from ⟨⟨KKK_sc.out.1 0 _ rfl, KKK_sc.out.1 1 _ rfl, KKK_sc.out.1 2 _ rfl, KKK_sc.out.1 3 _ rfl⟩, ⟨JKK_sc.out.1 0 _ rfl, JKK_sc.out.1 1 _ rfl, JKK_sc.out.1 2 _ rfl, JKK_sc.out.1 3 _ rfl⟩⟩) (fun hHeld => ?_)
  clear hK K
  try simp only [Act.put, List.getElem_toArray, List.getElem_cons_succ, List.getElem_cons_zero, List.setIfInBounds_toArray, List.set_cons_zero, List.set_cons_succ]
  refine wpAnyH_ready (rs := [3]) (by kernel_rfl) (by simp) ?_
  refine AllReadyH.cons rfl (fun K hK => ?_) (AllReadyH.nil)
  go_simp
  go_at_call 54
  refine (eqK_any XKK_sc.out CKK_sc.out (by omega)).mono ?_
  rintro e' Wscd ⟨rfl, hb⟩
  have HB_scd := Lib.hid (bt HB_sc.out hb)
  have R_scd := Lib.hid (R_sc.out.below hb)
  have JKK_scd := Lib.hid (JKK_sc.out.below hb)
  have DD_scd := Lib.hid (DD_sc.out.below hb)
  have VV_scd := Lib.hid (VV_sc.out.below hb)
  have KK_scd := Lib.hid (KK_sc.out.below hb)
  have XDD_scd := Lib.hid (XDD_sc.out.below hb)
  have XVV_scd := Lib.hid (XVV_sc.out.below hb)
  have KKK_scd := Lib.hid (KKK_sc.out.below hb)
  have XKK_scd := Lib.hid (XKK_sc.out.below hb)
  have CKK_scd := Lib.hid (CKK_sc.out.below hb)
  clear hb
  go_wp2_with fail
  refine hK.out _ _ (show _ from ⟨⟨KKK_scd.out.1 0 _ rfl, KKK_scd.out.1 1 _ rfl, KKK_scd.out.1 2 _ rfl, KKK_scd.out.1 3 _ rfl⟩, ⟨JKK_scd.out.1 0 _ rfl, JKK_scd.out.1 1 _ rfl, JKK_scd.out.1 2 _ rfl, JKK_scd.out.1 3 _ rfl⟩⟩) (fun hHeld => ?_)
  clear hK K
  try simp only [Act.put, List.getElem_toArray, List.getElem_cons_succ, List.getElem_cons_zero, List.setIfInBounds_toArray, List.set_cons_zero, List.set_cons_succ]
  refine wpAnyH_take (i := 4) (v := ?_) rfl (by kernel_rfl) (by kernel_rfl) (by kernel_rfl) (fun _ _ _ h => h) (Or.inl ⟨by kernel_rfl, ?_⟩) (by assumption) ?_
  rotate_left 1
  · intro w9 hSw
    try dsimp only at hSw
    go_simp
    try with_reducible rfl
  try simp only [Act.put, List.getElem_toArray, List.getElem_cons_succ, List.getElem_cons_zero, List.setIfInBounds_toArray, List.set_cons_zero, List.set_cons_succ]
  refine wpAnyH_done (by kernel_rfl) ?_ _
  have HB_12 := Lib.hid HB_scd.out
  have R_12 := Lib.hid R_scd.out
  have JKK_12 := Lib.hid JKK_scd.out
  have DD_12 := Lib.hid DD_scd.out
  have VV_12 := Lib.hid VV_scd.out
  have KK_12 := Lib.hid KK_scd.out
  have XDD_12 := Lib.hid XDD_scd.out
  have XVV_12 := Lib.hid XVV_scd.out
  have KKK_12 := Lib.hid KKK_scd.out
  have XKK_12 := Lib.hid XKK_scd.out
  go_wp2
  go_ret
  exact ⟨rfl, HB_12.out⟩

/-! ### The row's step -/
set_option maxRecDepth 100000 in
theorem lifted (os : Os) (started : os.Started) (H : Type) (enc : TypeId × Value → H) :
    ReturnsInHanded {} Try.checked os 10 .any (Rows.fnExactCheckKeyGenSpec.pre6 enc Try.prog Try.f10 Rows.fnExactCheckKeyGenRow.domain false) (Rows.fnExactCheckKeyGenSpec.post enc Try.prog Try.f10 false true false false) := by
  refine returnsInHanded_of_change (C := Try.checked) own started (by kernel_rfl) Try.func10
    (ChangeSpec.witness6 (enc := enc) (C := Try.checked) false ⟨#[], #[.agg #[.int .i64 0, .int .i64 0, .int .i64 0], .slice none 0 0, .slice none 0 0, .agg #[.slice none 0 0, .int .i64 0, .slice none 0 0, .slice none 0 0]], []⟩ 8 (by kernel_rfl) (by kernel_rfl) (by kernel_rfl) (by kernel_rfl)) ?_
  intro W base args ds gs before hval0 hW hcnd _
  have hval : ∀ (j : Nat) t v, Try.f10.params[j]? = some t → args[j]? = some v → Value.okWide Try.prog W .any base t v := hval0
  have hW' := hW
  obtain ⟨p, q, hA0, hV, rfl, hfz, hnd⟩ := hW
  have hA : DataW.TrodAll enc Try.prog W 0 (fun _ => true) true Try.f10.params.toList args.toList ds p := hA0
  rw [Try.params10] at hA hval
  obtain ⟨v0, vs0, d0, ds0, p0, q0, hargs, rfl, rfl, h0, r0⟩ := trodAll_cons hA
  obtain ⟨v1, vs1, d1, ds1, p1, q1, rfl, rfl, rfl, h1, r1⟩ := trodAll_cons r0
  obtain ⟨v2, vs2, d2, ds2, p2, q2, rfl, rfl, rfl, h2, r2⟩ := trodAll_cons r1
  obtain ⟨v3, vs3, d3, ds3, p3, q3, rfl, rfl, rfl, h3, r3⟩ := trodAll_cons r2
  obtain ⟨rfl, rfl, rfl⟩ := trodAll_nil r3
  obtain rfl : args = #[v0, v1, v2, v3] := by cases args; simp_all
  obtain ⟨rfl, rfl⟩ := trodVars_none hV
  have k0 := h0
  have lt0 : ∀ x ∈ p0, x.block < W.heap.size := by obtain ⟨m, hm⟩ := k0; exact DataW.trod_lt m _ _ _ hm
  obtain ⟨c0_0, c0_1, c0_2, y0_0, y0_1, y0_2, m0, rfl, rfl, rfl, hy0_0, hy0_1, hy0_2⟩ := open_agg3 Try.underlying47 (by kernel_rfl) (by kernel_rfl) (hval 0 47 v0 rfl rfl) h0
  obtain ⟨P0, e0_0, _, wP0⟩ := DataW.trod_int Try.underlying3 hy0_0
  obtain rfl := (List.cons.inj e0_0).1
  obtain ⟨Q0, e0_1, _, wQ0⟩ := DataW.trod_int Try.underlying3 hy0_1
  obtain rfl := (List.cons.inj e0_1).1
  obtain ⟨G0, e0_2, _, wG0⟩ := DataW.trod_int Try.underlying3 hy0_2
  obtain rfl := (List.cons.inj e0_2).1
  have k1 := h1
  have lt1 : ∀ x ∈ p1, x.block < W.heap.size := by obtain ⟨m, hm⟩ := k1; exact DataW.trod_lt m _ _ _ hm
  obtain ⟨a1, len1, cap1, rfl⟩ := okWide_slice Try.underlying48 (hval 1 48 v1 rfl rfl)
  have w1 := (fun ⟨fuel, hf⟩ => inDs_open (fuel := fuel) hf) h1
  have k2 := h2
  have lt2 : ∀ x ∈ p2, x.block < W.heap.size := by obtain ⟨m, hm⟩ := k2; exact DataW.trod_lt m _ _ _ hm
  obtain ⟨a2, len2, cap2, rfl⟩ := okWide_slice Try.underlying26 (hval 2 26 v2 rfl rfl)
  have w2 := (fun ⟨fuel, hf⟩ => inS_open (fuel := fuel) hf) h2
  have k3 := h3
  have lt3 : ∀ x ∈ p3, x.block < W.heap.size := by obtain ⟨m, hm⟩ := k3; exact DataW.trod_lt m _ _ _ hm
  have w3 := inK_open (hval 3 78 v3 rfl rfl) h3
  clear hA0 hval0
  refine (walk P0 Q0 G0 _ _ _ W wP0 wQ0 wG0 w1 w2 w3).mono fun e W' ⟨he, bel⟩ => ?_
  subst he
  exact ⟨_, rfl, _, _, _, [], _, [], hW', trodAll_mk1 (shut_bool Try.underlying4 _), (trodAll_cons_mk (Below.trod laidOut (by kernel_rfl) (of_decide_eq_true (by kernel_rfl)) k0 bel lt0) (trodAll_cons_mk (Below.trod laidOut (by kernel_rfl) (of_decide_eq_true (by kernel_rfl)) k1 bel lt1) (trodAll_cons_mk (Below.trod laidOut (by kernel_rfl) (of_decide_eq_true (by kernel_rfl)) k2 bel lt2) (trodAll_cons_mk (Below.trod laidOut (by kernel_rfl) (of_decide_eq_true (by kernel_rfl)) k3 bel lt3) trodAll_mk0)))), rfl, bel.frame _, fun h => by cases h⟩

theorem over : Rows.fnExactCheckKeyGenRow.holds Try.pinned (OpenSpec.ofChange Rows.fnExactCheckKeyGenSpec) :=
  OpenClaim.holds_of_wide 10 Try.f10 rfl rfl rfl rfl rfl rfl rfl ⟨rfl, rfl, rfl, rfl, rfl⟩ rfl rfl rfl rfl rfl (by kernel_rfl) Try.func10
    (show joinedFacts Try.prog 10 Try.f10 Rows.fnExactCheckKeyGenSpec Rows.fnExactCheckKeyGenRow = true by unfold joinedFacts; rw [Head.make, Head.lifts, Head.enters]; kernel_rfl)
    (of_decide_eq_true (by kernel_rfl)) (by unfold Func.isWrapper; first | (rw [if_pos (by decide +kernel)]; kernel_rfl) | (rw [if_neg (by decide +kernel)]; exact ⟨rfl, rfl⟩))
    (fun os started H enc _ => lifted os started H enc)

/-- The statement. -/
theorem proved : Rows.FnExactCheckKeyGenSaid := over
#print axioms proved
end Go.Proofs.Ytchlnkdlnfjijaa.fnExactCheckKeyGen
