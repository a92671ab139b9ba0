/-
For every group and every further argument the law FnExactCombineKey returns true: the program's CombineKey answers as the reference's does, leaves its arguments as they were, and its answer owns its memory.
No condition.
-/
import Derived.Test.YtchlnkdlnfjijaaRows
import Derived.WalkKit
import Derived.ProofKit
import Derived.OpenShut
import Derived.ShutString
import Derived.ChangeOld
import Derived.Below
import Derived.Lib.SmallJoins
import Derived.Test.YtchlnkdlnfjijaaDkY
import Derived.Test.YtchlnkdlnfjijaaOpS
import Derived.Test.YtchlnkdlnfjijaaFacts
namespace Go.Proofs.Ytchlnkdlnfjijaa.fnExactCombineKey
open Go.Joins Go.ChangeShapes Go.WideShapes Go.ChangeAt Go.RowKit Go.Deep
open Go.ChangeMaps (open_string shut_string)
set_option linter.unusedVariables false

theorem own : ownKnob Try.prog.godebug = none := by kernel_rfl
theorem laidOut : laidOutB Try.prog = true := by kernel_rfl

/-- What the walk is told of a slice of integers that came in: it is nil; or it leads to a row of 'cap' cells that hold the numbers 'zs'. -/
def IsRow (k : IntKind) (w : World) (a : Option Addr) (len cap : Nat) (zs : List Int) : Prop :=
  (a = none ∧ len = 0 ∧ cap = 0 ∧ zs = []) ∨
  ∃ x, a = some x ∧ len ≤ cap ∧ cap ≤ maxLen ∧ zs.length = cap ∧ (∀ i, i < zs.length → w.cell? (x.add i) = some (.int k (zs.getD i 0))) ∧ ∀ n ∈ zs, (Lit.int k n).wf = true

set_option linter.unusedSimpArgs false

/-! ### STEP 1: the walk: the Go text returns true and writes nothing that was there -/
set_option maxRecDepth 100000 in
set_option maxHeartbeats 25600000 in
theorem walk (P0 Q0 G0 : Int) (a1 : Value) (a2 : Value) (w : World) (wP0 : (Lit.int .i64 P0).wf = true) (wQ0 : (Lit.int .i64 Q0).wf = true) (wG0 : (Lit.int .i64 G0).wf = true) (w1 : ∃ ds, InDs w.heap.size w a1 ds ∧ ds.length ≤ maxLen ∧ ∀ d ∈ ds, d.c.length ≤ maxLen ∧ d.s.length ≤ maxLen) (w2 : ∃ zss, InS w.heap.size w a2 zss ∧ zss.length ≤ maxLen ∧ ∀ z ∈ zss, z.length ≤ maxLen) :
    Calls Try.prog 9 #[.agg #[.int .i64 P0, .int .i64 Q0, .int .i64 G0], a1, a2] w fun e w' => e = .returned (.bool true) ∧ Below w.heap.size w w' := by
  obtain ⟨dd, hdd, mdd, qdd⟩ := w1
  obtain ⟨vv, hvv, mvv, qvv⟩ := w2
  have hal : Below w.heap.size w (w.alloc (.cells #[.int .i64 P0, .int .i64 Q0, .int .i64 G0] 47)) := ba _ _
  have R_0 := Lib.hid (gr_atS w w.heap.size rfl P0 Q0 G0 47)
  have DD_0 := Lib.hid (hdd.below hal)
  have VV_0 := Lib.hid (hvv.below hal)
  have HB_0 := Lib.hid hal
  clear hal hdd hvv
  have hlf0 : (0 : Int) ≤ 1048576 ∧ (1048576 : Int) ≤ 1048576 := by omega
  by_cases bs0 : 1048576 < ((dd.length + nDs dd : Nat) : Int)
  · have ES0 := Lib.hid (show szV (dd.length + nDs dd : Nat) 1048576 = -1 by unfold szV; rw [if_neg (by omega)])
    go_enter Try.func9, Try.ntmps9
    go_wp2_with fail
    refine (szDs_any DD_0.out hlf0.1 hlf0.2 mdd qdd).mono ?_
    rw [ES0.out]
    rintro e s1 ⟨rfl, hb⟩
    have HB_1 := Lib.hid (bt HB_0.out hb)
    have R_1 := Lib.hid (R_0.out.below hb)
    have DD_1 := Lib.hid (DD_0.out.below hb)
    have VV_1 := Lib.hid (VV_0.out.below hb)
    clear hb
    go_wp2
    go_ret
    exact ⟨rfl, HB_1.out⟩
  obtain ⟨lf1, hlq1⟩ : ∃ x : Int, 1048576 - ((dd.length + nDs dd : Nat) : Int) = x := ⟨_, rfl⟩
  have ES0 := Lib.hid (show szV (dd.length + nDs dd : Nat) 1048576 = lf1 by unfold szV; rw [if_pos (by omega)]; omega)
  have hlf1 : 0 ≤ lf1 ∧ lf1 ≤ 1048576 := by omega
  have ldd : dd.length ≤ 1048576 := by omega
  have rdd : nDs dd ≤ 1048576 := by omega
  have fldd : nS (flatD dd) ≤ 1048576 := by rw [nS_flatD]; omega
  clear hlq1 bs0
  by_cases bs1 : lf1 < ((vv.length + nS vv : Nat) : Int)
  · have ES1 := Lib.hid (show szV (vv.length + nS vv : Nat) lf1 = -1 by unfold szV; rw [if_neg (by omega)])
    go_enter Try.func9, Try.ntmps9
    go_wp2_with fail
    refine (szDs_any DD_0.out hlf0.1 hlf0.2 mdd qdd).mono ?_
    rw [ES0.out]
    rintro e s1 ⟨rfl, hb⟩
    have HB_1 := Lib.hid (bt HB_0.out hb)
    have R_1 := Lib.hid (R_0.out.below hb)
    have DD_1 := Lib.hid (DD_0.out.below hb)
    have VV_1 := Lib.hid (VV_0.out.below hb)
    clear hb
    go_wp2_with fail
    refine (szS_any VV_1.out hlf1.1 hlf1.2 mvv qvv).mono ?_
    rw [ES1.out]
    rintro e s2 ⟨rfl, rfl⟩
    go_wp2
    go_ret
    exact ⟨rfl, HB_1.out⟩
  obtain ⟨lf2, hlq2⟩ : ∃ x : Int, lf1 - ((vv.length + nS vv : Nat) : Int) = x := ⟨_, rfl⟩
  have ES1 := Lib.hid (show szV (vv.length + nS vv : Nat) lf1 = lf2 by unfold szV; rw [if_pos (by omega)]; omega)
  have hlf2 : 0 ≤ lf2 ∧ lf2 ≤ 1048576 := by omega
  have lvv : vv.length ≤ 1048576 := by omega
  have rvv : nS vv ≤ 1048576 := by omega
  clear hlq2 bs1
  have hlr := cgV_bound P0 Q0 G0 dd vv
  generalize hR : cgV P0 Q0 G0 dd vv = res at hlr
  generalize hK : cgB P0 Q0 G0 dd vv = ok
  have HR := Lib.hid hR
  have HK := Lib.hid hK
  clear hR hK
  go_enter Try.func9, Try.ntmps9
  go_wp2_with fail
  refine (szDs_any DD_0.out hlf0.1 hlf0.2 mdd qdd).mono ?_
  rw [ES0.out]
  rintro e s1 ⟨rfl, hb⟩
  have HB_1 := Lib.hid (bt HB_0.out hb)
  have R_1 := Lib.hid (R_0.out.below hb)
  have DD_1 := Lib.hid (DD_0.out.below hb)
  have VV_1 := Lib.hid (VV_0.out.below hb)
  clear hb
  go_wp2_with fail
  refine (szS_any VV_1.out hlf1.1 hlf1.2 mvv qvv).mono ?_
  rw [ES1.out]
  rintro e s2 ⟨rfl, rfl⟩
  obtain ⟨g0, g1, g2⟩ := R_1.out
  go_wp2_with fail
  refine (toGroup_any _ _ _ _).mono ?_
  rintro e u101 ⟨rfl, hb⟩
  have HB_2 := Lib.hid (bt HB_1.out hb)
  have R_2 := Lib.hid (R_1.out.below hb)
  have DD_2 := Lib.hid (DD_1.out.below hb)
  have VV_2 := Lib.hid (VV_1.out.below hb)
  clear hb HB_1 R_1 DD_1 VV_1
  clear g0 g1 g2
  go_wp2_with fail
  refine (toDs_any DD_2.out (by omega) (by omega)).mono ?_
  rintro e u102 ⟨yCDD, rfl, ho, hb⟩
  have LRCDD := Lib.hid R_2.out.lt
  have LDDCDD := Lib.hid DD_2.out.le
  have LVVCDD := Lib.hid VV_2.out.le
  have LBCDD := Lib.hid HB_2.out.size
  have HB_3 := Lib.hid (bt HB_2.out hb)
  have R_3 := Lib.hid (R_2.out.below hb)
  have DD_3 := Lib.hid (DD_2.out.below hb)
  have VV_3 := Lib.hid (VV_2.out.below hb)
  have CDD_3 := Lib.hid (ho.toIn)
  clear hb HB_2 R_2 DD_2 VV_2
  clear ho
  go_wp2_with fail
  refine (toS_any VV_3.out (by omega) (by omega)).mono ?_
  rintro e u103 ⟨yCVV, rfl, ho, hb⟩
  have LRCVV := Lib.hid R_3.out.lt
  have LDDCVV := Lib.hid DD_3.out.le
  have LVVCVV := Lib.hid VV_3.out.le
  have LCDDCVV := Lib.hid CDD_3.out.le
  have LBCVV := Lib.hid HB_3.out.size
  have HB_4 := Lib.hid (bt HB_3.out hb)
  have R_4 := Lib.hid (R_3.out.below hb)
  have DD_4 := Lib.hid (DD_3.out.below hb)
  have VV_4 := Lib.hid (VV_3.out.below hb)
  have CDD_4 := Lib.hid (CDD_3.out.below hb)
  have CVV_4 := Lib.hid (ho.toIn)
  clear hb HB_3 R_3 DD_3 VV_3 CDD_3
  clear ho
  go_wp2_with fail
  refine (sCombineKey_any P0 Q0 G0 (by omega) (by omega) (by omega) (by omega) CDD_4.out CVV_4.out).mono ?_
  rw [HR.out]
  rw [HK.out]
  rintro e u104 ⟨vW0, rfl, ho, hb1⟩
  obtain ⟨bw00, bw01, bw02, bw03, bw04, bw05, hsh, _, _, _⟩ := ho.toIn.shape
  subst hsh
  have LRW0 := Lib.hid R_4.out.lt
  have LDDW0 := Lib.hid DD_4.out.le
  have LVVW0 := Lib.hid VV_4.out.le
  have LCDDW0 := Lib.hid CDD_4.out.le
  have LCVVW0 := Lib.hid CVV_4.out.le
  have LBW0 := Lib.hid HB_4.out.size
  have hba := ba u104 (.cells #[.slice bw00 res.q.length bw01, .int .i64 res.k, .slice bw02 res.c.length bw03, .slice bw04 res.s.length bw05] 31)
  have hb := bt hb1 hba
  have HB_5 := Lib.hid (bt HB_4.out hb)
  have R_5 := Lib.hid (R_4.out.below hb)
  have DD_5 := Lib.hid (DD_4.out.below hb)
  have VV_5 := Lib.hid (VV_4.out.below hb)
  have W0_5 := Lib.hid (ho.toIn.below hba)
  have V_5 := Lib.hid (vl_at u104 u104.heap.size rfl [.slice bw00 res.q.length bw01, .int .i64 res.k, .slice bw02 res.c.length bw03, .slice bw04 res.s.length bw05] 31)
  clear hb HB_4 R_4 DD_4 VV_4 CDD_4 CVV_4
  clear ho hb1 hba
  go_wp2_with fail
  refine (toDs_any DD_5.out (by omega) (by omega)).mono ?_
  rintro e u105 ⟨yXDD, rfl, ho, hb⟩
  have LRXDD := Lib.hid R_5.out.lt
  have LDDXDD := Lib.hid DD_5.out.le
  have LVVXDD := Lib.hid VV_5.out.le
  have LW0XDD := Lib.hid W0_5.out.le
  have LVXDD := Lib.hid V_5.out.lt
  have LBXDD := Lib.hid HB_5.out.size
  have HB_6 := Lib.hid (bt HB_5.out hb)
  have R_6 := Lib.hid (R_5.out.below hb)
  have DD_6 := Lib.hid (DD_5.out.below hb)
  have VV_6 := Lib.hid (VV_5.out.below hb)
  have W0_6 := Lib.hid (W0_5.out.below hb)
  have V_6 := Lib.hid (V_5.out.below hb)
  have XDD_6 := Lib.hid (ho)
  clear hb HB_5 R_5 DD_5 VV_5 W0_5 V_5
  clear ho
  go_wp2_with fail
  refine (toS_any VV_6.out (by omega) (by omega)).mono ?_
  rintro e u106 ⟨yXVV, rfl, ho, hb⟩
  have LRXVV := Lib.hid R_6.out.lt
  have LDDXVV := Lib.hid DD_6.out.le
  have LVVXVV := Lib.hid VV_6.out.le
  have LW0XVV := Lib.hid W0_6.out.le
  have LVXVV := Lib.hid V_6.out.lt
  have LXDDXVV := Lib.hid XDD_6.out.le
  have LBXVV := Lib.hid HB_6.out.size
  have HB_7 := Lib.hid (bt HB_6.out hb)
  have R_7 := Lib.hid (R_6.out.below hb)
  have DD_7 := Lib.hid (DD_6.out.below hb)
  have VV_7 := Lib.hid (VV_6.out.below hb)
  have W0_7 := Lib.hid (W0_6.out.below hb)
  have V_7 := Lib.hid (V_6.out.below hb)
  have XDD_7 := Lib.hid (XDD_6.out.below hb)
  have XVV_7 := Lib.hid (ho)
  clear hb HB_6 R_6 DD_6 VV_6 W0_6 V_6 XDD_6
  clear ho
  obtain ⟨g0, g1, g2⟩ := R_7.out
  go_wp2_with fail
  refine (toGroup_any _ _ _ _).mono ?_
  rintro e u107 ⟨rfl, hb⟩
  have HB_8 := Lib.hid (bt HB_7.out hb)
  have R_8 := Lib.hid (R_7.out.below hb)
  have DD_8 := Lib.hid (DD_7.out.below hb)
  have VV_8 := Lib.hid (VV_7.out.below hb)
  have W0_8 := Lib.hid (W0_7.out.below hb)
  have V_8 := Lib.hid (V_7.out.below hb)
  have XDD_8 := Lib.hid (XDD_7.out.below hb)
  have XVV_8 := Lib.hid (XVV_7.out.below hb)
  clear hb HB_7 R_7 DD_7 VV_7 W0_7 V_7 XDD_7 XVV_7
  clear g0 g1 g2
  go_wp2_with fail
  refine (combineKey_any P0 Q0 G0 (by omega) (by omega) (by omega) (by omega) XDD_8.out.toIn XVV_8.out.toIn).mono ?_
  rw [HR.out]
  rw [HK.out]
  rintro e u108 ⟨vG0, rfl, ho, hb1⟩
  obtain ⟨bg00, bg01, bg02, bg03, bg04, bg05, hsh, _, _, _⟩ := ho.toIn.shape
  subst hsh
  have LRG0 := Lib.hid R_8.out.lt
  have LDDG0 := Lib.hid DD_8.out.le
  have LVVG0 := Lib.hid VV_8.out.le
  have LW0G0 := Lib.hid W0_8.out.le
  have LVG0 := Lib.hid V_8.out.lt
  have LXDDG0 := Lib.hid XDD_8.out.le
  have LXVVG0 := Lib.hid XVV_8.out.le
  have LBG0 := Lib.hid HB_8.out.size
  have LXDDU := Lib.hid (Nat.le_trans XDD_8.out.le hb1.size)
  have LXVVU := Lib.hid (Nat.le_trans XVV_8.out.le hb1.size)
  have LG0U := Lib.hid (Nat.le_refl u108.heap.size)
  have hba := ba u108 (.cells #[.slice bg00 res.q.length bg01, .int .i64 res.k, .slice bg02 res.c.length bg03, .slice bg04 res.s.length bg05] 31)
  have hb := bt hb1 hba
  have HB_9 := Lib.hid (bt HB_8.out hb)
  have R_9 := Lib.hid (R_8.out.below hb)
  have DD_9 := Lib.hid (DD_8.out.below hb)
  have VV_9 := Lib.hid (VV_8.out.below hb)
  have W0_9 := Lib.hid (W0_8.out.below hb)
  have V_9 := Lib.hid (V_8.out.below hb)
  have XDD_9 := Lib.hid (XDD_8.out.below hb)
  have XVV_9 := Lib.hid (XVV_8.out.below hb)
  have G0_9 := Lib.hid (ho.below hba)
  have U_9 := Lib.hid (vl_at u108 u108.heap.size rfl [.slice bg00 res.q.length bg01, .int .i64 res.k, .slice bg02 res.c.length bg03, .slice bg04 res.s.length bg05] 31)
  clear hb HB_8 R_8 DD_8 VV_8 W0_8 V_8 XDD_8 XVV_8
  clear ho hb1 hba
  have ux0 := U_9.out.1 0 _ rfl
  have ux1 := U_9.out.1 1 _ rfl
  have ux2 := U_9.out.1 2 _ rfl
  have ux3 := U_9.out.1 3 _ rfl
  have vx0 := V_9.out.1 0 _ rfl
  have vx1 := V_9.out.1 1 _ rfl
  have vx2 := V_9.out.1 2 _ rfl
  have vx3 := V_9.out.1 3 _ rfl
  go_wp2_with fail
  refine (eqK_any G0_9.out.toIn W0_9.out (by omega)).mono ?_
  rintro e u109 ⟨rfl, hb⟩
  have HB_10 := Lib.hid (bt HB_9.out hb)
  have R_10 := Lib.hid (R_9.out.below hb)
  have DD_10 := Lib.hid (DD_9.out.below hb)
  have VV_10 := Lib.hid (VV_9.out.below hb)
  have W0_10 := Lib.hid (W0_9.out.below hb)
  have V_10 := Lib.hid (V_9.out.below hb)
  have XDD_10 := Lib.hid (XDD_9.out.below hb)
  have XVV_10 := Lib.hid (XVV_9.out.below hb)
  have G0_10 := Lib.hid (G0_9.out.below hb)
  have U_10 := Lib.hid (U_9.out.below hb)
  clear hb HB_9 R_9 DD_9 VV_9 W0_9 V_9 XDD_9 XVV_9 G0_9 U_9
  clear ux0 ux1 ux2 ux3
  clear vx0 vx1 vx2 vx3
  go_wp2_with fail
  refine (toDs_any DD_10.out (by omega) (by omega)).mono ?_
  rintro e u110 ⟨yCQDD, rfl, ho, hb⟩
  have LRCQDD := Lib.hid R_10.out.lt
  have LDDCQDD := Lib.hid DD_10.out.le
  have LVVCQDD := Lib.hid VV_10.out.le
  have LW0CQDD := Lib.hid W0_10.out.le
  have LVCQDD := Lib.hid V_10.out.lt
  have LXDDCQDD := Lib.hid XDD_10.out.le
  have LXVVCQDD := Lib.hid XVV_10.out.le
  have LG0CQDD := Lib.hid G0_10.out.le
  have LUCQDD := Lib.hid U_10.out.lt
  have LBCQDD := Lib.hid HB_10.out.size
  have HB_11 := Lib.hid (bt HB_10.out hb)
  have R_11 := Lib.hid (R_10.out.below hb)
  have DD_11 := Lib.hid (DD_10.out.below hb)
  have VV_11 := Lib.hid (VV_10.out.below hb)
  have W0_11 := Lib.hid (W0_10.out.below hb)
  have V_11 := Lib.hid (V_10.out.below hb)
  have XDD_11 := Lib.hid (XDD_10.out.below hb)
  have XVV_11 := Lib.hid (XVV_10.out.below hb)
  have G0_11 := Lib.hid (G0_10.out.below hb)
  have U_11 := Lib.hid (U_10.out.below hb)
  have CQDD_11 := Lib.hid (ho.toIn)
  clear hb HB_10 R_10 DD_10 VV_10 W0_10 V_10 XDD_10 XVV_10 G0_10 U_10
  clear ho
  go_wp2_with fail
  refine (eqDs_any XDD_11.out.toIn CQDD_11.out (by omega) (by omega)).mono ?_
  rintro e u111 ⟨rfl, hb⟩
  have HB_12 := Lib.hid (bt HB_11.out hb)
  have R_12 := Lib.hid (R_11.out.below hb)
  have DD_12 := Lib.hid (DD_11.out.below hb)
  have VV_12 := Lib.hid (VV_11.out.below hb)
  have W0_12 := Lib.hid (W0_11.out.below hb)
  have V_12 := Lib.hid (V_11.out.below hb)
  have XDD_12 := Lib.hid (XDD_11.out.below hb)
  have XVV_12 := Lib.hid (XVV_11.out.below hb)
  have G0_12 := Lib.hid (G0_11.out.below hb)
  have U_12 := Lib.hid (U_11.out.below hb)
  clear hb HB_11 R_11 DD_11 VV_11 W0_11 V_11 XDD_11 XVV_11 G0_11 U_11 CQDD_11
  go_wp2_with fail
  refine (toS_any VV_12.out (by omega) (by omega)).mono ?_
  rintro e u112 ⟨yCQVV, rfl, ho, hb⟩
  have LRCQVV := Lib.hid R_12.out.lt
  have LDDCQVV := Lib.hid DD_12.out.le
  have LVVCQVV := Lib.hid VV_12.out.le
  have LW0CQVV := Lib.hid W0_12.out.le
  have LVCQVV := Lib.hid V_12.out.lt
  have LXDDCQVV := Lib.hid XDD_12.out.le
  have LXVVCQVV := Lib.hid XVV_12.out.le
  have LG0CQVV := Lib.hid G0_12.out.le
  have LUCQVV := Lib.hid U_12.out.lt
  have LBCQVV := Lib.hid HB_12.out.size
  have HB_13 := Lib.hid (bt HB_12.out hb)
  have R_13 := Lib.hid (R_12.out.below hb)
  have DD_13 := Lib.hid (DD_12.out.below hb)
  have VV_13 := Lib.hid (VV_12.out.below hb)
  have W0_13 := Lib.hid (W0_12.out.below hb)
  have V_13 := Lib.hid (V_12.out.below hb)
  have XDD_13 := Lib.hid (XDD_12.out.below hb)
  have XVV_13 := Lib.hid (XVV_12.out.below hb)
  have G0_13 := Lib.hid (G0_12.out.below hb)
  have U_13 := Lib.hid (U_12.out.below hb)
  have CQVV_13 := Lib.hid (ho.toIn)
  clear hb HB_12 R_12 DD_12 VV_12 W0_12 V_12 XDD_12 XVV_12 G0_12 U_12
  clear ho
  go_wp2_with fail
  refine (eqS_any XVV_13.out.toIn CQVV_13.out (by omega) (by omega)).mono ?_
  rintro e u113 ⟨rfl, hb⟩
  have HB_14 := Lib.hid (bt HB_13.out hb)
  have R_14 := Lib.hid (R_13.out.below hb)
  have DD_14 := Lib.hid (DD_13.out.below hb)
  have VV_14 := Lib.hid (VV_13.out.below hb)
  have W0_14 := Lib.hid (W0_13.out.below hb)
  have V_14 := Lib.hid (V_13.out.below hb)
  have XDD_14 := Lib.hid (XDD_13.out.below hb)
  have XVV_14 := Lib.hid (XVV_13.out.below hb)
  have G0_14 := Lib.hid (G0_13.out.below hb)
  have U_14 := Lib.hid (U_13.out.below hb)
  clear hb HB_13 R_13 DD_13 VV_13 W0_13 V_13 XDD_13 XVV_13 G0_13 U_13 CQVV_13
  go_wp2_with fail
  refine (markDs_any XDD_14.out (by omega) (by omega) (by rw [flatD_length]; omega) (by rw [nS_flatD]; omega)).mono ?_
  rintro e u114 ⟨rfl, ho, hm⟩
  clear ho
  have R_15 := Lib.hid (gr_mid7 R_14.out hm LRXDD.out)
  have DD_15 := Lib.hid (DD_14.out.mid hm LBXDD.out)
  have VV_15 := Lib.hid (VV_14.out.mid hm LBXDD.out)
  have W0_15 := Lib.hid (W0_14.out.mid hm LW0XDD.out)
  have V_15 := Lib.hid (V_14.out.mid hm (.inl LVXDD.out))
  have XVV_15 := Lib.hid (XVV_14.out.mid hm (.inr LXDDXVV.out))
  have G0_15 := Lib.hid (G0_14.out.mid hm (.inr LXDDG0.out))
  have U_15 := Lib.hid (U_14.out.mid hm (.inr LXDDU.out))
  have HB_15 := Lib.hid (HB_14.out.trans (hm.toBelow LBXDD.out HB_14.out.size))
  clear hm HB_14 R_14 DD_14 VV_14 W0_14 V_14 XDD_14 XVV_14 G0_14 U_14
  go_wp2_with fail
  refine (markS_any XVV_15.out (by omega) (by omega) (by omega) (by omega)).mono ?_
  rintro e u115 ⟨rfl, ho, hm⟩
  clear ho
  have R_16 := Lib.hid (gr_mid7 R_15.out hm LRXVV.out)
  have DD_16 := Lib.hid (DD_15.out.mid hm LBXVV.out)
  have VV_16 := Lib.hid (VV_15.out.mid hm LBXVV.out)
  have W0_16 := Lib.hid (W0_15.out.mid hm LW0XVV.out)
  have V_16 := Lib.hid (V_15.out.mid hm (.inl LVXVV.out))
  have G0_16 := Lib.hid (G0_15.out.mid hm (.inr LXVVG0.out))
  have U_16 := Lib.hid (U_15.out.mid hm (.inr LXVVU.out))
  have HB_16 := Lib.hid (HB_15.out.trans (hm.toBelow LBXVV.out HB_15.out.size))
  clear hm HB_15 R_15 DD_15 VV_15 W0_15 V_15 XVV_15 G0_15 U_15
  have ux0 := U_16.out.1 0 _ rfl
  have ux1 := U_16.out.1 1 _ rfl
  have ux2 := U_16.out.1 2 _ rfl
  have ux3 := U_16.out.1 3 _ rfl
  have vx0 := V_16.out.1 0 _ rfl
  have vx1 := V_16.out.1 1 _ rfl
  have vx2 := V_16.out.1 2 _ rfl
  have vx3 := V_16.out.1 3 _ rfl
  go_wp2_with fail
  refine (eqK_any G0_16.out.toIn W0_16.out (by omega)).mono ?_
  rintro e u116 ⟨rfl, hb⟩
  have HB_17 := Lib.hid (bt HB_16.out hb)
  have R_17 := Lib.hid (R_16.out.below hb)
  have DD_17 := Lib.hid (DD_16.out.below hb)
  have VV_17 := Lib.hid (VV_16.out.below hb)
  have W0_17 := Lib.hid (W0_16.out.below hb)
  have V_17 := Lib.hid (V_16.out.below hb)
  have G0_17 := Lib.hid (G0_16.out.below hb)
  have U_17 := Lib.hid (U_16.out.below hb)
  clear hb HB_16 R_16 DD_16 VV_16 W0_16 V_16 G0_16 U_16
  clear ux0 ux1 ux2 ux3
  clear vx0 vx1 vx2 vx3
  have ux0 := U_17.out.1 0 _ rfl
  have ux1 := U_17.out.1 1 _ rfl
  have ux2 := U_17.out.1 2 _ rfl
  have ux3 := U_17.out.1 3 _ rfl
  go_wp2_with fail
  refine (markK_any G0_17.out (by omega) (by omega) (by omega)).mono ?_
  rintro e u117 ⟨rfl, ho, hm⟩
  clear ux0 ux1 ux2 ux3
  have R_18 := Lib.hid (gr_mid7 R_17.out hm LRG0.out)
  have DD_18 := Lib.hid (DD_17.out.mid hm LBG0.out)
  have VV_18 := Lib.hid (VV_17.out.mid hm LBG0.out)
  have W0_18 := Lib.hid (W0_17.out.mid hm LW0G0.out)
  have V_18 := Lib.hid (V_17.out.mid hm (.inl LVG0.out))
  have U_18 := Lib.hid (U_17.out.mid hm (.inr LG0U.out))
  have HB_18 := Lib.hid (HB_17.out.trans (hm.toBelow LBG0.out HB_17.out.size))
  clear hm HB_17 R_17 DD_17 VV_17 W0_17 V_17 G0_17 U_17
  have G0_18 := Lib.hid (ho.toIn)
  clear ho
  have ux0 := U_18.out.1 0 _ rfl
  have ux1 := U_18.out.1 1 _ rfl
  have ux2 := U_18.out.1 2 _ rfl
  have ux3 := U_18.out.1 3 _ rfl
  go_wp2_with fail
  refine (heldK_any G0_18.out (by omega) (by omega) (by omega)).mono ?_
  rintro e u118 ⟨rfl, hb⟩
  have HB_19 := Lib.hid (bt HB_18.out hb)
  have R_19 := Lib.hid (R_18.out.below hb)
  have DD_19 := Lib.hid (DD_18.out.below hb)
  have VV_19 := Lib.hid (VV_18.out.below hb)
  have W0_19 := Lib.hid (W0_18.out.below hb)
  have V_19 := Lib.hid (V_18.out.below hb)
  have U_19 := Lib.hid (U_18.out.below hb)
  have G0_19 := Lib.hid (G0_18.out.below hb)
  clear hb HB_18 R_18 DD_18 VV_18 W0_18 V_18 U_18 G0_18
  clear ux0 ux1 ux2 ux3
  obtain ⟨g0, g1, g2⟩ := R_19.out
  go_wp2_with fail
  refine (toGroup_any _ _ _ _).mono ?_
  rintro e u119 ⟨rfl, hb⟩
  have HB_20 := Lib.hid (bt HB_19.out hb)
  have R_20 := Lib.hid (R_19.out.below hb)
  have DD_20 := Lib.hid (DD_19.out.below hb)
  have VV_20 := Lib.hid (VV_19.out.below hb)
  have W0_20 := Lib.hid (W0_19.out.below hb)
  have V_20 := Lib.hid (V_19.out.below hb)
  have U_20 := Lib.hid (U_19.out.below hb)
  have G0_20 := Lib.hid (G0_19.out.below hb)
  clear hb HB_19 R_19 DD_19 VV_19 W0_19 V_19 U_19 G0_19
  clear g0 g1 g2
  go_wp2_with fail
  refine (toDs_any DD_20.out (by omega) (by omega)).mono ?_
  rintro e u120 ⟨yCDD, rfl, ho, hb⟩
  have LRCDD := Lib.hid R_20.out.lt
  have LDDCDD := Lib.hid DD_20.out.le
  have LVVCDD := Lib.hid VV_20.out.le
  have LW0CDD := Lib.hid W0_20.out.le
  have LVCDD := Lib.hid V_20.out.lt
  have LUCDD := Lib.hid U_20.out.lt
  have LG0CDD := Lib.hid G0_20.out.le
  have LBCDD := Lib.hid HB_20.out.size
  have HB_21 := Lib.hid (bt HB_20.out hb)
  have R_21 := Lib.hid (R_20.out.below hb)
  have DD_21 := Lib.hid (DD_20.out.below hb)
  have VV_21 := Lib.hid (VV_20.out.below hb)
  have W0_21 := Lib.hid (W0_20.out.below hb)
  have V_21 := Lib.hid (V_20.out.below hb)
  have U_21 := Lib.hid (U_20.out.below hb)
  have G0_21 := Lib.hid (G0_20.out.below hb)
  have CDD_21 := Lib.hid (ho.toIn)
  clear hb HB_20 R_20 DD_20 VV_20 W0_20 V_20 U_20 G0_20
  clear ho
  go_wp2_with fail
  refine (toS_any VV_21.out (by omega) (by omega)).mono ?_
  rintro e u121 ⟨yCVV, rfl, ho, hb⟩
  have LRCVV := Lib.hid R_21.out.lt
  have LDDCVV := Lib.hid DD_21.out.le
  have LVVCVV := Lib.hid VV_21.out.le
  have LW0CVV := Lib.hid W0_21.out.le
  have LVCVV := Lib.hid V_21.out.lt
  have LUCVV := Lib.hid U_21.out.lt
  have LG0CVV := Lib.hid G0_21.out.le
  have LCDDCVV := Lib.hid CDD_21.out.le
  have LBCVV := Lib.hid HB_21.out.size
  have HB_22 := Lib.hid (bt HB_21.out hb)
  have R_22 := Lib.hid (R_21.out.below hb)
  have DD_22 := Lib.hid (DD_21.out.below hb)
  have VV_22 := Lib.hid (VV_21.out.below hb)
  have W0_22 := Lib.hid (W0_21.out.below hb)
  have V_22 := Lib.hid (V_21.out.below hb)
  have U_22 := Lib.hid (U_21.out.below hb)
  have G0_22 := Lib.hid (G0_21.out.below hb)
  have CDD_22 := Lib.hid (CDD_21.out.below hb)
  have CVV_22 := Lib.hid (ho.toIn)
  clear hb HB_21 R_21 DD_21 VV_21 W0_21 V_21 U_21 G0_21 CDD_21
  clear ho
  go_wp2_with fail
  refine (combineKey_any P0 Q0 G0 (by omega) (by omega) (by omega) (by omega) CDD_22.out CVV_22.out).mono ?_
  rw [HR.out]
  rw [HK.out]
  rintro e u122 ⟨vH0, rfl, ho, hb1⟩
  obtain ⟨bh00, bh01, bh02, bh03, bh04, bh05, hsh, _, _, _⟩ := ho.toIn.shape
  subst hsh
  have LRH0 := Lib.hid R_22.out.lt
  have LDDH0 := Lib.hid DD_22.out.le
  have LVVH0 := Lib.hid VV_22.out.le
  have LW0H0 := Lib.hid W0_22.out.le
  have LVH0 := Lib.hid V_22.out.lt
  have LUH0 := Lib.hid U_22.out.lt
  have LG0H0 := Lib.hid G0_22.out.le
  have LCDDH0 := Lib.hid CDD_22.out.le
  have LCVVH0 := Lib.hid CVV_22.out.le
  have LBH0 := Lib.hid HB_22.out.size
  have LG0Z := Lib.hid (Nat.le_trans G0_22.out.le hb1.size)
  have hba := ba u122 (.cells #[.slice bh00 res.q.length bh01, .int .i64 res.k, .slice bh02 res.c.length bh03, .slice bh04 res.s.length bh05] 31)
  have hb := bt hb1 hba
  have HB_23 := Lib.hid (bt HB_22.out hb)
  have R_23 := Lib.hid (R_22.out.below hb)
  have DD_23 := Lib.hid (DD_22.out.below hb)
  have VV_23 := Lib.hid (VV_22.out.below hb)
  have W0_23 := Lib.hid (W0_22.out.below hb)
  have V_23 := Lib.hid (V_22.out.below hb)
  have U_23 := Lib.hid (U_22.out.below hb)
  have G0_23 := Lib.hid (G0_22.out.below hb)
  have H0_23 := Lib.hid (ho.toIn.below hba)
  have Z_23 := Lib.hid (vl_at u122 u122.heap.size rfl [.slice bh00 res.q.length bh01, .int .i64 res.k, .slice bh02 res.c.length bh03, .slice bh04 res.s.length bh05] 31)
  clear hb HB_22 R_22 DD_22 VV_22 W0_22 V_22 U_22 G0_22 CDD_22 CVV_22
  clear ho hb1 hba
  have zx0 := Z_23.out.1 0 _ rfl
  have zx1 := Z_23.out.1 1 _ rfl
  have zx2 := Z_23.out.1 2 _ rfl
  have zx3 := Z_23.out.1 3 _ rfl
  have vx0 := V_23.out.1 0 _ rfl
  have vx1 := V_23.out.1 1 _ rfl
  have vx2 := V_23.out.1 2 _ rfl
  have vx3 := V_23.out.1 3 _ rfl
  go_wp2_with fail
  refine (eqK_any H0_23.out W0_23.out (by omega)).mono ?_
  rintro e u123 ⟨rfl, hb⟩
  have HB_24 := Lib.hid (bt HB_23.out hb)
  have R_24 := Lib.hid (R_23.out.below hb)
  have DD_24 := Lib.hid (DD_23.out.below hb)
  have VV_24 := Lib.hid (VV_23.out.below hb)
  have W0_24 := Lib.hid (W0_23.out.below hb)
  have V_24 := Lib.hid (V_23.out.below hb)
  have U_24 := Lib.hid (U_23.out.below hb)
  have G0_24 := Lib.hid (G0_23.out.below hb)
  have H0_24 := Lib.hid (H0_23.out.below hb)
  have Z_24 := Lib.hid (Z_23.out.below hb)
  clear hb HB_23 R_23 DD_23 VV_23 W0_23 V_23 U_23 G0_23 H0_23 Z_23
  clear zx0 zx1 zx2 zx3
  clear vx0 vx1 vx2 vx3
  have ux0 := U_24.out.1 0 _ rfl
  have ux1 := U_24.out.1 1 _ rfl
  have ux2 := U_24.out.1 2 _ rfl
  have ux3 := U_24.out.1 3 _ rfl
  go_wp2_with fail
  refine (heldK_any G0_24.out (by omega) (by omega) (by omega)).mono ?_
  rintro e u124 ⟨rfl, hb⟩
  have HB_25 := Lib.hid (bt HB_24.out hb)
  have R_25 := Lib.hid (R_24.out.below hb)
  have DD_25 := Lib.hid (DD_24.out.below hb)
  have VV_25 := Lib.hid (VV_24.out.below hb)
  have W0_25 := Lib.hid (W0_24.out.below hb)
  have V_25 := Lib.hid (V_24.out.below hb)
  have U_25 := Lib.hid (U_24.out.below hb)
  have G0_25 := Lib.hid (G0_24.out.below hb)
  have H0_25 := Lib.hid (H0_24.out.below hb)
  have Z_25 := Lib.hid (Z_24.out.below hb)
  clear hb HB_24 R_24 DD_24 VV_24 W0_24 V_24 U_24 G0_24 H0_24 Z_24
  clear ux0 ux1 ux2 ux3
  go_wp2
  go_ret
  exact ⟨rfl, HB_25.out⟩

/-! ### The row's step -/
set_option maxRecDepth 100000 in
theorem lifted (os : Os) (started : os.Started) (H : Type) (enc : TypeId × Value → H) :
    ReturnsInHanded {} Try.checked os 9 .any (Rows.fnExactCombineKeySpec.pre6 enc Try.prog Try.f9 Rows.fnExactCombineKeyRow.domain false) (Rows.fnExactCombineKeySpec.post enc Try.prog Try.f9 false true false false) := by
  refine returnsInHanded_of_change (C := Try.checked) own started (by kernel_rfl) Try.func9
    (ChangeSpec.witness6 (enc := enc) (C := Try.checked) false ⟨#[], #[.agg #[.int .i64 0, .int .i64 0, .int .i64 0], .slice none 0 0, .slice none 0 0], []⟩ 8 (by kernel_rfl) (by kernel_rfl) (by kernel_rfl) (by kernel_rfl)) ?_
  intro W base args ds gs before hval0 hW hcnd _
  have hval : ∀ (j : Nat) t v, Try.f9.params[j]? = some t → args[j]? = some v → Value.okWide Try.prog W .any base t v := hval0
  have hW' := hW
  obtain ⟨p, q, hA0, hV, rfl, hfz, hnd⟩ := hW
  have hA : DataW.TrodAll enc Try.prog W 0 (fun _ => true) true Try.f9.params.toList args.toList ds p := hA0
  rw [Try.params9] at hA hval
  obtain ⟨v0, vs0, d0, ds0, p0, q0, hargs, rfl, rfl, h0, r0⟩ := trodAll_cons hA
  obtain ⟨v1, vs1, d1, ds1, p1, q1, rfl, rfl, rfl, h1, r1⟩ := trodAll_cons r0
  obtain ⟨v2, vs2, d2, ds2, p2, q2, rfl, rfl, rfl, h2, r2⟩ := trodAll_cons r1
  obtain ⟨rfl, rfl, rfl⟩ := trodAll_nil r2
  obtain rfl : args = #[v0, v1, v2] := by cases args; simp_all
  obtain ⟨rfl, rfl⟩ := trodVars_none hV
  have k0 := h0
  have lt0 : ∀ x ∈ p0, x.block < W.heap.size := by obtain ⟨m, hm⟩ := k0; exact DataW.trod_lt m _ _ _ hm
  obtain ⟨c0_0, c0_1, c0_2, y0_0, y0_1, y0_2, m0, rfl, rfl, rfl, hy0_0, hy0_1, hy0_2⟩ := open_agg3 Try.underlying47 (by kernel_rfl) (by kernel_rfl) (hval 0 47 v0 rfl rfl) h0
  obtain ⟨P0, e0_0, _, wP0⟩ := DataW.trod_int Try.underlying3 hy0_0
  obtain rfl := (List.cons.inj e0_0).1
  obtain ⟨Q0, e0_1, _, wQ0⟩ := DataW.trod_int Try.underlying3 hy0_1
  obtain rfl := (List.cons.inj e0_1).1
  obtain ⟨G0, e0_2, _, wG0⟩ := DataW.trod_int Try.underlying3 hy0_2
  obtain rfl := (List.cons.inj e0_2).1
  have k1 := h1
  have lt1 : ∀ x ∈ p1, x.block < W.heap.size := by obtain ⟨m, hm⟩ := k1; exact DataW.trod_lt m _ _ _ hm
  obtain ⟨a1, len1, cap1, rfl⟩ := okWide_slice Try.underlying48 (hval 1 48 v1 rfl rfl)
  have w1 := (fun ⟨fuel, hf⟩ => inDs_open (fuel := fuel) hf) h1
  have k2 := h2
  have lt2 : ∀ x ∈ p2, x.block < W.heap.size := by obtain ⟨m, hm⟩ := k2; exact DataW.trod_lt m _ _ _ hm
  obtain ⟨a2, len2, cap2, rfl⟩ := okWide_slice Try.underlying26 (hval 2 26 v2 rfl rfl)
  have w2 := (fun ⟨fuel, hf⟩ => inS_open (fuel := fuel) hf) h2
  clear hA0 hval0
  refine (walk P0 Q0 G0 _ _ W wP0 wQ0 wG0 w1 w2).mono fun e W' ⟨he, bel⟩ => ?_
  subst he
  exact ⟨_, rfl, _, _, _, [], _, [], hW', trodAll_mk1 (shut_bool Try.underlying4 _), (trodAll_cons_mk (Below.trod laidOut (by kernel_rfl) (of_decide_eq_true (by kernel_rfl)) k0 bel lt0) (trodAll_cons_mk (Below.trod laidOut (by kernel_rfl) (of_decide_eq_true (by kernel_rfl)) k1 bel lt1) (trodAll_cons_mk (Below.trod laidOut (by kernel_rfl) (of_decide_eq_true (by kernel_rfl)) k2 bel lt2) trodAll_mk0))), rfl, bel.frame _, fun h => by cases h⟩

theorem over : Rows.fnExactCombineKeyRow.holds Try.pinned (OpenSpec.ofChange Rows.fnExactCombineKeySpec) :=
  OpenClaim.holds_of_wide 9 Try.f9 rfl rfl rfl rfl rfl rfl rfl ⟨rfl, rfl, rfl, rfl, rfl⟩ rfl rfl rfl rfl rfl (by kernel_rfl) Try.func9
    (show joinedFacts Try.prog 9 Try.f9 Rows.fnExactCombineKeySpec Rows.fnExactCombineKeyRow = true by unfold joinedFacts; rw [Head.make, Head.lifts, Head.enters]; kernel_rfl)
    (of_decide_eq_true (by kernel_rfl)) (by unfold Func.isWrapper; first | (rw [if_pos (by decide +kernel)]; kernel_rfl) | (rw [if_neg (by decide +kernel)]; exact ⟨rfl, rfl⟩))
    (fun os started H enc _ => lifted os started H enc)

/-- The statement. -/
theorem proved : Rows.FnExactCombineKeySaid := over
#print axioms proved
end Go.Proofs.Ytchlnkdlnfjijaa.fnExactCombineKey
