/-
For every group and every further argument the law FnExactSumDealings returns true: the program's SumDealings answers as the reference's does, leaves its arguments as they were, and its answer owns its memory.
No condition.
-/
import Derived.Test.YtchlnkdlnfjijaaRows
import Derived.WalkKit
import Derived.ProofKit
import Derived.OpenShut
import Derived.ShutString
import Derived.ChangeOld
import Derived.Below
import Derived.Lib.SmallJoins
import Derived.Test.YtchlnkdlnfjijaaDkT
import Derived.Test.YtchlnkdlnfjijaaFacts
namespace Go.Proofs.Ytchlnkdlnfjijaa.fnExactSumDealings
open Go.Joins Go.ChangeShapes Go.WideShapes Go.ChangeAt Go.RowKit Go.Deep
open Go.ChangeMaps (open_string shut_string)
set_option linter.unusedVariables false

theorem own : ownKnob Try.prog.godebug = none := by kernel_rfl
theorem laidOut : laidOutB Try.prog = true := by kernel_rfl

/-- What the walk is told of a slice of integers that came in: it is nil; or it leads to a row of 'cap' cells that hold the numbers 'zs'. -/
def IsRow (k : IntKind) (w : World) (a : Option Addr) (len cap : Nat) (zs : List Int) : Prop :=
  (a = none ∧ len = 0 ∧ cap = 0 ∧ zs = []) ∨
  ∃ x, a = some x ∧ len ≤ cap ∧ cap ≤ maxLen ∧ zs.length = cap ∧ (∀ i, i < zs.length → w.cell? (x.add i) = some (.int k (zs.getD i 0))) ∧ ∀ n ∈ zs, (Lit.int k n).wf = true

set_option linter.unusedSimpArgs false

/-! ### STEP 1: the walk: the Go text returns true and writes nothing that was there -/
set_option maxRecDepth 100000 in
set_option maxHeartbeats 25600000 in
theorem walk (P0 Q0 G0 : Int) (a1 : Value) (w : World) (wP0 : (Lit.int .i64 P0).wf = true) (wQ0 : (Lit.int .i64 Q0).wf = true) (wG0 : (Lit.int .i64 G0).wf = true) (w1 : ∃ ds, InDs w.heap.size w a1 ds ∧ ds.length ≤ maxLen ∧ ∀ d ∈ ds, d.c.length ≤ maxLen ∧ d.s.length ≤ maxLen) :
    Calls Try.prog 4 #[.agg #[.int .i64 P0, .int .i64 Q0, .int .i64 G0], a1] w fun e w' => e = .returned (.bool true) ∧ Below w.heap.size w w' := by
  obtain ⟨a, ha, ma, qa⟩ := w1
  have hal : Below w.heap.size w (w.alloc (.cells #[.int .i64 P0, .int .i64 Q0, .int .i64 G0] 47)) := ba _ _
  have R_0 := Lib.hid (gr_atS w w.heap.size rfl P0 Q0 G0 47)
  have A_0 := Lib.hid (ha.below hal)
  have HB_0 := Lib.hid hal
  clear hal ha
  have hlf0 : (0 : Int) ≤ 1048576 ∧ (1048576 : Int) ≤ 1048576 := by omega
  by_cases bs0 : 1048576 < ((a.length + nDs a : Nat) : Int)
  · have ES0 := Lib.hid (show szV (a.length + nDs a : Nat) 1048576 = -1 by unfold szV; rw [if_neg (by omega)])
    go_enter Try.func4, Try.ntmps4
    go_wp2_with fail
    refine (szDs_any A_0.out hlf0.1 hlf0.2 ma qa).mono ?_
    rw [ES0.out]
    rintro e s1 ⟨rfl, hb⟩
    have HB_1 := Lib.hid (bt HB_0.out hb)
    have R_1 := Lib.hid (R_0.out.below hb)
    have A_1 := Lib.hid (A_0.out.below hb)
    clear hb
    go_wp2
    go_ret
    exact ⟨rfl, HB_1.out⟩
  obtain ⟨lf1, hlq1⟩ : ∃ x : Int, 1048576 - ((a.length + nDs a : Nat) : Int) = x := ⟨_, rfl⟩
  have ES0 := Lib.hid (show szV (a.length + nDs a : Nat) 1048576 = lf1 by unfold szV; rw [if_pos (by omega)]; omega)
  have hlf1 : 0 ≤ lf1 ∧ lf1 ≤ 1048576 := by omega
  have la : a.length ≤ 1048576 := by omega
  have ra : nDs a ≤ 1048576 := by omega
  clear hlq1 bs0
  have hlr := sdV_bound P0 Q0 G0 a
  generalize hR : sdV P0 Q0 G0 a = res at hlr
  generalize hK : sdB P0 Q0 G0 a = ok
  have HR := Lib.hid hR
  have HK := Lib.hid hK
  clear hR hK
  go_enter Try.func4, Try.ntmps4
  go_wp2_with fail
  refine (szDs_any A_0.out hlf0.1 hlf0.2 ma qa).mono ?_
  rw [ES0.out]
  rintro e s1 ⟨rfl, hb⟩
  have HB_1 := Lib.hid (bt HB_0.out hb)
  have R_1 := Lib.hid (R_0.out.below hb)
  have A_1 := Lib.hid (A_0.out.below hb)
  clear hb
  obtain ⟨g0, g1, g2⟩ := R_1.out
  go_wp2_with fail
  refine (toGroup_any _ _ _ _).mono ?_
  rintro e u101 ⟨rfl, hb⟩
  have HB_2 := Lib.hid (bt HB_1.out hb)
  have R_2 := Lib.hid (R_1.out.below hb)
  have A_2 := Lib.hid (A_1.out.below hb)
  clear hb HB_1 R_1 A_1
  clear g0 g1 g2
  go_wp2_with fail
  refine (toDs_any A_2.out (by omega) (by omega)).mono ?_
  rintro e u102 ⟨yCA, rfl, ho, hb⟩
  have LRCA := Lib.hid R_2.out.lt
  have LACA := Lib.hid A_2.out.le
  have LBCA := Lib.hid HB_2.out.size
  have HB_3 := Lib.hid (bt HB_2.out hb)
  have R_3 := Lib.hid (R_2.out.below hb)
  have A_3 := Lib.hid (A_2.out.below hb)
  have CA_3 := Lib.hid (ho.toIn)
  clear hb HB_2 R_2 A_2
  clear ho
  go_wp2_with fail
  refine (sSumDealings_any P0 Q0 G0 (by omega) (by omega) CA_3.out).mono ?_
  rw [HR.out]
  rw [HK.out]
  rintro e u103 ⟨vW0, rfl, ho, hb1⟩
  obtain ⟨bw00, bw01, bw02, bw03, hsh, _, _⟩ := ho.toIn.shape
  subst hsh
  have LRW0 := Lib.hid R_3.out.lt
  have LAW0 := Lib.hid A_3.out.le
  have LCAW0 := Lib.hid CA_3.out.le
  have LBW0 := Lib.hid HB_3.out.size
  have hba := ba u103 (.cells #[.slice bw00 res.c.length bw01, .slice bw02 res.s.length bw03] 42)
  have hb := bt hb1 hba
  have HB_4 := Lib.hid (bt HB_3.out hb)
  have R_4 := Lib.hid (R_3.out.below hb)
  have A_4 := Lib.hid (A_3.out.below hb)
  have W0_4 := Lib.hid (ho.toIn.below hba)
  have V_4 := Lib.hid (v2_at u103 u103.heap.size rfl (.slice bw00 res.c.length bw01) (.slice bw02 res.s.length bw03) 42)
  clear hb HB_3 R_3 A_3 CA_3
  clear ho hb1 hba
  go_wp2_with fail
  refine (toDs_any A_4.out (by omega) (by omega)).mono ?_
  rintro e u104 ⟨yXA, rfl, ho, hb⟩
  have LRXA := Lib.hid R_4.out.lt
  have LAXA := Lib.hid A_4.out.le
  have LW0XA := Lib.hid W0_4.out.le
  have LVXA := Lib.hid V_4.out.lt
  have LBXA := Lib.hid HB_4.out.size
  have HB_5 := Lib.hid (bt HB_4.out hb)
  have R_5 := Lib.hid (R_4.out.below hb)
  have A_5 := Lib.hid (A_4.out.below hb)
  have W0_5 := Lib.hid (W0_4.out.below hb)
  have V_5 := Lib.hid (V_4.out.below hb)
  have XA_5 := Lib.hid (ho)
  clear hb HB_4 R_4 A_4 W0_4 V_4
  clear ho
  obtain ⟨g0, g1, g2⟩ := R_5.out
  go_wp2_with fail
  refine (toGroup_any _ _ _ _).mono ?_
  rintro e u105 ⟨rfl, hb⟩
  have HB_6 := Lib.hid (bt HB_5.out hb)
  have R_6 := Lib.hid (R_5.out.below hb)
  have A_6 := Lib.hid (A_5.out.below hb)
  have W0_6 := Lib.hid (W0_5.out.below hb)
  have V_6 := Lib.hid (V_5.out.below hb)
  have XA_6 := Lib.hid (XA_5.out.below hb)
  clear hb HB_5 R_5 A_5 W0_5 V_5 XA_5
  clear g0 g1 g2
  go_wp2_with fail
  refine (sumDealings_any P0 Q0 G0 (by omega) (by omega) XA_6.out.toIn).mono ?_
  rw [HR.out]
  rw [HK.out]
  rintro e u106 ⟨vG0, rfl, ho, hb1⟩
  obtain ⟨bg00, bg01, bg02, bg03, hsh, _, _⟩ := ho.toIn.shape
  subst hsh
  have LRG0 := Lib.hid R_6.out.lt
  have LAG0 := Lib.hid A_6.out.le
  have LW0G0 := Lib.hid W0_6.out.le
  have LVG0 := Lib.hid V_6.out.lt
  have LXAG0 := Lib.hid XA_6.out.le
  have LBG0 := Lib.hid HB_6.out.size
  have LXAU := Lib.hid (Nat.le_trans XA_6.out.le hb1.size)
  have LG0U := Lib.hid (Nat.le_refl u106.heap.size)
  have hba := ba u106 (.cells #[.slice bg00 res.c.length bg01, .slice bg02 res.s.length bg03] 42)
  have hb := bt hb1 hba
  have HB_7 := Lib.hid (bt HB_6.out hb)
  have R_7 := Lib.hid (R_6.out.below hb)
  have A_7 := Lib.hid (A_6.out.below hb)
  have W0_7 := Lib.hid (W0_6.out.below hb)
  have V_7 := Lib.hid (V_6.out.below hb)
  have XA_7 := Lib.hid (XA_6.out.below hb)
  have G0_7 := Lib.hid (ho.below hba)
  have U_7 := Lib.hid (v2_at u106 u106.heap.size rfl (.slice bg00 res.c.length bg01) (.slice bg02 res.s.length bg03) 42)
  clear hb HB_6 R_6 A_6 W0_6 V_6 XA_6
  clear ho hb1 hba
  obtain ⟨u0, u1, _⟩ := U_7.out
  obtain ⟨v0, v1, _⟩ := V_7.out
  go_wp2_with fail
  refine (eqD_any G0_7.out.toIn W0_7.out (by omega)).mono ?_
  rintro e u107 ⟨rfl, hb⟩
  have HB_8 := Lib.hid (bt HB_7.out hb)
  have R_8 := Lib.hid (R_7.out.below hb)
  have A_8 := Lib.hid (A_7.out.below hb)
  have W0_8 := Lib.hid (W0_7.out.below hb)
  have V_8 := Lib.hid (V_7.out.below hb)
  have XA_8 := Lib.hid (XA_7.out.below hb)
  have G0_8 := Lib.hid (G0_7.out.below hb)
  have U_8 := Lib.hid (U_7.out.below hb)
  clear hb HB_7 R_7 A_7 W0_7 V_7 XA_7 G0_7 U_7
  clear u0 u1
  clear v0 v1
  go_wp2_with fail
  refine (toDs_any A_8.out (by omega) (by omega)).mono ?_
  rintro e u108 ⟨yCQA, rfl, ho, hb⟩
  have LRCQA := Lib.hid R_8.out.lt
  have LACQA := Lib.hid A_8.out.le
  have LW0CQA := Lib.hid W0_8.out.le
  have LVCQA := Lib.hid V_8.out.lt
  have LXACQA := Lib.hid XA_8.out.le
  have LG0CQA := Lib.hid G0_8.out.le
  have LUCQA := Lib.hid U_8.out.lt
  have LBCQA := Lib.hid HB_8.out.size
  have HB_9 := Lib.hid (bt HB_8.out hb)
  have R_9 := Lib.hid (R_8.out.below hb)
  have A_9 := Lib.hid (A_8.out.below hb)
  have W0_9 := Lib.hid (W0_8.out.below hb)
  have V_9 := Lib.hid (V_8.out.below hb)
  have XA_9 := Lib.hid (XA_8.out.below hb)
  have G0_9 := Lib.hid (G0_8.out.below hb)
  have U_9 := Lib.hid (U_8.out.below hb)
  have CQA_9 := Lib.hid (ho.toIn)
  clear hb HB_8 R_8 A_8 W0_8 V_8 XA_8 G0_8 U_8
  clear ho
  go_wp2_with fail
  refine (eqDs_any XA_9.out.toIn CQA_9.out (by omega) (by omega)).mono ?_
  rintro e u109 ⟨rfl, hb⟩
  have HB_10 := Lib.hid (bt HB_9.out hb)
  have R_10 := Lib.hid (R_9.out.below hb)
  have A_10 := Lib.hid (A_9.out.below hb)
  have W0_10 := Lib.hid (W0_9.out.below hb)
  have V_10 := Lib.hid (V_9.out.below hb)
  have XA_10 := Lib.hid (XA_9.out.below hb)
  have G0_10 := Lib.hid (G0_9.out.below hb)
  have U_10 := Lib.hid (U_9.out.below hb)
  clear hb HB_9 R_9 A_9 W0_9 V_9 XA_9 G0_9 U_9 CQA_9
  go_wp2_with fail
  refine (markDs_any XA_10.out (by omega) (by omega) (by rw [flatD_length]; omega) (by rw [nS_flatD]; omega)).mono ?_
  rintro e u110 ⟨rfl, ho, hm⟩
  clear ho
  have R_11 := Lib.hid (gr_mid7 R_10.out hm LRXA.out)
  have A_11 := Lib.hid (A_10.out.mid hm LBXA.out)
  have W0_11 := Lib.hid (W0_10.out.mid hm LW0XA.out)
  have V_11 := Lib.hid (V_10.out.mid hm (.inl LVXA.out))
  have G0_11 := Lib.hid (G0_10.out.mid hm (.inr LXAG0.out))
  have U_11 := Lib.hid (U_10.out.mid hm (.inr LXAU.out))
  have HB_11 := Lib.hid (HB_10.out.trans (hm.toBelow LBXA.out HB_10.out.size))
  clear hm HB_10 R_10 A_10 W0_10 V_10 XA_10 G0_10 U_10
  obtain ⟨u0, u1, _⟩ := U_11.out
  obtain ⟨v0, v1, _⟩ := V_11.out
  go_wp2_with fail
  refine (eqD_any G0_11.out.toIn W0_11.out (by omega)).mono ?_
  rintro e u111 ⟨rfl, hb⟩
  have HB_12 := Lib.hid (bt HB_11.out hb)
  have R_12 := Lib.hid (R_11.out.below hb)
  have A_12 := Lib.hid (A_11.out.below hb)
  have W0_12 := Lib.hid (W0_11.out.below hb)
  have V_12 := Lib.hid (V_11.out.below hb)
  have G0_12 := Lib.hid (G0_11.out.below hb)
  have U_12 := Lib.hid (U_11.out.below hb)
  clear hb HB_11 R_11 A_11 W0_11 V_11 G0_11 U_11
  clear u0 u1
  clear v0 v1
  obtain ⟨u0, u1, _⟩ := U_12.out
  go_wp2_with fail
  refine (markD_any G0_12.out (by omega) (by omega) (by omega)).mono ?_
  rintro e u112 ⟨rfl, ho, hm⟩
  clear u0 u1
  have R_13 := Lib.hid (gr_mid7 R_12.out hm LRG0.out)
  have A_13 := Lib.hid (A_12.out.mid hm LBG0.out)
  have W0_13 := Lib.hid (W0_12.out.mid hm LW0G0.out)
  have V_13 := Lib.hid (V_12.out.mid hm (.inl LVG0.out))
  have U_13 := Lib.hid (U_12.out.mid hm (.inr LG0U.out))
  have HB_13 := Lib.hid (HB_12.out.trans (hm.toBelow LBG0.out HB_12.out.size))
  clear hm HB_12 R_12 A_12 W0_12 V_12 G0_12 U_12
  have G0_13 := Lib.hid (ho.toIn)
  clear ho
  obtain ⟨u0, u1, _⟩ := U_13.out
  go_wp2_with fail
  refine (heldD_any G0_13.out (by omega) (by omega) (by omega)).mono ?_
  rintro e u113 ⟨rfl, hb⟩
  have HB_14 := Lib.hid (bt HB_13.out hb)
  have R_14 := Lib.hid (R_13.out.below hb)
  have A_14 := Lib.hid (A_13.out.below hb)
  have W0_14 := Lib.hid (W0_13.out.below hb)
  have V_14 := Lib.hid (V_13.out.below hb)
  have U_14 := Lib.hid (U_13.out.below hb)
  have G0_14 := Lib.hid (G0_13.out.below hb)
  clear hb HB_13 R_13 A_13 W0_13 V_13 U_13 G0_13
  clear u0 u1
  obtain ⟨g0, g1, g2⟩ := R_14.out
  go_wp2_with fail
  refine (toGroup_any _ _ _ _).mono ?_
  rintro e u114 ⟨rfl, hb⟩
  have HB_15 := Lib.hid (bt HB_14.out hb)
  have R_15 := Lib.hid (R_14.out.below hb)
  have A_15 := Lib.hid (A_14.out.below hb)
  have W0_15 := Lib.hid (W0_14.out.below hb)
  have V_15 := Lib.hid (V_14.out.below hb)
  have U_15 := Lib.hid (U_14.out.below hb)
  have G0_15 := Lib.hid (G0_14.out.below hb)
  clear hb HB_14 R_14 A_14 W0_14 V_14 U_14 G0_14
  clear g0 g1 g2
  go_wp2_with fail
  refine (toDs_any A_15.out (by omega) (by omega)).mono ?_
  rintro e u115 ⟨yCA, rfl, ho, hb⟩
  have LRCA := Lib.hid R_15.out.lt
  have LACA := Lib.hid A_15.out.le
  have LW0CA := Lib.hid W0_15.out.le
  have LVCA := Lib.hid V_15.out.lt
  have LUCA := Lib.hid U_15.out.lt
  have LG0CA := Lib.hid G0_15.out.le
  have LBCA := Lib.hid HB_15.out.size
  have HB_16 := Lib.hid (bt HB_15.out hb)
  have R_16 := Lib.hid (R_15.out.below hb)
  have A_16 := Lib.hid (A_15.out.below hb)
  have W0_16 := Lib.hid (W0_15.out.below hb)
  have V_16 := Lib.hid (V_15.out.below hb)
  have U_16 := Lib.hid (U_15.out.below hb)
  have G0_16 := Lib.hid (G0_15.out.below hb)
  have CA_16 := Lib.hid (ho.toIn)
  clear hb HB_15 R_15 A_15 W0_15 V_15 U_15 G0_15
  clear ho
  go_wp2_with fail
  refine (sumDealings_any P0 Q0 G0 (by omega) (by omega) CA_16.out).mono ?_
  rw [HR.out]
  rw [HK.out]
  rintro e u116 ⟨vH0, rfl, ho, hb1⟩
  obtain ⟨bh00, bh01, bh02, bh03, hsh, _, _⟩ := ho.toIn.shape
  subst hsh
  have LRH0 := Lib.hid R_16.out.lt
  have LAH0 := Lib.hid A_16.out.le
  have LW0H0 := Lib.hid W0_16.out.le
  have LVH0 := Lib.hid V_16.out.lt
  have LUH0 := Lib.hid U_16.out.lt
  have LG0H0 := Lib.hid G0_16.out.le
  have LCAH0 := Lib.hid CA_16.out.le
  have LBH0 := Lib.hid HB_16.out.size
  have LG0Z := Lib.hid (Nat.le_trans G0_16.out.le hb1.size)
  have hba := ba u116 (.cells #[.slice bh00 res.c.length bh01, .slice bh02 res.s.length bh03] 42)
  have hb := bt hb1 hba
  have HB_17 := Lib.hid (bt HB_16.out hb)
  have R_17 := Lib.hid (R_16.out.below hb)
  have A_17 := Lib.hid (A_16.out.below hb)
  have W0_17 := Lib.hid (W0_16.out.below hb)
  have V_17 := Lib.hid (V_16.out.below hb)
  have U_17 := Lib.hid (U_16.out.below hb)
  have G0_17 := Lib.hid (G0_16.out.below hb)
  have H0_17 := Lib.hid (ho.toIn.below hba)
  have Z_17 := Lib.hid (v2_at u116 u116.heap.size rfl (.slice bh00 res.c.length bh01) (.slice bh02 res.s.length bh03) 42)
  clear hb HB_16 R_16 A_16 W0_16 V_16 U_16 G0_16 CA_16
  clear ho hb1 hba
  obtain ⟨z0, z1, _⟩ := Z_17.out
  obtain ⟨v0, v1, _⟩ := V_17.out
  go_wp2_with fail
  refine (eqD_any H0_17.out W0_17.out (by omega)).mono ?_
  rintro e u117 ⟨rfl, hb⟩
  have HB_18 := Lib.hid (bt HB_17.out hb)
  have R_18 := Lib.hid (R_17.out.below hb)
  have A_18 := Lib.hid (A_17.out.below hb)
  have W0_18 := Lib.hid (W0_17.out.below hb)
  have V_18 := Lib.hid (V_17.out.below hb)
  have U_18 := Lib.hid (U_17.out.below hb)
  have G0_18 := Lib.hid (G0_17.out.below hb)
  have H0_18 := Lib.hid (H0_17.out.below hb)
  have Z_18 := Lib.hid (Z_17.out.below hb)
  clear hb HB_17 R_17 A_17 W0_17 V_17 U_17 G0_17 H0_17 Z_17
  clear z0 z1
  clear v0 v1
  obtain ⟨u0, u1, _⟩ := U_18.out
  go_wp2_with fail
  refine (heldD_any G0_18.out (by omega) (by omega) (by omega)).mono ?_
  rintro e u118 ⟨rfl, hb⟩
  have HB_19 := Lib.hid (bt HB_18.out hb)
  have R_19 := Lib.hid (R_18.out.below hb)
  have A_19 := Lib.hid (A_18.out.below hb)
  have W0_19 := Lib.hid (W0_18.out.below hb)
  have V_19 := Lib.hid (V_18.out.below hb)
  have U_19 := Lib.hid (U_18.out.below hb)
  have G0_19 := Lib.hid (G0_18.out.below hb)
  have H0_19 := Lib.hid (H0_18.out.below hb)
  have Z_19 := Lib.hid (Z_18.out.below hb)
  clear hb HB_18 R_18 A_18 W0_18 V_18 U_18 G0_18 H0_18 Z_18
  clear u0 u1
  go_wp2
  go_ret
  exact ⟨rfl, HB_19.out⟩

/-! ### The row's step -/
set_option maxRecDepth 100000 in
theorem lifted (os : Os) (started : os.Started) (H : Type) (enc : TypeId × Value → H) :
    ReturnsInHanded {} Try.checked os 4 .any (Rows.fnExactSumDealingsSpec.pre6 enc Try.prog Try.f4 Rows.fnExactSumDealingsRow.domain false) (Rows.fnExactSumDealingsSpec.post enc Try.prog Try.f4 false true false false) := by
  refine returnsInHanded_of_change (C := Try.checked) own started (by kernel_rfl) Try.func4
    (ChangeSpec.witness6 (enc := enc) (C := Try.checked) false ⟨#[], #[.agg #[.int .i64 0, .int .i64 0, .int .i64 0], .slice none 0 0], []⟩ 8 (by kernel_rfl) (by kernel_rfl) (by kernel_rfl) (by kernel_rfl)) ?_
  intro W base args ds gs before hval0 hW hcnd _
  have hval : ∀ (j : Nat) t v, Try.f4.params[j]? = some t → args[j]? = some v → Value.okWide Try.prog W .any base t v := hval0
  have hW' := hW
  obtain ⟨p, q, hA0, hV, rfl, hfz, hnd⟩ := hW
  have hA : DataW.TrodAll enc Try.prog W 0 (fun _ => true) true Try.f4.params.toList args.toList ds p := hA0
  rw [Try.params4] at hA hval
  obtain ⟨v0, vs0, d0, ds0, p0, q0, hargs, rfl, rfl, h0, r0⟩ := trodAll_cons hA
  obtain ⟨v1, vs1, d1, ds1, p1, q1, rfl, rfl, rfl, h1, r1⟩ := trodAll_cons r0
  obtain ⟨rfl, rfl, rfl⟩ := trodAll_nil r1
  obtain rfl : args = #[v0, v1] := by cases args; simp_all
  obtain ⟨rfl, rfl⟩ := trodVars_none hV
  have k0 := h0
  have lt0 : ∀ x ∈ p0, x.block < W.heap.size := by obtain ⟨m, hm⟩ := k0; exact DataW.trod_lt m _ _ _ hm
  obtain ⟨c0_0, c0_1, c0_2, y0_0, y0_1, y0_2, m0, rfl, rfl, rfl, hy0_0, hy0_1, hy0_2⟩ := open_agg3 Try.underlying47 (by kernel_rfl) (by kernel_rfl) (hval 0 47 v0 rfl rfl) h0
  obtain ⟨P0, e0_0, _, wP0⟩ := DataW.trod_int Try.underlying3 hy0_0
  obtain rfl := (List.cons.inj e0_0).1
  obtain ⟨Q0, e0_1, _, wQ0⟩ := DataW.trod_int Try.underlying3 hy0_1
  obtain rfl := (List.cons.inj e0_1).1
  obtain ⟨G0, e0_2, _, wG0⟩ := DataW.trod_int Try.underlying3 hy0_2
  obtain rfl := (List.cons.inj e0_2).1
  have k1 := h1
  have lt1 : ∀ x ∈ p1, x.block < W.heap.size := by obtain ⟨m, hm⟩ := k1; exact DataW.trod_lt m _ _ _ hm
  obtain ⟨a1, len1, cap1, rfl⟩ := okWide_slice Try.underlying48 (hval 1 48 v1 rfl rfl)
  have w1 := (fun ⟨fuel, hf⟩ => inDs_open (fuel := fuel) hf) h1
  clear hA0 hval0
  refine (walk P0 Q0 G0 _ W wP0 wQ0 wG0 w1).mono fun e W' ⟨he, bel⟩ => ?_
  subst he
  exact ⟨_, rfl, _, _, _, [], _, [], hW', trodAll_mk1 (shut_bool Try.underlying4 _), (trodAll_cons_mk (Below.trod laidOut (by kernel_rfl) (of_decide_eq_true (by kernel_rfl)) k0 bel lt0) (trodAll_cons_mk (Below.trod laidOut (by kernel_rfl) (of_decide_eq_true (by kernel_rfl)) k1 bel lt1) trodAll_mk0)), rfl, bel.frame _, fun h => by cases h⟩

theorem over : Rows.fnExactSumDealingsRow.holds Try.pinned (OpenSpec.ofChange Rows.fnExactSumDealingsSpec) :=
  OpenClaim.holds_of_wide 4 Try.f4 rfl rfl rfl rfl rfl rfl rfl ⟨rfl, rfl, rfl, rfl, rfl⟩ rfl rfl rfl rfl rfl (by kernel_rfl) Try.func4
    (show joinedFacts Try.prog 4 Try.f4 Rows.fnExactSumDealingsSpec Rows.fnExactSumDealingsRow = true by unfold joinedFacts; rw [Head.make, Head.lifts, Head.enters]; kernel_rfl)
    (of_decide_eq_true (by kernel_rfl)) (by unfold Func.isWrapper; first | (rw [if_pos (by decide +kernel)]; kernel_rfl) | (rw [if_neg (by decide +kernel)]; exact ⟨rfl, rfl⟩))
    (fun os started H enc _ => lifted os started H enc)

/-- The statement. -/
theorem proved : Rows.FnExactSumDealingsSaid := over
#print axioms proved
end Go.Proofs.Ytchlnkdlnfjijaa.fnExactSumDealings
