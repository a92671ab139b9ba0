/-
For every group and every further argument the law FnExactProveLinear returns true: the program's ProveLinear answers as the reference's does, leaves its arguments as they were, and its answer owns its memory.
No condition.
-/
import Derived.Test.YtdaekpfngphefaaRows
import Derived.WalkKit
import Derived.ProofKit
import Derived.OpenShut
import Derived.ShutString
import Derived.ChangeOld
import Derived.Below
import Derived.Lib.SmallJoins
import Derived.Test.YtdaekpfngphefaaSigN
import Derived.Test.YtdaekpfngphefaaOpS
import Derived.Test.YtdaekpfngphefaaFacts
namespace Go.Proofs.Ytdaekpfngphefaa.fnExactProveLinear
open Go.Joins Go.ChangeShapes Go.WideShapes Go.ChangeAt Go.RowKit Go.Deep
open Go.ChangeMaps (open_string shut_string)
set_option linter.unusedVariables false

theorem own : ownKnob Try.prog.godebug = none := by kernel_rfl
theorem laidOut : laidOutB Try.prog = true := by kernel_rfl

/-- What the walk is told of a slice of integers that came in: it is nil; or it leads to a row of 'cap' cells that hold the numbers 'zs'. -/
def IsRow (k : IntKind) (w : World) (a : Option Addr) (len cap : Nat) (zs : List Int) : Prop :=
  (a = none ∧ len = 0 ∧ cap = 0 ∧ zs = []) ∨
  ∃ x, a = some x ∧ len ≤ cap ∧ cap ≤ maxLen ∧ zs.length = cap ∧ (∀ i, i < zs.length → w.cell? (x.add i) = some (.int k (zs.getD i 0))) ∧ ∀ n ∈ zs, (Lit.int k n).wf = true

theorem gr_mid {w w' : World} {b A B : Nat} {P Q G : Int} (h : GR w b P Q G) (hm : Mid A B w w') (hb : b < A) : GR w' b P Q G := by
  have hl := h.lt
  have he := hm.block b hl (.inl hb)
  obtain ⟨c0, c1, c2⟩ := h
  refine ⟨?_, ?_, ?_⟩
  · rw [World.cell?_of_block (a := ⟨b, 0, none⟩) he]; exact c0
  · rw [World.cell?_of_block (a := ⟨b, 1, none⟩) he]; exact c1
  · rw [World.cell?_of_block (a := ⟨b, 2, none⟩) he]; exact c2

/-! ### STEP 1: the walk: the Go text returns true and writes nothing that was there -/
set_option maxRecDepth 100000 in
set_option maxHeartbeats 3200000 in
theorem walk (P0 Q0 G0 : Int) (a1 : ByteArray) (a2 : Value) (a3 : Option Addr) (len3 cap3 : Nat) (z3 : List Int) (a4 : Option Addr) (len4 cap4 : Nat) (z4 : List Int) (w : World) (wP0 : (Lit.int .i64 P0).wf = true) (wQ0 : (Lit.int .i64 Q0).wf = true) (wG0 : (Lit.int .i64 G0).wf = true) (w1 : a1.size ≤ maxLen) (w2 : ∃ zss, InS w.heap.size w a2 zss ∧ zss.length ≤ maxLen ∧ ∀ z ∈ zss, z.length ≤ maxLen) (w3 : IsRow .i64 w a3 len3 cap3 z3) (w4 : IsRow .i64 w a4 len4 cap4 z4) :
    Calls Try.prog 7 #[.agg #[.int .i64 P0, .int .i64 Q0, .int .i64 G0], .string a1, a2, .slice a3 len3 cap3, .slice a4 len4 cap4] w fun e w' => e = .returned (.bool true) ∧ Below w.heap.size w w' := by
  obtain ⟨rows, hrows, mrows, rrows⟩ := w2
  obtain ⟨hxs, nxs, mxs⟩ := inI_of_row w3
  generalize z3.take len3 = xs at hxs nxs
  clear w3
  obtain ⟨hcs, ncs, mcs⟩ := inI_of_row w4
  generalize z4.take len4 = cs at hcs ncs
  clear w4
  by_cases b1 : 1048576 < a1.size
  · have c1 : (1048576 : Int) < (a1.size : Int) := by omega
    unfold maxLen at w1
    go_enter Try.func7, Try.ntmps7
    go_wp2
    go_ret
    exact ⟨rfl, ba _ _⟩
  have c1 : (a1.size : Int) ≤ 1048576 := by omega
  have d1 : a1.size ≤ 1048576 := by omega
  by_cases b3 : 1048576 < len3
  · have c3 : (1048576 : Int) < (len3 : Int) := by omega
    unfold maxLen at mxs
    go_enter Try.func7, Try.ntmps7
    go_wp2
    go_ret
    exact ⟨rfl, ba _ _⟩
  have c3 : (len3 : Int) ≤ 1048576 := by omega
  have lxs : xs.length ≤ 1048576 := by omega
  by_cases b4 : 1048576 < len4
  · have c4 : (1048576 : Int) < (len4 : Int) := by omega
    unfold maxLen at mcs
    go_enter Try.func7, Try.ntmps7
    go_wp2
    go_ret
    exact ⟨rfl, ba _ _⟩
  have c4 : (len4 : Int) ≤ 1048576 := by omega
  have lcs : cs.length ≤ 1048576 := by omega
  by_cases b2 : 1048576 < rows.length + nS rows
  · have e1 : szV (rows.length + nS rows) 1048576 = -1 := by unfold szV; rw [if_neg (by omega)]
    have E1 := Lib.hid e1
    clear e1
    go_enter Try.func7, Try.ntmps7
    go_wp2_with fail
    refine (szS_any (hrows.below (ba w (.cells #[.int .i64 P0, .int .i64 Q0, .int .i64 G0] 23))) (by omega) (by omega) mrows rrows).mono ?_
    rw [E1.out]
    rintro e w' ⟨rfl, rfl⟩
    go_wp2
    go_ret
    exact ⟨rfl, ba _ _⟩
  have e1 : szV (rows.length + nS rows) 1048576 = 1048576 - ((rows.length + nS rows : Nat) : Int) := by unfold szV; rw [if_pos (by omega)]
  have E1 := Lib.hid e1
  have lrows : rows.length ≤ 1048576 := by omega
  have srows : nS rows ≤ 1048576 := by omega
  have Rrows := Lib.hid (show ∀ z ∈ rows, z.length ≤ 17592186044416 from fun z hz => Nat.le_trans (nS_le hz) (by omega))
  have Mrows := Lib.hid mrows
  have Trows := Lib.hid rrows
  clear e1
  have Ha := hrows
  have Hb := hxs
  have Hc := hcs
  have HR_0 := Lib.hid (gr_new w P0 Q0 G0 23)
  have HB_0 := Lib.hid (ba w (.cells #[.int .i64 P0, .int .i64 Q0, .int .i64 G0] 23))
  have Ha_0 := Lib.hid (Ha.below (ba w (.cells #[.int .i64 P0, .int .i64 Q0, .int .i64 G0] 23)))
  have Hb_0 := Lib.hid (Hb.below (ba w (.cells #[.int .i64 P0, .int .i64 Q0, .int .i64 G0] 23)))
  have Hc_0 := Lib.hid (Hc.below (ba w (.cells #[.int .i64 P0, .int .i64 Q0, .int .i64 G0] 23)))
  clear Ha hrows Hb hxs Hc hcs nxs mxs ncs mcs mrows rrows
  have HVL := Lib.hid (pl_n P0 Q0 G0 a1 rows xs cs)
  generalize hV : plV P0 Q0 G0 a1 rows xs cs = res at HVL
  generalize hK : plB P0 Q0 G0 a1 rows xs cs = ok
  have HV := Lib.hid hV
  have HK := Lib.hid hK
  have hrl : res.n ≤ 24 := HVL.out
  clear hV hK
  go_enter Try.func7, Try.ntmps7
  go_wp2_with fail
  refine (szS_any Ha_0.out (by omega) (by omega) Mrows.out Trows.out).mono ?_
  rw [E1.out]
  rintro e w' ⟨rfl, rfl⟩
  obtain ⟨g0, g1, g2⟩ := HR_0.out
  go_wp2_with fail
  refine (toGroup_any _ _ _ _).mono ?_
  rintro e v1 ⟨rfl, hb⟩
  have HR_1 := Lib.hid (HR_0.out.below hb)
  have Ha_1 := Lib.hid (Ha_0.out.below hb)
  have Hb_1 := Lib.hid (Hb_0.out.below hb)
  have Hc_1 := Lib.hid (Hc_0.out.below hb)
  have HB_1 := Lib.hid (bt HB_0.out hb)
  clear HR_0 Ha_0 Hb_0 Hc_0 HB_0
  clear hb
  clear g0 g1 g2
  go_wp2_with fail
  refine (toS_any Ha_1.out (by omega) (by omega)).mono ?_
  rintro e v2 ⟨ua1, rfl, ho, hb⟩
  have HR_2 := Lib.hid (HR_1.out.below hb)
  have Ha_2 := Lib.hid (Ha_1.out.below hb)
  have Hb_2 := Lib.hid (Hb_1.out.below hb)
  have Hc_2 := Lib.hid (Hc_1.out.below hb)
  have HB_2 := Lib.hid (bt HB_1.out hb)
  clear HR_1 Ha_1 Hb_1 Hc_1 HB_1
  clear hb
  have HCa_2 := Lib.hid (ho.toIn)
  clear ho
  go_wp2_with fail
  refine (toI_any Hb_2.out (by omega)).mono ?_
  rintro e v3 ⟨ub2, rfl, ho, hb⟩
  have HR_3 := Lib.hid (HR_2.out.below hb)
  have Ha_3 := Lib.hid (Ha_2.out.below hb)
  have Hb_3 := Lib.hid (Hb_2.out.below hb)
  have Hc_3 := Lib.hid (Hc_2.out.below hb)
  have HCa_3 := Lib.hid (HCa_2.out.below hb)
  have HB_3 := Lib.hid (bt HB_2.out hb)
  clear HR_2 Ha_2 Hb_2 Hc_2 HCa_2 HB_2
  clear hb
  have HCb_3 := Lib.hid (ho.toIn)
  clear ho
  go_wp2_with fail
  refine (toI_any Hc_3.out (by omega)).mono ?_
  rintro e v4 ⟨uc3, rfl, ho, hb⟩
  have HR_4 := Lib.hid (HR_3.out.below hb)
  have Ha_4 := Lib.hid (Ha_3.out.below hb)
  have Hb_4 := Lib.hid (Hb_3.out.below hb)
  have Hc_4 := Lib.hid (Hc_3.out.below hb)
  have HCa_4 := Lib.hid (HCa_3.out.below hb)
  have HCb_4 := Lib.hid (HCb_3.out.below hb)
  have HB_4 := Lib.hid (bt HB_3.out hb)
  clear HR_3 Ha_3 Hb_3 Hc_3 HCa_3 HCb_3 HB_3
  clear hb
  have HCc_4 := Lib.hid (ho.toIn)
  clear ho
  go_wp2_with fail
  refine (sProvL_any P0 Q0 G0 a1 d1 (by omega) Rrows.out (by omega) (by omega) HCa_4.out HCb_4.out HCc_4.out).mono ?_
  rw [HV.out, HK.out]
  rintro e v5 ⟨wa, wb, wc, rfl, ho, hb1⟩
  obtain ⟨wa1, wa2, wb1, wb2, wc1, wc2, hsh⟩ := inP_shapeQ (OwP.toIn ho)
  simp only [Value.agg.injEq, Array.mk.injEq, List.cons.injEq, and_true] at hsh
  obtain ⟨rfl, rfl, rfl⟩ := hsh
  have hba := ba v5 (.cells #[.slice wa1 res.c.length wa2, .slice wb1 res.h.length wb2, .slice wc1 res.r.length wc2] 36)
  have hb := bt hb1 hba
  have HR_5 := Lib.hid (HR_4.out.below hb)
  have Ha_5 := Lib.hid (Ha_4.out.below hb)
  have Hb_5 := Lib.hid (Hb_4.out.below hb)
  have Hc_5 := Lib.hid (Hc_4.out.below hb)
  have HCa_5 := Lib.hid (HCa_4.out.below hb)
  have HCb_5 := Lib.hid (HCb_4.out.below hb)
  have HCc_5 := Lib.hid (HCc_4.out.below hb)
  have HB_5 := Lib.hid (bt HB_4.out hb)
  clear HR_4 Ha_4 Hb_4 Hc_4 HCa_4 HCb_4 HCc_4 HB_4
  have HW_5 := Lib.hid (InP.below (OwP.toIn ho) hba)
  have HV_5 := Lib.hid (b3_new v5 (.slice wa1 res.c.length wa2) (.slice wb1 res.h.length wb2) (.slice wc1 res.r.length wc2) 36)
  clear hb ho hb1 hba
  go_wp2_with fail
  refine (toS_any Ha_5.out (by omega) (by omega)).mono ?_
  rintro e v6 ⟨xa, rfl, ho, hb⟩
  have LWa := Lib.hid HW_5.out.le
  have LVa := Lib.hid HV_5.out.lt
  have LBa := Lib.hid HB_5.out.size
  have LRa := Lib.hid HR_5.out.lt
  have HR_6 := Lib.hid (HR_5.out.below hb)
  have Ha_6 := Lib.hid (Ha_5.out.below hb)
  have Hb_6 := Lib.hid (Hb_5.out.below hb)
  have Hc_6 := Lib.hid (Hc_5.out.below hb)
  have HW_6 := Lib.hid (HW_5.out.below hb)
  have HV_6 := Lib.hid (HV_5.out.below hb)
  have HB_6 := Lib.hid (bt HB_5.out hb)
  clear HR_5 Ha_5 Hb_5 Hc_5 HW_5 HV_5 HB_5
  clear hb
  have HXa_6 := Lib.hid ho
  clear ho
  go_wp2_with fail
  refine (toI_any Hb_6.out (by omega)).mono ?_
  rintro e v7 ⟨xb, rfl, ho, hb⟩
  have LWb := Lib.hid HW_6.out.le
  have LVb := Lib.hid HV_6.out.lt
  have LBb := Lib.hid HB_6.out.size
  have LRb := Lib.hid HR_6.out.lt
  have LXab := Lib.hid HXa_6.out.le
  have HR_7 := Lib.hid (HR_6.out.below hb)
  have Ha_7 := Lib.hid (Ha_6.out.below hb)
  have Hb_7 := Lib.hid (Hb_6.out.below hb)
  have Hc_7 := Lib.hid (Hc_6.out.below hb)
  have HW_7 := Lib.hid (HW_6.out.below hb)
  have HV_7 := Lib.hid (HV_6.out.below hb)
  have HXa_7 := Lib.hid (HXa_6.out.below hb)
  have HB_7 := Lib.hid (bt HB_6.out hb)
  clear HR_6 Ha_6 Hb_6 Hc_6 HW_6 HV_6 HXa_6 HB_6
  clear hb
  have HXb_7 := Lib.hid ho
  clear ho
  go_wp2_with fail
  refine (toI_any Hc_7.out (by omega)).mono ?_
  rintro e v8 ⟨xc, rfl, ho, hb⟩
  have LWc := Lib.hid HW_7.out.le
  have LVc := Lib.hid HV_7.out.lt
  have LBc := Lib.hid HB_7.out.size
  have LRc := Lib.hid HR_7.out.lt
  have LXac := Lib.hid HXa_7.out.le
  have LXbc := Lib.hid HXb_7.out.le
  have HR_8 := Lib.hid (HR_7.out.below hb)
  have Ha_8 := Lib.hid (Ha_7.out.below hb)
  have Hb_8 := Lib.hid (Hb_7.out.below hb)
  have Hc_8 := Lib.hid (Hc_7.out.below hb)
  have HW_8 := Lib.hid (HW_7.out.below hb)
  have HV_8 := Lib.hid (HV_7.out.below hb)
  have HXa_8 := Lib.hid (HXa_7.out.below hb)
  have HXb_8 := Lib.hid (HXb_7.out.below hb)
  have HB_8 := Lib.hid (bt HB_7.out hb)
  clear HR_7 Ha_7 Hb_7 Hc_7 HW_7 HV_7 HXa_7 HXb_7 HB_7
  clear hb
  have HXc_8 := Lib.hid ho
  clear ho
  obtain ⟨g0, g1, g2⟩ := HR_8.out
  go_wp2_with fail
  refine (toGroup_any _ _ _ _).mono ?_
  rintro e v9 ⟨rfl, hb⟩
  have HR_9 := Lib.hid (HR_8.out.below hb)
  have Ha_9 := Lib.hid (Ha_8.out.below hb)
  have Hb_9 := Lib.hid (Hb_8.out.below hb)
  have Hc_9 := Lib.hid (Hc_8.out.below hb)
  have HW_9 := Lib.hid (HW_8.out.below hb)
  have HV_9 := Lib.hid (HV_8.out.below hb)
  have HXa_9 := Lib.hid (HXa_8.out.below hb)
  have HXb_9 := Lib.hid (HXb_8.out.below hb)
  have HXc_9 := Lib.hid (HXc_8.out.below hb)
  have HB_9 := Lib.hid (bt HB_8.out hb)
  clear HR_8 Ha_8 Hb_8 Hc_8 HW_8 HV_8 HXa_8 HXb_8 HXc_8 HB_8
  clear hb
  clear g0 g1 g2
  go_wp2_with fail
  refine (provL_any P0 Q0 G0 a1 d1 (by omega) Rrows.out (by omega) (by omega) HXa_9.out.toIn HXb_9.out.toIn HXc_9.out.toIn).mono ?_
  rw [HV.out, HK.out]
  rintro e v10 ⟨ga, gb, gc, rfl, ho, hb1⟩
  obtain ⟨ga1, ga2, gb1, gb2, gc1, gc2, hsh⟩ := inP_shapeQ (OwQ.toIn ho)
  simp only [Value.agg.injEq, Array.mk.injEq, List.cons.injEq, and_true] at hsh
  obtain ⟨rfl, rfl, rfl⟩ := hsh
  have LWG := Lib.hid HW_9.out.le
  have LVG := Lib.hid HV_9.out.lt
  have LBG := Lib.hid HB_9.out.size
  have LRG := Lib.hid HR_9.out.lt
  have LXaG := Lib.hid HXa_9.out.le
  have LXaU := Lib.hid (Nat.le_trans HXa_9.out.le hb1.size)
  have LXbG := Lib.hid HXb_9.out.le
  have LXbU := Lib.hid (Nat.le_trans HXb_9.out.le hb1.size)
  have LXcG := Lib.hid HXc_9.out.le
  have LXcU := Lib.hid (Nat.le_trans HXc_9.out.le hb1.size)
  have hba := ba v10 (.cells #[.slice ga1 res.c.length ga2, .slice gb1 res.h.length gb2, .slice gc1 res.r.length gc2] 36)
  have hb := bt hb1 hba
  have HR_10 := Lib.hid (HR_9.out.below hb)
  have Ha_10 := Lib.hid (Ha_9.out.below hb)
  have Hb_10 := Lib.hid (Hb_9.out.below hb)
  have Hc_10 := Lib.hid (Hc_9.out.below hb)
  have HW_10 := Lib.hid (HW_9.out.below hb)
  have HV_10 := Lib.hid (HV_9.out.below hb)
  have HXa_10 := Lib.hid (HXa_9.out.below hb)
  have HXb_10 := Lib.hid (HXb_9.out.below hb)
  have HXc_10 := Lib.hid (HXc_9.out.below hb)
  have HB_10 := Lib.hid (bt HB_9.out hb)
  clear HR_9 Ha_9 Hb_9 Hc_9 HW_9 HV_9 HXa_9 HXb_9 HXc_9 HB_9
  have HG_10 := Lib.hid (ho.below hba)
  have HU_10 := Lib.hid (b3_new v10 (.slice ga1 res.c.length ga2) (.slice gb1 res.h.length gb2) (.slice gc1 res.r.length gc2) 36)
  clear hb ho hb1 hba
  obtain ⟨x0, x1, x2, _⟩ := HV_10.out
  obtain ⟨y0, y1, y2, _⟩ := HU_10.out
  go_wp2_with fail
  refine (eqP_any HG_10.out.toIn HW_10.out (by omega)).mono ?_
  rintro e v11 ⟨rfl, hb⟩
  clear x0 x1 x2 y0 y1 y2
  have HR_11 := Lib.hid (HR_10.out.below hb)
  have Ha_11 := Lib.hid (Ha_10.out.below hb)
  have Hb_11 := Lib.hid (Hb_10.out.below hb)
  have Hc_11 := Lib.hid (Hc_10.out.below hb)
  have HW_11 := Lib.hid (HW_10.out.below hb)
  have HV_11 := Lib.hid (HV_10.out.below hb)
  have HXa_11 := Lib.hid (HXa_10.out.below hb)
  have HXb_11 := Lib.hid (HXb_10.out.below hb)
  have HXc_11 := Lib.hid (HXc_10.out.below hb)
  have HG_11 := Lib.hid (HG_10.out.below hb)
  have HU_11 := Lib.hid (HU_10.out.below hb)
  have HB_11 := Lib.hid (bt HB_10.out hb)
  clear HR_10 Ha_10 Hb_10 Hc_10 HW_10 HV_10 HXa_10 HXb_10 HXc_10 HG_10 HU_10 HB_10
  clear hb
  go_wp2_with fail
  refine (toS_any Ha_11.out (by omega) (by omega)).mono ?_
  rintro e v12 ⟨ua11, rfl, ho, hb⟩
  have HR_12 := Lib.hid (HR_11.out.below hb)
  have Ha_12 := Lib.hid (Ha_11.out.below hb)
  have Hb_12 := Lib.hid (Hb_11.out.below hb)
  have Hc_12 := Lib.hid (Hc_11.out.below hb)
  have HW_12 := Lib.hid (HW_11.out.below hb)
  have HV_12 := Lib.hid (HV_11.out.below hb)
  have HXa_12 := Lib.hid (HXa_11.out.below hb)
  have HXb_12 := Lib.hid (HXb_11.out.below hb)
  have HXc_12 := Lib.hid (HXc_11.out.below hb)
  have HG_12 := Lib.hid (HG_11.out.below hb)
  have HU_12 := Lib.hid (HU_11.out.below hb)
  have HB_12 := Lib.hid (bt HB_11.out hb)
  clear HR_11 Ha_11 Hb_11 Hc_11 HW_11 HV_11 HXa_11 HXb_11 HXc_11 HG_11 HU_11 HB_11
  clear hb
  have HC_12 := Lib.hid (ho.toIn)
  clear ho
  go_wp2_with fail
  refine (eqS_any HXa_12.out.toIn HC_12.out (by omega) (by omega)).mono ?_
  rintro e v13 ⟨rfl, hb⟩
  have HR_13 := Lib.hid (HR_12.out.below hb)
  have Ha_13 := Lib.hid (Ha_12.out.below hb)
  have Hb_13 := Lib.hid (Hb_12.out.below hb)
  have Hc_13 := Lib.hid (Hc_12.out.below hb)
  have HW_13 := Lib.hid (HW_12.out.below hb)
  have HV_13 := Lib.hid (HV_12.out.below hb)
  have HXa_13 := Lib.hid (HXa_12.out.below hb)
  have HXb_13 := Lib.hid (HXb_12.out.below hb)
  have HXc_13 := Lib.hid (HXc_12.out.below hb)
  have HG_13 := Lib.hid (HG_12.out.below hb)
  have HU_13 := Lib.hid (HU_12.out.below hb)
  have HC_13 := Lib.hid (HC_12.out.below hb)
  have HB_13 := Lib.hid (bt HB_12.out hb)
  clear HR_12 Ha_12 Hb_12 Hc_12 HW_12 HV_12 HXa_12 HXb_12 HXc_12 HG_12 HU_12 HC_12 HB_12
  clear hb
  go_wp2_with fail
  refine (toI_any Hb_13.out (by omega)).mono ?_
  rintro e v14 ⟨ub13, rfl, ho, hb⟩
  have HR_14 := Lib.hid (HR_13.out.below hb)
  have Ha_14 := Lib.hid (Ha_13.out.below hb)
  have Hb_14 := Lib.hid (Hb_13.out.below hb)
  have Hc_14 := Lib.hid (Hc_13.out.below hb)
  have HW_14 := Lib.hid (HW_13.out.below hb)
  have HV_14 := Lib.hid (HV_13.out.below hb)
  have HXa_14 := Lib.hid (HXa_13.out.below hb)
  have HXb_14 := Lib.hid (HXb_13.out.below hb)
  have HXc_14 := Lib.hid (HXc_13.out.below hb)
  have HG_14 := Lib.hid (HG_13.out.below hb)
  have HU_14 := Lib.hid (HU_13.out.below hb)
  have HB_14 := Lib.hid (bt HB_13.out hb)
  clear HR_13 Ha_13 Hb_13 Hc_13 HW_13 HV_13 HXa_13 HXb_13 HXc_13 HG_13 HU_13 HB_13
  clear hb
  have HC_14 := Lib.hid (ho.toIn)
  clear ho
  go_wp2_with fail
  refine (eqI_any HXb_14.out.toIn HC_14.out (by omega)).mono ?_
  rintro e v15 ⟨rfl, hb⟩
  have HR_15 := Lib.hid (HR_14.out.below hb)
  have Ha_15 := Lib.hid (Ha_14.out.below hb)
  have Hb_15 := Lib.hid (Hb_14.out.below hb)
  have Hc_15 := Lib.hid (Hc_14.out.below hb)
  have HW_15 := Lib.hid (HW_14.out.below hb)
  have HV_15 := Lib.hid (HV_14.out.below hb)
  have HXa_15 := Lib.hid (HXa_14.out.below hb)
  have HXb_15 := Lib.hid (HXb_14.out.below hb)
  have HXc_15 := Lib.hid (HXc_14.out.below hb)
  have HG_15 := Lib.hid (HG_14.out.below hb)
  have HU_15 := Lib.hid (HU_14.out.below hb)
  have HC_15 := Lib.hid (HC_14.out.below hb)
  have HB_15 := Lib.hid (bt HB_14.out hb)
  clear HR_14 Ha_14 Hb_14 Hc_14 HW_14 HV_14 HXa_14 HXb_14 HXc_14 HG_14 HU_14 HC_14 HB_14
  clear hb
  go_wp2_with fail
  refine (toI_any Hc_15.out (by omega)).mono ?_
  rintro e v16 ⟨uc15, rfl, ho, hb⟩
  have HR_16 := Lib.hid (HR_15.out.below hb)
  have Ha_16 := Lib.hid (Ha_15.out.below hb)
  have Hb_16 := Lib.hid (Hb_15.out.below hb)
  have Hc_16 := Lib.hid (Hc_15.out.below hb)
  have HW_16 := Lib.hid (HW_15.out.below hb)
  have HV_16 := Lib.hid (HV_15.out.below hb)
  have HXa_16 := Lib.hid (HXa_15.out.below hb)
  have HXb_16 := Lib.hid (HXb_15.out.below hb)
  have HXc_16 := Lib.hid (HXc_15.out.below hb)
  have HG_16 := Lib.hid (HG_15.out.below hb)
  have HU_16 := Lib.hid (HU_15.out.below hb)
  have HB_16 := Lib.hid (bt HB_15.out hb)
  clear HR_15 Ha_15 Hb_15 Hc_15 HW_15 HV_15 HXa_15 HXb_15 HXc_15 HG_15 HU_15 HB_15
  clear hb
  have HC_16 := Lib.hid (ho.toIn)
  clear ho
  go_wp2_with fail
  refine (eqI_any HXc_16.out.toIn HC_16.out (by omega)).mono ?_
  rintro e v17 ⟨rfl, hb⟩
  have HR_17 := Lib.hid (HR_16.out.below hb)
  have Ha_17 := Lib.hid (Ha_16.out.below hb)
  have Hb_17 := Lib.hid (Hb_16.out.below hb)
  have Hc_17 := Lib.hid (Hc_16.out.below hb)
  have HW_17 := Lib.hid (HW_16.out.below hb)
  have HV_17 := Lib.hid (HV_16.out.below hb)
  have HXa_17 := Lib.hid (HXa_16.out.below hb)
  have HXb_17 := Lib.hid (HXb_16.out.below hb)
  have HXc_17 := Lib.hid (HXc_16.out.below hb)
  have HG_17 := Lib.hid (HG_16.out.below hb)
  have HU_17 := Lib.hid (HU_16.out.below hb)
  have HC_17 := Lib.hid (HC_16.out.below hb)
  have HB_17 := Lib.hid (bt HB_16.out hb)
  clear HR_16 Ha_16 Hb_16 Hc_16 HW_16 HV_16 HXa_16 HXb_16 HXc_16 HG_16 HU_16 HC_16 HB_16
  clear hb
  go_wp2_with fail
  refine (markS_any HXa_17.out (by omega) (by omega) (by omega) (by omega)).mono ?_
  rintro e v18 ⟨rfl, ho, hmi⟩
  clear ho
  have HR_18 := Lib.hid (gr_mid HR_17.out hmi LRa.out)
  have Ha_18 := Lib.hid (Ha_17.out.mid hmi LBa.out)
  have Hb_18 := Lib.hid (Hb_17.out.mid hmi LBa.out)
  have Hc_18 := Lib.hid (Hc_17.out.mid hmi LBa.out)
  have HW_18 := Lib.hid (HW_17.out.mid hmi LWa.out)
  have HV_18 := Lib.hid (HV_17.out.mid hmi (.inl LVa.out))
  have HXb_18 := Lib.hid (HXb_17.out.mid hmi (.inr LXab.out))
  have HXc_18 := Lib.hid (HXc_17.out.mid hmi (.inr LXac.out))
  have HG_18 := Lib.hid (HG_17.out.mid hmi (.inr LXaG.out))
  have HU_18 := Lib.hid (HU_17.out.mid hmi (.inr LXaU.out))
  have HB_18 := Lib.hid (HB_17.out.trans (hmi.toBelow LBa.out HB_17.out.size))
  clear HR_17 Ha_17 Hb_17 Hc_17 HW_17 HV_17 HXb_17 HXc_17 HG_17 HU_17 HB_17
  clear hmi
  go_wp2_with fail
  refine (markI_any HXb_18.out (by omega) (by omega) (by omega)).mono ?_
  rintro e v19 ⟨rfl, ho, hmi⟩
  clear ho
  have HR_19 := Lib.hid (gr_mid HR_18.out hmi LRb.out)
  have Ha_19 := Lib.hid (Ha_18.out.mid hmi LBb.out)
  have Hb_19 := Lib.hid (Hb_18.out.mid hmi LBb.out)
  have Hc_19 := Lib.hid (Hc_18.out.mid hmi LBb.out)
  have HW_19 := Lib.hid (HW_18.out.mid hmi LWb.out)
  have HV_19 := Lib.hid (HV_18.out.mid hmi (.inl LVb.out))
  have HXc_19 := Lib.hid (HXc_18.out.mid hmi (.inr LXbc.out))
  have HG_19 := Lib.hid (HG_18.out.mid hmi (.inr LXbG.out))
  have HU_19 := Lib.hid (HU_18.out.mid hmi (.inr LXbU.out))
  have HB_19 := Lib.hid (HB_18.out.trans (hmi.toBelow LBb.out HB_18.out.size))
  clear HR_18 Ha_18 Hb_18 Hc_18 HW_18 HV_18 HXc_18 HG_18 HU_18 HB_18
  clear hmi
  go_wp2_with fail
  refine (markI_any HXc_19.out (by omega) (by omega) (by omega)).mono ?_
  rintro e v20 ⟨rfl, ho, hmi⟩
  clear ho
  have HR_20 := Lib.hid (gr_mid HR_19.out hmi LRc.out)
  have Ha_20 := Lib.hid (Ha_19.out.mid hmi LBc.out)
  have Hb_20 := Lib.hid (Hb_19.out.mid hmi LBc.out)
  have Hc_20 := Lib.hid (Hc_19.out.mid hmi LBc.out)
  have HW_20 := Lib.hid (HW_19.out.mid hmi LWc.out)
  have HV_20 := Lib.hid (HV_19.out.mid hmi (.inl LVc.out))
  have HG_20 := Lib.hid (HG_19.out.mid hmi (.inr LXcG.out))
  have HU_20 := Lib.hid (HU_19.out.mid hmi (.inr LXcU.out))
  have HB_20 := Lib.hid (HB_19.out.trans (hmi.toBelow LBc.out HB_19.out.size))
  clear HR_19 Ha_19 Hb_19 Hc_19 HW_19 HV_19 HG_19 HU_19 HB_19
  clear hmi
  obtain ⟨x0, x1, x2, _⟩ := HV_20.out
  obtain ⟨y0, y1, y2, _⟩ := HU_20.out
  go_wp2_with fail
  refine (eqP_any HG_20.out.toIn HW_20.out (by omega)).mono ?_
  rintro e v21 ⟨rfl, hb⟩
  clear x0 x1 x2 y0 y1 y2
  have HR_21 := Lib.hid (HR_20.out.below hb)
  have Ha_21 := Lib.hid (Ha_20.out.below hb)
  have Hb_21 := Lib.hid (Hb_20.out.below hb)
  have Hc_21 := Lib.hid (Hc_20.out.below hb)
  have HW_21 := Lib.hid (HW_20.out.below hb)
  have HV_21 := Lib.hid (HV_20.out.below hb)
  have HG_21 := Lib.hid (HG_20.out.below hb)
  have HU_21 := Lib.hid (HU_20.out.below hb)
  have HB_21 := Lib.hid (bt HB_20.out hb)
  clear HR_20 Ha_20 Hb_20 Hc_20 HW_20 HV_20 HG_20 HU_20 HB_20
  clear hb
  obtain ⟨y0, y1, y2, _⟩ := HU_21.out
  go_wp2_with fail
  refine (markQ_any HG_21.out (by omega) (by omega) (by omega)).mono ?_
  rintro e v22 ⟨rfl, ho, hmi⟩
  clear y0 y1 y2
  have HR_22 := Lib.hid (gr_mid HR_21.out hmi LRG.out)
  have Ha_22 := Lib.hid (Ha_21.out.mid hmi LBG.out)
  have Hb_22 := Lib.hid (Hb_21.out.mid hmi LBG.out)
  have Hc_22 := Lib.hid (Hc_21.out.mid hmi LBG.out)
  have HW_22 := Lib.hid (HW_21.out.mid hmi LWG.out)
  have HV_22 := Lib.hid (HV_21.out.mid hmi (.inl LVG.out))
  have HU_22 := Lib.hid (HU_21.out.mid hmi (.inr (Nat.le_refl _)))
  have HB_22 := Lib.hid (HB_21.out.trans (hmi.toBelow LBG.out HB_21.out.size))
  clear HR_21 Ha_21 Hb_21 Hc_21 HW_21 HV_21 HU_21 HB_21
  clear hmi
  have HG_22 := Lib.hid ho.toIn
  clear ho
  obtain ⟨y0, y1, y2, _⟩ := HU_22.out
  go_wp2_with fail
  refine (heldP_any HG_22.out (by omega) (by omega) (by omega)).mono ?_
  rintro e v23 ⟨rfl, hb⟩
  clear y0 y1 y2
  have HR_23 := Lib.hid (HR_22.out.below hb)
  have Ha_23 := Lib.hid (Ha_22.out.below hb)
  have Hb_23 := Lib.hid (Hb_22.out.below hb)
  have Hc_23 := Lib.hid (Hc_22.out.below hb)
  have HW_23 := Lib.hid (HW_22.out.below hb)
  have HV_23 := Lib.hid (HV_22.out.below hb)
  have HU_23 := Lib.hid (HU_22.out.below hb)
  have HG_23 := Lib.hid (HG_22.out.below hb)
  have HB_23 := Lib.hid (bt HB_22.out hb)
  clear HR_22 Ha_22 Hb_22 Hc_22 HW_22 HV_22 HU_22 HG_22 HB_22
  clear hb
  obtain ⟨g0, g1, g2⟩ := HR_23.out
  go_wp2_with fail
  refine (toGroup_any _ _ _ _).mono ?_
  rintro e v24 ⟨rfl, hb⟩
  have HR_24 := Lib.hid (HR_23.out.below hb)
  have Ha_24 := Lib.hid (Ha_23.out.below hb)
  have Hb_24 := Lib.hid (Hb_23.out.below hb)
  have Hc_24 := Lib.hid (Hc_23.out.below hb)
  have HW_24 := Lib.hid (HW_23.out.below hb)
  have HV_24 := Lib.hid (HV_23.out.below hb)
  have HU_24 := Lib.hid (HU_23.out.below hb)
  have HG_24 := Lib.hid (HG_23.out.below hb)
  have HB_24 := Lib.hid (bt HB_23.out hb)
  clear HR_23 Ha_23 Hb_23 Hc_23 HW_23 HV_23 HU_23 HG_23 HB_23
  clear hb
  clear g0 g1 g2
  go_wp2_with fail
  refine (toS_any Ha_24.out (by omega) (by omega)).mono ?_
  rintro e v25 ⟨ua24, rfl, ho, hb⟩
  have HR_25 := Lib.hid (HR_24.out.below hb)
  have Ha_25 := Lib.hid (Ha_24.out.below hb)
  have Hb_25 := Lib.hid (Hb_24.out.below hb)
  have Hc_25 := Lib.hid (Hc_24.out.below hb)
  have HW_25 := Lib.hid (HW_24.out.below hb)
  have HV_25 := Lib.hid (HV_24.out.below hb)
  have HU_25 := Lib.hid (HU_24.out.below hb)
  have HG_25 := Lib.hid (HG_24.out.below hb)
  have HB_25 := Lib.hid (bt HB_24.out hb)
  clear HR_24 Ha_24 Hb_24 Hc_24 HW_24 HV_24 HU_24 HG_24 HB_24
  clear hb
  have HCa_25 := Lib.hid (ho.toIn)
  clear ho
  go_wp2_with fail
  refine (toI_any Hb_25.out (by omega)).mono ?_
  rintro e v26 ⟨ub25, rfl, ho, hb⟩
  have HR_26 := Lib.hid (HR_25.out.below hb)
  have Ha_26 := Lib.hid (Ha_25.out.below hb)
  have Hb_26 := Lib.hid (Hb_25.out.below hb)
  have Hc_26 := Lib.hid (Hc_25.out.below hb)
  have HW_26 := Lib.hid (HW_25.out.below hb)
  have HV_26 := Lib.hid (HV_25.out.below hb)
  have HU_26 := Lib.hid (HU_25.out.below hb)
  have HG_26 := Lib.hid (HG_25.out.below hb)
  have HCa_26 := Lib.hid (HCa_25.out.below hb)
  have HB_26 := Lib.hid (bt HB_25.out hb)
  clear HR_25 Ha_25 Hb_25 Hc_25 HW_25 HV_25 HU_25 HG_25 HCa_25 HB_25
  clear hb
  have HCb_26 := Lib.hid (ho.toIn)
  clear ho
  go_wp2_with fail
  refine (toI_any Hc_26.out (by omega)).mono ?_
  rintro e v27 ⟨uc26, rfl, ho, hb⟩
  have HR_27 := Lib.hid (HR_26.out.below hb)
  have Ha_27 := Lib.hid (Ha_26.out.below hb)
  have Hb_27 := Lib.hid (Hb_26.out.below hb)
  have Hc_27 := Lib.hid (Hc_26.out.below hb)
  have HW_27 := Lib.hid (HW_26.out.below hb)
  have HV_27 := Lib.hid (HV_26.out.below hb)
  have HU_27 := Lib.hid (HU_26.out.below hb)
  have HG_27 := Lib.hid (HG_26.out.below hb)
  have HCa_27 := Lib.hid (HCa_26.out.below hb)
  have HCb_27 := Lib.hid (HCb_26.out.below hb)
  have HB_27 := Lib.hid (bt HB_26.out hb)
  clear HR_26 Ha_26 Hb_26 Hc_26 HW_26 HV_26 HU_26 HG_26 HCa_26 HCb_26 HB_26
  clear hb
  have HCc_27 := Lib.hid (ho.toIn)
  clear ho
  go_wp2_with fail
  refine (provL_any P0 Q0 G0 a1 d1 (by omega) Rrows.out (by omega) (by omega) HCa_27.out HCb_27.out HCc_27.out).mono ?_
  rw [HV.out, HK.out]
  rintro e v28 ⟨ka, kb, kc, rfl, ho, hb1⟩
  obtain ⟨ka1, ka2, kb1, kb2, kc1, kc2, hsh⟩ := inP_shapeQ (OwQ.toIn ho)
  simp only [Value.agg.injEq, Array.mk.injEq, List.cons.injEq, and_true] at hsh
  obtain ⟨rfl, rfl, rfl⟩ := hsh
  have hba := ba v28 (.cells #[.slice ka1 res.c.length ka2, .slice kb1 res.h.length kb2, .slice kc1 res.r.length kc2] 36)
  have hb := bt hb1 hba
  have HR_28 := Lib.hid (HR_27.out.below hb)
  have Ha_28 := Lib.hid (Ha_27.out.below hb)
  have Hb_28 := Lib.hid (Hb_27.out.below hb)
  have Hc_28 := Lib.hid (Hc_27.out.below hb)
  have HW_28 := Lib.hid (HW_27.out.below hb)
  have HV_28 := Lib.hid (HV_27.out.below hb)
  have HU_28 := Lib.hid (HU_27.out.below hb)
  have HG_28 := Lib.hid (HG_27.out.below hb)
  have HCa_28 := Lib.hid (HCa_27.out.below hb)
  have HCb_28 := Lib.hid (HCb_27.out.below hb)
  have HCc_28 := Lib.hid (HCc_27.out.below hb)
  have HB_28 := Lib.hid (bt HB_27.out hb)
  clear HR_27 Ha_27 Hb_27 Hc_27 HW_27 HV_27 HU_27 HG_27 HCa_27 HCb_27 HCc_27 HB_27
  have HH_28 := Lib.hid (InP.below (OwQ.toIn ho) hba)
  have HZ_28 := Lib.hid (b3_new v28 (.slice ka1 res.c.length ka2) (.slice kb1 res.h.length kb2) (.slice kc1 res.r.length kc2) 36)
  clear hb ho hb1 hba
  obtain ⟨x0, x1, x2, _⟩ := HV_28.out
  obtain ⟨y0, y1, y2, _⟩ := HZ_28.out
  go_wp2_with fail
  refine (eqP_any HH_28.out HW_28.out (by omega)).mono ?_
  rintro e v29 ⟨rfl, hb⟩
  clear x0 x1 x2 y0 y1 y2
  have HR_29 := Lib.hid (HR_28.out.below hb)
  have Ha_29 := Lib.hid (Ha_28.out.below hb)
  have Hb_29 := Lib.hid (Hb_28.out.below hb)
  have Hc_29 := Lib.hid (Hc_28.out.below hb)
  have HW_29 := Lib.hid (HW_28.out.below hb)
  have HV_29 := Lib.hid (HV_28.out.below hb)
  have HU_29 := Lib.hid (HU_28.out.below hb)
  have HG_29 := Lib.hid (HG_28.out.below hb)
  have HH_29 := Lib.hid (HH_28.out.below hb)
  have HZ_29 := Lib.hid (HZ_28.out.below hb)
  have HB_29 := Lib.hid (bt HB_28.out hb)
  clear HR_28 Ha_28 Hb_28 Hc_28 HW_28 HV_28 HU_28 HG_28 HH_28 HZ_28 HB_28
  clear hb
  obtain ⟨y0, y1, y2, _⟩ := HU_29.out
  go_wp2_with fail
  refine (heldP_any HG_29.out (by omega) (by omega) (by omega)).mono ?_
  rintro e v30 ⟨rfl, hb⟩
  clear y0 y1 y2
  have HR_30 := Lib.hid (HR_29.out.below hb)
  have Ha_30 := Lib.hid (Ha_29.out.below hb)
  have Hb_30 := Lib.hid (Hb_29.out.below hb)
  have Hc_30 := Lib.hid (Hc_29.out.below hb)
  have HW_30 := Lib.hid (HW_29.out.below hb)
  have HV_30 := Lib.hid (HV_29.out.below hb)
  have HU_30 := Lib.hid (HU_29.out.below hb)
  have HG_30 := Lib.hid (HG_29.out.below hb)
  have HH_30 := Lib.hid (HH_29.out.below hb)
  have HZ_30 := Lib.hid (HZ_29.out.below hb)
  have HB_30 := Lib.hid (bt HB_29.out hb)
  clear HR_29 Ha_29 Hb_29 Hc_29 HW_29 HV_29 HU_29 HG_29 HH_29 HZ_29 HB_29
  clear hb
  go_wp2
  go_ret
  exact ⟨rfl, HB_30.out⟩

/-! ### The row's step -/
set_option maxRecDepth 100000 in
theorem lifted (os : Os) (started : os.Started) (H : Type) (enc : TypeId × Value → H) :
    ReturnsInHanded {} Try.checked os 7 .any (Rows.fnExactProveLinearSpec.pre6 enc Try.prog Try.f7 Rows.fnExactProveLinearRow.domain false) (Rows.fnExactProveLinearSpec.post enc Try.prog Try.f7 false true false false) := by
  refine returnsInHanded_of_change (C := Try.checked) own started (by kernel_rfl) Try.func7
    (ChangeSpec.witness6 (enc := enc) (C := Try.checked) false ⟨#[], #[.agg #[.int .i64 0, .int .i64 0, .int .i64 0], .string ByteArray.empty, .slice none 0 0, .slice none 0 0, .slice none 0 0], []⟩ 8 (by kernel_rfl) (by kernel_rfl) (by kernel_rfl) (by kernel_rfl)) ?_
  intro W base args ds gs before hval0 hW hcnd _
  have hval : ∀ (j : Nat) t v, Try.f7.params[j]? = some t → args[j]? = some v → Value.okWide Try.prog W .any base t v := hval0
  have hW' := hW
  obtain ⟨p, q, hA0, hV, rfl, hfz, hnd⟩ := hW
  have hA : DataW.TrodAll enc Try.prog W 0 (fun _ => true) true Try.f7.params.toList args.toList ds p := hA0
  rw [Try.params7] at hA hval
  obtain ⟨v0, vs0, d0, ds0, p0, q0, hargs, rfl, rfl, h0, r0⟩ := trodAll_cons hA
  obtain ⟨v1, vs1, d1, ds1, p1, q1, rfl, rfl, rfl, h1, r1⟩ := trodAll_cons r0
  obtain ⟨v2, vs2, d2, ds2, p2, q2, rfl, rfl, rfl, h2, r2⟩ := trodAll_cons r1
  obtain ⟨v3, vs3, d3, ds3, p3, q3, rfl, rfl, rfl, h3, r3⟩ := trodAll_cons r2
  obtain ⟨v4, vs4, d4, ds4, p4, q4, rfl, rfl, rfl, h4, r4⟩ := trodAll_cons r3
  obtain ⟨rfl, rfl, rfl⟩ := trodAll_nil r4
  obtain rfl : args = #[v0, v1, v2, v3, v4] := by cases args; simp_all
  obtain ⟨rfl, rfl⟩ := trodVars_none hV
  have k0 := h0
  have lt0 : ∀ x ∈ p0, x.block < W.heap.size := by obtain ⟨m, hm⟩ := k0; exact DataW.trod_lt m _ _ _ hm
  obtain ⟨c0_0, c0_1, c0_2, y0_0, y0_1, y0_2, m0, rfl, rfl, rfl, hy0_0, hy0_1, hy0_2⟩ := open_agg3 Try.underlying23 (by kernel_rfl) (by kernel_rfl) (hval 0 23 v0 rfl rfl) h0
  obtain ⟨P0, e0_0, _, wP0⟩ := DataW.trod_int Try.underlying3 hy0_0
  obtain rfl := (List.cons.inj e0_0).1
  obtain ⟨Q0, e0_1, _, wQ0⟩ := DataW.trod_int Try.underlying3 hy0_1
  obtain rfl := (List.cons.inj e0_1).1
  obtain ⟨G0, e0_2, _, wG0⟩ := DataW.trod_int Try.underlying3 hy0_2
  obtain rfl := (List.cons.inj e0_2).1
  obtain ⟨a1, rfl, rfl, rfl, w1⟩ := open_string Try.underlying9 (hval 1 9 v1 rfl rfl) h1
  have k2 := h2
  have lt2 : ∀ x ∈ p2, x.block < W.heap.size := by obtain ⟨m, hm⟩ := k2; exact DataW.trod_lt m _ _ _ hm
  obtain ⟨a2, len2, cap2, rfl⟩ := okWide_slice Try.underlying24 (hval 2 24 v2 rfl rfl)
  have w2 := (fun ⟨fuel, hf⟩ => inS_open (fuel := fuel) hf) h2
  have k3 := h3
  have lt3 : ∀ x ∈ p3, x.block < W.heap.size := by obtain ⟨m, hm⟩ := k3; exact DataW.trod_lt m _ _ _ hm
  obtain ⟨a3, len3, cap3, rfl⟩ := okWide_slice Try.underlying25 (hval 3 25 v3 rfl rfl)
  obtain ⟨z3, w3⟩ : ∃ zs, IsRow .i64 W a3 len3 cap3 zs := by
    obtain ⟨fuel, hf⟩ := h3
    rcases open_ints Try.underlying25 Try.underlying3 (by kernel_rfl) hf with ⟨hcs, _⟩ | ⟨x, l, c, zs, hcs, _, hl, hm, hz, _, hcell, hwz⟩
    · simp [Value.cells] at hcs
      obtain ⟨rfl, rfl, rfl⟩ := hcs
      exact ⟨[], .inl ⟨rfl, rfl, rfl, rfl⟩⟩
    · simp [Value.cells] at hcs
      obtain ⟨rfl, rfl, rfl⟩ := hcs
      exact ⟨zs, .inr ⟨_, rfl, hl, hm, by simpa using hz, hcell, hwz⟩⟩
  have k4 := h4
  have lt4 : ∀ x ∈ p4, x.block < W.heap.size := by obtain ⟨m, hm⟩ := k4; exact DataW.trod_lt m _ _ _ hm
  obtain ⟨a4, len4, cap4, rfl⟩ := okWide_slice Try.underlying25 (hval 4 25 v4 rfl rfl)
  obtain ⟨z4, w4⟩ : ∃ zs, IsRow .i64 W a4 len4 cap4 zs := by
    obtain ⟨fuel, hf⟩ := h4
    rcases open_ints Try.underlying25 Try.underlying3 (by kernel_rfl) hf with ⟨hcs, _⟩ | ⟨x, l, c, zs, hcs, _, hl, hm, hz, _, hcell, hwz⟩
    · simp [Value.cells] at hcs
      obtain ⟨rfl, rfl, rfl⟩ := hcs
      exact ⟨[], .inl ⟨rfl, rfl, rfl, rfl⟩⟩
    · simp [Value.cells] at hcs
      obtain ⟨rfl, rfl, rfl⟩ := hcs
      exact ⟨zs, .inr ⟨_, rfl, hl, hm, by simpa using hz, hcell, hwz⟩⟩
  clear hA0 hval0
  refine (walk P0 Q0 G0 a1 _ a3 len3 cap3 z3 a4 len4 cap4 z4 W wP0 wQ0 wG0 w1 w2 w3 w4).mono fun e W' ⟨he, bel⟩ => ?_
  subst he
  exact ⟨_, rfl, _, _, _, [], _, [], hW', trodAll_mk1 (shut_bool Try.underlying4 _), (trodAll_cons_mk (Below.trod laidOut (by kernel_rfl) (of_decide_eq_true (by kernel_rfl)) k0 bel lt0) (trodAll_cons_mk (shut_string Try.underlying9 w1) (trodAll_cons_mk (Below.trod laidOut (by kernel_rfl) (of_decide_eq_true (by kernel_rfl)) k2 bel lt2) (trodAll_cons_mk (Below.trod laidOut (by kernel_rfl) (of_decide_eq_true (by kernel_rfl)) k3 bel lt3) (trodAll_cons_mk (Below.trod laidOut (by kernel_rfl) (of_decide_eq_true (by kernel_rfl)) k4 bel lt4) trodAll_mk0))))), rfl, bel.frame _, fun h => by cases h⟩

theorem over : Rows.fnExactProveLinearRow.holds Try.pinned (OpenSpec.ofChange Rows.fnExactProveLinearSpec) :=
  OpenClaim.holds_of_wide 7 Try.f7 rfl rfl rfl rfl rfl rfl rfl ⟨rfl, rfl, rfl, rfl, rfl⟩ rfl rfl rfl rfl rfl (by kernel_rfl) Try.func7
    (show joinedFacts Try.prog 7 Try.f7 Rows.fnExactProveLinearSpec Rows.fnExactProveLinearRow = true by unfold joinedFacts; rw [Head.make, Head.lifts, Head.enters]; kernel_rfl)
    (of_decide_eq_true (by kernel_rfl)) (by unfold Func.isWrapper; first | (rw [if_pos (by decide +kernel)]; kernel_rfl) | (rw [if_neg (by decide +kernel)]; exact ⟨rfl, rfl⟩))
    (fun os started H enc _ => lifted os started H enc)

/-- The statement. -/
theorem proved : Rows.FnExactProveLinearSaid := over
#print axioms proved
end Go.Proofs.Ytdaekpfngphefaa.fnExactProveLinear
