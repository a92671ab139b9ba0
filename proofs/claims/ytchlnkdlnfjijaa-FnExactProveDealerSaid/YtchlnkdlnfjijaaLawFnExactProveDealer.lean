/-
For every group and every further argument the law FnExactProveDealer returns true: the program's ProveDealer answers as the reference's does, leaves its arguments as they were, and its answer owns its memory.
No condition.
-/
import Derived.Test.YtchlnkdlnfjijaaRows
import Derived.WalkKit
import Derived.ProofKit
import Derived.OpenShut
import Derived.ShutString
import Derived.ChangeOld
import Derived.Below
import Derived.Lib.SmallJoins
import Derived.Test.YtchlnkdlnfjijaaDkQ
import Derived.Test.YtchlnkdlnfjijaaFacts
namespace Go.Proofs.Ytchlnkdlnfjijaa.fnExactProveDealer
open Go.Joins Go.ChangeShapes Go.WideShapes Go.ChangeAt Go.RowKit Go.Deep
open Go.ChangeMaps (open_string shut_string)
set_option linter.unusedVariables false

theorem own : ownKnob Try.prog.godebug = none := by kernel_rfl
theorem laidOut : laidOutB Try.prog = true := by kernel_rfl

/-- What the walk is told of a slice of integers that came in: it is nil; or it leads to a row of 'cap' cells that hold the numbers 'zs'. -/
def IsRow (k : IntKind) (w : World) (a : Option Addr) (len cap : Nat) (zs : List Int) : Prop :=
  (a = none ∧ len = 0 ∧ cap = 0 ∧ zs = []) ∨
  ∃ x, a = some x ∧ len ≤ cap ∧ cap ≤ maxLen ∧ zs.length = cap ∧ (∀ i, i < zs.length → w.cell? (x.add i) = some (.int k (zs.getD i 0))) ∧ ∀ n ∈ zs, (Lit.int k n).wf = true

theorem gr_mid {w w' : World} {b A B : Nat} {P Q G : Int} (h : GR w b P Q G) (hm : Mid A B w w') (hb : b < A) : GR w' b P Q G := by
  have hl := h.lt
  have he := hm.block b hl (.inl hb)
  obtain ⟨c0, c1, c2⟩ := h
  refine ⟨?_, ?_, ?_⟩
  · rw [World.cell?_of_block (a := ⟨b, 0, none⟩) he]; exact c0
  · rw [World.cell?_of_block (a := ⟨b, 1, none⟩) he]; exact c1
  · rw [World.cell?_of_block (a := ⟨b, 2, none⟩) he]; exact c2

/-! ### STEP 1: the walk: the Go text returns true and writes nothing that was there -/
set_option maxRecDepth 100000 in
set_option maxHeartbeats 3200000 in
theorem walk (P0 Q0 G0 : Int) (a1 : Option Addr) (len1 cap1 : Nat) (z1 : List Int) (a2 : Int) (w : World) (wP0 : (Lit.int .i64 P0).wf = true) (wQ0 : (Lit.int .i64 Q0).wf = true) (wG0 : (Lit.int .i64 G0).wf = true) (w1 : IsRow .i64 w a1 len1 cap1 z1) (w2 : (Lit.int .i64 a2).wf = true) :
    Calls Try.prog 12 #[.agg #[.int .i64 P0, .int .i64 Q0, .int .i64 G0], .slice a1 len1 cap1, .int .i64 a2] w fun e w' => e = .returned (.bool true) ∧ Below w.heap.size w w' := by
  obtain ⟨hcs, ncs, mcs⟩ := inI_of_row w1
  generalize z1.take len1 = cs at hcs ncs
  clear w1
  by_cases b1 : 1048576 < len1
  · have c1 : (1048576 : Int) < (len1 : Int) := by omega
    unfold maxLen at mcs
    go_enter Try.func12, Try.ntmps12
    go_wp2
    go_ret
    exact ⟨rfl, ba _ _⟩
  have c1 : (len1 : Int) ≤ 1048576 := by omega
  have lcs : cs.length ≤ 1048576 := by omega
  have Ha := hcs
  have HR_0 := Lib.hid (gr_new w P0 Q0 G0 47)
  have HB_0 := Lib.hid (ba w (.cells #[.int .i64 P0, .int .i64 Q0, .int .i64 G0] 47))
  have Ha_0 := Lib.hid (Ha.below (ba w (.cells #[.int .i64 P0, .int .i64 Q0, .int .i64 G0] 47)))
  clear Ha hcs ncs mcs
  have HVL := Lib.hid (pd_n P0 Q0 G0 cs a2)
  generalize hV : pdV P0 Q0 G0 cs a2 = res at HVL
  generalize hK : pdB P0 Q0 G0 cs a2 = ok
  have HV := Lib.hid hV
  have HK := Lib.hid hK
  have hrl : res.n ≤ 24 := HVL.out
  clear hV hK
  go_enter Try.func12, Try.ntmps12
  obtain ⟨g0, g1, g2⟩ := HR_0.out
  go_wp2_with fail
  refine (toGroup_any _ _ _ _).mono ?_
  rintro e v1 ⟨rfl, hb⟩
  have HR_1 := Lib.hid (HR_0.out.below hb)
  have Ha_1 := Lib.hid (Ha_0.out.below hb)
  have HB_1 := Lib.hid (bt HB_0.out hb)
  clear HR_0 Ha_0 HB_0
  clear hb
  clear g0 g1 g2
  go_wp2_with fail
  refine (toI_any Ha_1.out (by omega)).mono ?_
  rintro e v2 ⟨ua1, rfl, ho, hb⟩
  have HR_2 := Lib.hid (HR_1.out.below hb)
  have Ha_2 := Lib.hid (Ha_1.out.below hb)
  have HB_2 := Lib.hid (bt HB_1.out hb)
  clear HR_1 Ha_1 HB_1
  clear hb
  have HCa_2 := Lib.hid (ho.toIn)
  clear ho
  go_wp2_with fail
  refine (sProveDealer_ans P0 Q0 G0 a2 (by omega) HCa_2.out).mono ?_
  rw [HV.out, HK.out]
  rintro e v3 ⟨wa, wb, wc, rfl, ho, hb1⟩
  obtain ⟨wa1, wa2, wb1, wb2, wc1, wc2, hsh⟩ := inP_shapeQ (OwP.toIn ho)
  simp only [Value.agg.injEq, Array.mk.injEq, List.cons.injEq, and_true] at hsh
  obtain ⟨rfl, rfl, rfl⟩ := hsh
  have hba := ba v3 (.cells #[.slice wa1 res.c.length wa2, .slice wb1 res.h.length wb2, .slice wc1 res.r.length wc2] 84)
  have hb := bt hb1 hba
  have HR_3 := Lib.hid (HR_2.out.below hb)
  have Ha_3 := Lib.hid (Ha_2.out.below hb)
  have HCa_3 := Lib.hid (HCa_2.out.below hb)
  have HB_3 := Lib.hid (bt HB_2.out hb)
  clear HR_2 Ha_2 HCa_2 HB_2
  have HW_3 := Lib.hid (InP.below (OwP.toIn ho) hba)
  have HV_3 := Lib.hid (b3_new v3 (.slice wa1 res.c.length wa2) (.slice wb1 res.h.length wb2) (.slice wc1 res.r.length wc2) 84)
  clear hb ho hb1 hba
  go_wp2_with fail
  refine (toI_any Ha_3.out (by omega)).mono ?_
  rintro e v4 ⟨xa, rfl, ho, hb⟩
  have LWa := Lib.hid HW_3.out.le
  have LVa := Lib.hid HV_3.out.lt
  have LBa := Lib.hid HB_3.out.size
  have LRa := Lib.hid HR_3.out.lt
  have HR_4 := Lib.hid (HR_3.out.below hb)
  have Ha_4 := Lib.hid (Ha_3.out.below hb)
  have HW_4 := Lib.hid (HW_3.out.below hb)
  have HV_4 := Lib.hid (HV_3.out.below hb)
  have HB_4 := Lib.hid (bt HB_3.out hb)
  clear HR_3 Ha_3 HW_3 HV_3 HB_3
  clear hb
  have HXa_4 := Lib.hid ho
  clear ho
  obtain ⟨g0, g1, g2⟩ := HR_4.out
  go_wp2_with fail
  refine (toGroup_any _ _ _ _).mono ?_
  rintro e v5 ⟨rfl, hb⟩
  have HR_5 := Lib.hid (HR_4.out.below hb)
  have Ha_5 := Lib.hid (Ha_4.out.below hb)
  have HW_5 := Lib.hid (HW_4.out.below hb)
  have HV_5 := Lib.hid (HV_4.out.below hb)
  have HXa_5 := Lib.hid (HXa_4.out.below hb)
  have HB_5 := Lib.hid (bt HB_4.out hb)
  clear HR_4 Ha_4 HW_4 HV_4 HXa_4 HB_4
  clear hb
  clear g0 g1 g2
  go_wp2_with fail
  refine (proveDealer_ans P0 Q0 G0 a2 (by omega) HXa_5.out.toIn).mono ?_
  rw [HV.out, HK.out]
  rintro e v6 ⟨ga, gb, gc, rfl, ho, hb1⟩
  obtain ⟨ga1, ga2, gb1, gb2, gc1, gc2, hsh⟩ := inP_shapeQ (OwQ.toIn ho)
  simp only [Value.agg.injEq, Array.mk.injEq, List.cons.injEq, and_true] at hsh
  obtain ⟨rfl, rfl, rfl⟩ := hsh
  have LWG := Lib.hid HW_5.out.le
  have LVG := Lib.hid HV_5.out.lt
  have LBG := Lib.hid HB_5.out.size
  have LRG := Lib.hid HR_5.out.lt
  have LXaG := Lib.hid HXa_5.out.le
  have LXaU := Lib.hid (Nat.le_trans HXa_5.out.le hb1.size)
  have hba := ba v6 (.cells #[.slice ga1 res.c.length ga2, .slice gb1 res.h.length gb2, .slice gc1 res.r.length gc2] 84)
  have hb := bt hb1 hba
  have HR_6 := Lib.hid (HR_5.out.below hb)
  have Ha_6 := Lib.hid (Ha_5.out.below hb)
  have HW_6 := Lib.hid (HW_5.out.below hb)
  have HV_6 := Lib.hid (HV_5.out.below hb)
  have HXa_6 := Lib.hid (HXa_5.out.below hb)
  have HB_6 := Lib.hid (bt HB_5.out hb)
  clear HR_5 Ha_5 HW_5 HV_5 HXa_5 HB_5
  have HG_6 := Lib.hid (ho.below hba)
  have HU_6 := Lib.hid (b3_new v6 (.slice ga1 res.c.length ga2) (.slice gb1 res.h.length gb2) (.slice gc1 res.r.length gc2) 84)
  clear hb ho hb1 hba
  obtain ⟨x0, x1, x2, _⟩ := HV_6.out
  obtain ⟨y0, y1, y2, _⟩ := HU_6.out
  go_wp2_with fail
  refine (eqP_any HG_6.out.toIn HW_6.out (by omega)).mono ?_
  rintro e v7 ⟨rfl, hb⟩
  clear x0 x1 x2 y0 y1 y2
  have HR_7 := Lib.hid (HR_6.out.below hb)
  have Ha_7 := Lib.hid (Ha_6.out.below hb)
  have HW_7 := Lib.hid (HW_6.out.below hb)
  have HV_7 := Lib.hid (HV_6.out.below hb)
  have HXa_7 := Lib.hid (HXa_6.out.below hb)
  have HG_7 := Lib.hid (HG_6.out.below hb)
  have HU_7 := Lib.hid (HU_6.out.below hb)
  have HB_7 := Lib.hid (bt HB_6.out hb)
  clear HR_6 Ha_6 HW_6 HV_6 HXa_6 HG_6 HU_6 HB_6
  clear hb
  go_wp2_with fail
  refine (toI_any Ha_7.out (by omega)).mono ?_
  rintro e v8 ⟨ua7, rfl, ho, hb⟩
  have HR_8 := Lib.hid (HR_7.out.below hb)
  have Ha_8 := Lib.hid (Ha_7.out.below hb)
  have HW_8 := Lib.hid (HW_7.out.below hb)
  have HV_8 := Lib.hid (HV_7.out.below hb)
  have HXa_8 := Lib.hid (HXa_7.out.below hb)
  have HG_8 := Lib.hid (HG_7.out.below hb)
  have HU_8 := Lib.hid (HU_7.out.below hb)
  have HB_8 := Lib.hid (bt HB_7.out hb)
  clear HR_7 Ha_7 HW_7 HV_7 HXa_7 HG_7 HU_7 HB_7
  clear hb
  have HC_8 := Lib.hid (ho.toIn)
  clear ho
  go_wp2_with fail
  refine (eqI_any HXa_8.out.toIn HC_8.out (by omega)).mono ?_
  rintro e v9 ⟨rfl, hb⟩
  have HR_9 := Lib.hid (HR_8.out.below hb)
  have Ha_9 := Lib.hid (Ha_8.out.below hb)
  have HW_9 := Lib.hid (HW_8.out.below hb)
  have HV_9 := Lib.hid (HV_8.out.below hb)
  have HXa_9 := Lib.hid (HXa_8.out.below hb)
  have HG_9 := Lib.hid (HG_8.out.below hb)
  have HU_9 := Lib.hid (HU_8.out.below hb)
  have HC_9 := Lib.hid (HC_8.out.below hb)
  have HB_9 := Lib.hid (bt HB_8.out hb)
  clear HR_8 Ha_8 HW_8 HV_8 HXa_8 HG_8 HU_8 HC_8 HB_8
  clear hb
  go_wp2_with fail
  refine (markI_any HXa_9.out (by omega) (by omega) (by omega)).mono ?_
  rintro e v10 ⟨rfl, ho, hmi⟩
  clear ho
  have HR_10 := Lib.hid (gr_mid HR_9.out hmi LRa.out)
  have Ha_10 := Lib.hid (Ha_9.out.mid hmi LBa.out)
  have HW_10 := Lib.hid (HW_9.out.mid hmi LWa.out)
  have HV_10 := Lib.hid (HV_9.out.mid hmi (.inl LVa.out))
  have HG_10 := Lib.hid (HG_9.out.mid hmi (.inr LXaG.out))
  have HU_10 := Lib.hid (HU_9.out.mid hmi (.inr LXaU.out))
  have HB_10 := Lib.hid (HB_9.out.trans (hmi.toBelow LBa.out HB_9.out.size))
  clear HR_9 Ha_9 HW_9 HV_9 HG_9 HU_9 HB_9
  clear hmi
  obtain ⟨x0, x1, x2, _⟩ := HV_10.out
  obtain ⟨y0, y1, y2, _⟩ := HU_10.out
  go_wp2_with fail
  refine (eqP_any HG_10.out.toIn HW_10.out (by omega)).mono ?_
  rintro e v11 ⟨rfl, hb⟩
  clear x0 x1 x2 y0 y1 y2
  have HR_11 := Lib.hid (HR_10.out.below hb)
  have Ha_11 := Lib.hid (Ha_10.out.below hb)
  have HW_11 := Lib.hid (HW_10.out.below hb)
  have HV_11 := Lib.hid (HV_10.out.below hb)
  have HG_11 := Lib.hid (HG_10.out.below hb)
  have HU_11 := Lib.hid (HU_10.out.below hb)
  have HB_11 := Lib.hid (bt HB_10.out hb)
  clear HR_10 Ha_10 HW_10 HV_10 HG_10 HU_10 HB_10
  clear hb
  obtain ⟨y0, y1, y2, _⟩ := HU_11.out
  go_wp2_with fail
  refine (markQ_any HG_11.out (by omega) (by omega) (by omega)).mono ?_
  rintro e v12 ⟨rfl, ho, hmi⟩
  clear y0 y1 y2
  have HR_12 := Lib.hid (gr_mid HR_11.out hmi LRG.out)
  have Ha_12 := Lib.hid (Ha_11.out.mid hmi LBG.out)
  have HW_12 := Lib.hid (HW_11.out.mid hmi LWG.out)
  have HV_12 := Lib.hid (HV_11.out.mid hmi (.inl LVG.out))
  have HU_12 := Lib.hid (HU_11.out.mid hmi (.inr (Nat.le_refl _)))
  have HB_12 := Lib.hid (HB_11.out.trans (hmi.toBelow LBG.out HB_11.out.size))
  clear HR_11 Ha_11 HW_11 HV_11 HU_11 HB_11
  clear hmi
  have HG_12 := Lib.hid ho.toIn
  clear ho
  obtain ⟨y0, y1, y2, _⟩ := HU_12.out
  go_wp2_with fail
  refine (heldP_any HG_12.out (by omega) (by omega) (by omega)).mono ?_
  rintro e v13 ⟨rfl, hb⟩
  clear y0 y1 y2
  have HR_13 := Lib.hid (HR_12.out.below hb)
  have Ha_13 := Lib.hid (Ha_12.out.below hb)
  have HW_13 := Lib.hid (HW_12.out.below hb)
  have HV_13 := Lib.hid (HV_12.out.below hb)
  have HU_13 := Lib.hid (HU_12.out.below hb)
  have HG_13 := Lib.hid (HG_12.out.below hb)
  have HB_13 := Lib.hid (bt HB_12.out hb)
  clear HR_12 Ha_12 HW_12 HV_12 HU_12 HG_12 HB_12
  clear hb
  obtain ⟨g0, g1, g2⟩ := HR_13.out
  go_wp2_with fail
  refine (toGroup_any _ _ _ _).mono ?_
  rintro e v14 ⟨rfl, hb⟩
  have HR_14 := Lib.hid (HR_13.out.below hb)
  have Ha_14 := Lib.hid (Ha_13.out.below hb)
  have HW_14 := Lib.hid (HW_13.out.below hb)
  have HV_14 := Lib.hid (HV_13.out.below hb)
  have HU_14 := Lib.hid (HU_13.out.below hb)
  have HG_14 := Lib.hid (HG_13.out.below hb)
  have HB_14 := Lib.hid (bt HB_13.out hb)
  clear HR_13 Ha_13 HW_13 HV_13 HU_13 HG_13 HB_13
  clear hb
  clear g0 g1 g2
  go_wp2_with fail
  refine (toI_any Ha_14.out (by omega)).mono ?_
  rintro e v15 ⟨ua14, rfl, ho, hb⟩
  have HR_15 := Lib.hid (HR_14.out.below hb)
  have Ha_15 := Lib.hid (Ha_14.out.below hb)
  have HW_15 := Lib.hid (HW_14.out.below hb)
  have HV_15 := Lib.hid (HV_14.out.below hb)
  have HU_15 := Lib.hid (HU_14.out.below hb)
  have HG_15 := Lib.hid (HG_14.out.below hb)
  have HB_15 := Lib.hid (bt HB_14.out hb)
  clear HR_14 Ha_14 HW_14 HV_14 HU_14 HG_14 HB_14
  clear hb
  have HCa_15 := Lib.hid (ho.toIn)
  clear ho
  go_wp2_with fail
  refine (proveDealer_ans P0 Q0 G0 a2 (by omega) HCa_15.out).mono ?_
  rw [HV.out, HK.out]
  rintro e v16 ⟨ka, kb, kc, rfl, ho, hb1⟩
  obtain ⟨ka1, ka2, kb1, kb2, kc1, kc2, hsh⟩ := inP_shapeQ (OwQ.toIn ho)
  simp only [Value.agg.injEq, Array.mk.injEq, List.cons.injEq, and_true] at hsh
  obtain ⟨rfl, rfl, rfl⟩ := hsh
  have hba := ba v16 (.cells #[.slice ka1 res.c.length ka2, .slice kb1 res.h.length kb2, .slice kc1 res.r.length kc2] 84)
  have hb := bt hb1 hba
  have HR_16 := Lib.hid (HR_15.out.below hb)
  have Ha_16 := Lib.hid (Ha_15.out.below hb)
  have HW_16 := Lib.hid (HW_15.out.below hb)
  have HV_16 := Lib.hid (HV_15.out.below hb)
  have HU_16 := Lib.hid (HU_15.out.below hb)
  have HG_16 := Lib.hid (HG_15.out.below hb)
  have HCa_16 := Lib.hid (HCa_15.out.below hb)
  have HB_16 := Lib.hid (bt HB_15.out hb)
  clear HR_15 Ha_15 HW_15 HV_15 HU_15 HG_15 HCa_15 HB_15
  have HH_16 := Lib.hid (InP.below (OwQ.toIn ho) hba)
  have HZ_16 := Lib.hid (b3_new v16 (.slice ka1 res.c.length ka2) (.slice kb1 res.h.length kb2) (.slice kc1 res.r.length kc2) 84)
  clear hb ho hb1 hba
  obtain ⟨x0, x1, x2, _⟩ := HV_16.out
  obtain ⟨y0, y1, y2, _⟩ := HZ_16.out
  go_wp2_with fail
  refine (eqP_any HH_16.out HW_16.out (by omega)).mono ?_
  rintro e v17 ⟨rfl, hb⟩
  clear x0 x1 x2 y0 y1 y2
  have HR_17 := Lib.hid (HR_16.out.below hb)
  have Ha_17 := Lib.hid (Ha_16.out.below hb)
  have HW_17 := Lib.hid (HW_16.out.below hb)
  have HV_17 := Lib.hid (HV_16.out.below hb)
  have HU_17 := Lib.hid (HU_16.out.below hb)
  have HG_17 := Lib.hid (HG_16.out.below hb)
  have HH_17 := Lib.hid (HH_16.out.below hb)
  have HZ_17 := Lib.hid (HZ_16.out.below hb)
  have HB_17 := Lib.hid (bt HB_16.out hb)
  clear HR_16 Ha_16 HW_16 HV_16 HU_16 HG_16 HH_16 HZ_16 HB_16
  clear hb
  obtain ⟨y0, y1, y2, _⟩ := HU_17.out
  go_wp2_with fail
  refine (heldP_any HG_17.out (by omega) (by omega) (by omega)).mono ?_
  rintro e v18 ⟨rfl, hb⟩
  clear y0 y1 y2
  have HR_18 := Lib.hid (HR_17.out.below hb)
  have Ha_18 := Lib.hid (Ha_17.out.below hb)
  have HW_18 := Lib.hid (HW_17.out.below hb)
  have HV_18 := Lib.hid (HV_17.out.below hb)
  have HU_18 := Lib.hid (HU_17.out.below hb)
  have HG_18 := Lib.hid (HG_17.out.below hb)
  have HH_18 := Lib.hid (HH_17.out.below hb)
  have HZ_18 := Lib.hid (HZ_17.out.below hb)
  have HB_18 := Lib.hid (bt HB_17.out hb)
  clear HR_17 Ha_17 HW_17 HV_17 HU_17 HG_17 HH_17 HZ_17 HB_17
  clear hb
  go_wp2
  go_ret
  exact ⟨rfl, HB_18.out⟩

/-! ### The row's step -/
set_option maxRecDepth 100000 in
theorem lifted (os : Os) (started : os.Started) (H : Type) (enc : TypeId × Value → H) :
    ReturnsInHanded {} Try.checked os 12 .any (Rows.fnExactProveDealerSpec.pre6 enc Try.prog Try.f12 Rows.fnExactProveDealerRow.domain false) (Rows.fnExactProveDealerSpec.post enc Try.prog Try.f12 false true false false) := by
  refine returnsInHanded_of_change (C := Try.checked) own started (by kernel_rfl) Try.func12
    (ChangeSpec.witness6 (enc := enc) (C := Try.checked) false ⟨#[], #[.agg #[.int .i64 0, .int .i64 0, .int .i64 0], .slice none 0 0, .int .i64 0], []⟩ 8 (by kernel_rfl) (by kernel_rfl) (by kernel_rfl) (by kernel_rfl)) ?_
  intro W base args ds gs before hval0 hW hcnd _
  have hval : ∀ (j : Nat) t v, Try.f12.params[j]? = some t → args[j]? = some v → Value.okWide Try.prog W .any base t v := hval0
  have hW' := hW
  obtain ⟨p, q, hA0, hV, rfl, hfz, hnd⟩ := hW
  have hA : DataW.TrodAll enc Try.prog W 0 (fun _ => true) true Try.f12.params.toList args.toList ds p := hA0
  rw [Try.params12] at hA hval
  obtain ⟨v0, vs0, d0, ds0, p0, q0, hargs, rfl, rfl, h0, r0⟩ := trodAll_cons hA
  obtain ⟨v1, vs1, d1, ds1, p1, q1, rfl, rfl, rfl, h1, r1⟩ := trodAll_cons r0
  obtain ⟨v2, vs2, d2, ds2, p2, q2, rfl, rfl, rfl, h2, r2⟩ := trodAll_cons r1
  obtain ⟨rfl, rfl, rfl⟩ := trodAll_nil r2
  obtain rfl : args = #[v0, v1, v2] := by cases args; simp_all
  obtain ⟨rfl, rfl⟩ := trodVars_none hV
  have k0 := h0
  have lt0 : ∀ x ∈ p0, x.block < W.heap.size := by obtain ⟨m, hm⟩ := k0; exact DataW.trod_lt m _ _ _ hm
  obtain ⟨c0_0, c0_1, c0_2, y0_0, y0_1, y0_2, m0, rfl, rfl, rfl, hy0_0, hy0_1, hy0_2⟩ := open_agg3 Try.underlying47 (by kernel_rfl) (by kernel_rfl) (hval 0 47 v0 rfl rfl) h0
  obtain ⟨P0, e0_0, _, wP0⟩ := DataW.trod_int Try.underlying3 hy0_0
  obtain rfl := (List.cons.inj e0_0).1
  obtain ⟨Q0, e0_1, _, wQ0⟩ := DataW.trod_int Try.underlying3 hy0_1
  obtain rfl := (List.cons.inj e0_1).1
  obtain ⟨G0, e0_2, _, wG0⟩ := DataW.trod_int Try.underlying3 hy0_2
  obtain rfl := (List.cons.inj e0_2).1
  have k1 := h1
  have lt1 : ∀ x ∈ p1, x.block < W.heap.size := by obtain ⟨m, hm⟩ := k1; exact DataW.trod_lt m _ _ _ hm
  obtain ⟨a1, len1, cap1, rfl⟩ := okWide_slice Try.underlying29 (hval 1 29 v1 rfl rfl)
  obtain ⟨z1, w1⟩ : ∃ zs, IsRow .i64 W a1 len1 cap1 zs := by
    obtain ⟨fuel, hf⟩ := h1
    rcases open_ints Try.underlying29 Try.underlying3 (by kernel_rfl) hf with ⟨hcs, _⟩ | ⟨x, l, c, zs, hcs, _, hl, hm, hz, _, hcell, hwz⟩
    · simp [Value.cells] at hcs
      obtain ⟨rfl, rfl, rfl⟩ := hcs
      exact ⟨[], .inl ⟨rfl, rfl, rfl, rfl⟩⟩
    · simp [Value.cells] at hcs
      obtain ⟨rfl, rfl, rfl⟩ := hcs
      exact ⟨zs, .inr ⟨_, rfl, hl, hm, by simpa using hz, hcell, hwz⟩⟩
  obtain ⟨a2, rfl, rfl, rfl, w2⟩ := open_int Try.underlying3 (hval 2 3 v2 rfl rfl) h2
  clear hA0 hval0
  refine (walk P0 Q0 G0 a1 len1 cap1 z1 a2 W wP0 wQ0 wG0 w1 w2).mono fun e W' ⟨he, bel⟩ => ?_
  subst he
  exact ⟨_, rfl, _, _, _, [], _, [], hW', trodAll_mk1 (shut_bool Try.underlying4 _), (trodAll_cons_mk (Below.trod laidOut (by kernel_rfl) (of_decide_eq_true (by kernel_rfl)) k0 bel lt0) (trodAll_cons_mk (Below.trod laidOut (by kernel_rfl) (of_decide_eq_true (by kernel_rfl)) k1 bel lt1) (trodAll_cons_mk (shut_int Try.underlying3 w2) trodAll_mk0))), rfl, bel.frame _, fun h => by cases h⟩

theorem over : Rows.fnExactProveDealerRow.holds Try.pinned (OpenSpec.ofChange Rows.fnExactProveDealerSpec) :=
  OpenClaim.holds_of_wide 12 Try.f12 rfl rfl rfl rfl rfl rfl rfl ⟨rfl, rfl, rfl, rfl, rfl⟩ rfl rfl rfl rfl rfl (by kernel_rfl) Try.func12
    (show joinedFacts Try.prog 12 Try.f12 Rows.fnExactProveDealerSpec Rows.fnExactProveDealerRow = true by unfold joinedFacts; rw [Head.make, Head.lifts, Head.enters]; kernel_rfl)
    (of_decide_eq_true (by kernel_rfl)) (by unfold Func.isWrapper; first | (rw [if_pos (by decide +kernel)]; kernel_rfl) | (rw [if_neg (by decide +kernel)]; exact ⟨rfl, rfl⟩))
    (fun os started H enc _ => lifted os started H enc)

/-- The statement. -/
theorem proved : Rows.FnExactProveDealerSaid := over
#print axioms proved
end Go.Proofs.Ytchlnkdlnfjijaa.fnExactProveDealer
