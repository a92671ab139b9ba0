/-
For every group and every further argument the law FnExactImagesOf returns true: the program's ImagesOf answers as the reference's does, leaves its arguments as they were, and its answer owns its memory.
No condition.
-/
import Derived.Test.YtdaekpfngphefaaRows
import Derived.WalkKit
import Derived.ProofKit
import Derived.OpenShut
import Derived.ShutString
import Derived.ChangeOld
import Derived.Below
import Derived.Lib.SmallJoins
import Derived.Test.YtdaekpfngphefaaSigV
import Derived.Test.YtdaekpfngphefaaOpS
import Derived.Test.YtdaekpfngphefaaFacts
namespace Go.Proofs.Ytdaekpfngphefaa.fnExactImagesOf
open Go.Joins Go.ChangeShapes Go.WideShapes Go.ChangeAt Go.RowKit Go.Deep
open Go.ChangeMaps (open_string shut_string)
set_option linter.unusedVariables false

theorem own : ownKnob Try.prog.godebug = none := by kernel_rfl
theorem laidOut : laidOutB Try.prog = true := by kernel_rfl

/-- What the walk is told of a slice of integers that came in: it is nil; or it leads to a row of 'cap' cells that hold the numbers 'zs'. -/
def IsRow (k : IntKind) (w : World) (a : Option Addr) (len cap : Nat) (zs : List Int) : Prop :=
  (a = none ∧ len = 0 ∧ cap = 0 ∧ zs = []) ∨
  ∃ x, a = some x ∧ len ≤ cap ∧ cap ≤ maxLen ∧ zs.length = cap ∧ (∀ i, i < zs.length → w.cell? (x.add i) = some (.int k (zs.getD i 0))) ∧ ∀ n ∈ zs, (Lit.int k n).wf = true

theorem gr_mid {w w' : World} {b A B : Nat} {P Q G : Int} (h : GR w b P Q G) (hm : Mid A B w w') (hb : b < A) : GR w' b P Q G := by
  have hl := h.lt
  have he := hm.block b hl (.inl hb)
  obtain ⟨c0, c1, c2⟩ := h
  refine ⟨?_, ?_, ?_⟩
  · rw [World.cell?_of_block (a := ⟨b, 0, none⟩) he]; exact c0
  · rw [World.cell?_of_block (a := ⟨b, 1, none⟩) he]; exact c1
  · rw [World.cell?_of_block (a := ⟨b, 2, none⟩) he]; exact c2

/-! ### STEP 1: the walk: the Go text returns true and writes nothing that was there -/
set_option maxRecDepth 100000 in
set_option maxHeartbeats 3200000 in
theorem walk (P0 Q0 G0 : Int) (a1 : Value) (a2 : Option Addr) (len2 cap2 : Nat) (z2 : List Int) (w : World) (wP0 : (Lit.int .i64 P0).wf = true) (wQ0 : (Lit.int .i64 Q0).wf = true) (wG0 : (Lit.int .i64 G0).wf = true) (w1 : ∃ zss, InS w.heap.size w a1 zss ∧ zss.length ≤ maxLen ∧ ∀ z ∈ zss, z.length ≤ maxLen) (w2 : IsRow .i64 w a2 len2 cap2 z2) :
    Calls Try.prog 10 #[.agg #[.int .i64 P0, .int .i64 Q0, .int .i64 G0], a1, .slice a2 len2 cap2] w fun e w' => e = .returned (.bool true) ∧ Below w.heap.size w w' := by
  obtain ⟨rows, hrows, mrows, rrows⟩ := w1
  obtain ⟨hes, nes, mes⟩ := inI_of_row w2
  generalize z2.take len2 = es at hes nes
  clear w2
  by_cases b2 : 1048576 < len2
  · have c2 : (1048576 : Int) < (len2 : Int) := by omega
    unfold maxLen at mes
    go_enter Try.func10, Try.ntmps10
    go_wp2
    go_ret
    exact ⟨rfl, ba _ _⟩
  have c2 : (len2 : Int) ≤ 1048576 := by omega
  have les : es.length ≤ 1048576 := by omega
  by_cases b1 : 1048576 < rows.length + nS rows
  · have e1 : szV (rows.length + nS rows) 1048576 = -1 := by unfold szV; rw [if_neg (by omega)]
    have E1 := Lib.hid e1
    clear e1
    go_enter Try.func10, Try.ntmps10
    go_wp2_with fail
    refine (szS_any (hrows.below (ba w (.cells #[.int .i64 P0, .int .i64 Q0, .int .i64 G0] 23))) (by omega) (by omega) mrows rrows).mono ?_
    rw [E1.out]
    rintro e w' ⟨rfl, rfl⟩
    go_wp2
    go_ret
    exact ⟨rfl, ba _ _⟩
  have e1 : szV (rows.length + nS rows) 1048576 = 1048576 - ((rows.length + nS rows : Nat) : Int) := by unfold szV; rw [if_pos (by omega)]
  have E1 := Lib.hid e1
  have lrows : rows.length ≤ 1048576 := by omega
  have srows : nS rows ≤ 1048576 := by omega
  have Rrows := Lib.hid (show ∀ z ∈ rows, z.length ≤ 17592186044416 from fun z hz => Nat.le_trans (nS_le hz) (by omega))
  have Mrows := Lib.hid mrows
  have Trows := Lib.hid rrows
  clear e1
  have Ha := hrows
  have Hb := hes
  have HR_0 := Lib.hid (gr_new w P0 Q0 G0 23)
  have HB_0 := Lib.hid (ba w (.cells #[.int .i64 P0, .int .i64 Q0, .int .i64 G0] 23))
  have Ha_0 := Lib.hid (Ha.below (ba w (.cells #[.int .i64 P0, .int .i64 Q0, .int .i64 G0] 23)))
  have Hb_0 := Lib.hid (Hb.below (ba w (.cells #[.int .i64 P0, .int .i64 Q0, .int .i64 G0] 23)))
  clear Ha hrows Hb hes nes mes mrows rrows
  have HVL := Lib.hid (imV_len P0 Q0 G0 rows es)
  generalize hV : imV P0 Q0 G0 rows es = res at HVL
  generalize hK : imB P0 Q0 G0 rows es = ok
  have HV := Lib.hid hV
  have HK := Lib.hid hK
  have hrl : res.length ≤ 8 := HVL.out
  clear hV hK
  go_enter Try.func10, Try.ntmps10
  go_wp2_with fail
  refine (szS_any Ha_0.out (by omega) (by omega) Mrows.out Trows.out).mono ?_
  rw [E1.out]
  rintro e w' ⟨rfl, rfl⟩
  obtain ⟨g0, g1, g2⟩ := HR_0.out
  go_wp2_with fail
  refine (toGroup_any _ _ _ _).mono ?_
  rintro e v1 ⟨rfl, hb⟩
  have HR_1 := Lib.hid (HR_0.out.below hb)
  have Ha_1 := Lib.hid (Ha_0.out.below hb)
  have Hb_1 := Lib.hid (Hb_0.out.below hb)
  have HB_1 := Lib.hid (bt HB_0.out hb)
  clear HR_0 Ha_0 Hb_0 HB_0
  clear hb
  clear g0 g1 g2
  go_wp2_with fail
  refine (toS_any Ha_1.out (by omega) (by omega)).mono ?_
  rintro e v2 ⟨ua1, rfl, ho, hb⟩
  have HR_2 := Lib.hid (HR_1.out.below hb)
  have Ha_2 := Lib.hid (Ha_1.out.below hb)
  have Hb_2 := Lib.hid (Hb_1.out.below hb)
  have HB_2 := Lib.hid (bt HB_1.out hb)
  clear HR_1 Ha_1 Hb_1 HB_1
  clear hb
  have HCa_2 := Lib.hid (ho.toIn)
  clear ho
  go_wp2_with fail
  refine (toI_any Hb_2.out (by omega)).mono ?_
  rintro e v3 ⟨ub2, rfl, ho, hb⟩
  have HR_3 := Lib.hid (HR_2.out.below hb)
  have Ha_3 := Lib.hid (Ha_2.out.below hb)
  have Hb_3 := Lib.hid (Hb_2.out.below hb)
  have HCa_3 := Lib.hid (HCa_2.out.below hb)
  have HB_3 := Lib.hid (bt HB_2.out hb)
  clear HR_2 Ha_2 Hb_2 HCa_2 HB_2
  clear hb
  have HCb_3 := Lib.hid (ho.toIn)
  clear ho
  go_wp2_with fail
  refine (sImagesOf_any P0 Q0 G0 (by omega) Rrows.out (by omega) HCa_3.out HCb_3.out).mono ?_
  rw [HV.out, HK.out]
  rintro e v4 ⟨rw0, rfl, ho, hb⟩
  have HR_4 := Lib.hid (HR_3.out.below hb)
  have Ha_4 := Lib.hid (Ha_3.out.below hb)
  have Hb_4 := Lib.hid (Hb_3.out.below hb)
  have HCa_4 := Lib.hid (HCa_3.out.below hb)
  have HCb_4 := Lib.hid (HCb_3.out.below hb)
  have HB_4 := Lib.hid (bt HB_3.out hb)
  clear HR_3 Ha_3 Hb_3 HCa_3 HCb_3 HB_3
  clear hb
  have HW_4 := Lib.hid (ho.toIn)
  clear ho
  go_wp2_with fail
  refine (toS_any Ha_4.out (by omega) (by omega)).mono ?_
  rintro e v5 ⟨xa, rfl, ho, hb⟩
  have LWa := Lib.hid HW_4.out.le
  have LBa := Lib.hid HB_4.out.size
  have LRa := Lib.hid HR_4.out.lt
  have HR_5 := Lib.hid (HR_4.out.below hb)
  have Ha_5 := Lib.hid (Ha_4.out.below hb)
  have Hb_5 := Lib.hid (Hb_4.out.below hb)
  have HW_5 := Lib.hid (HW_4.out.below hb)
  have HB_5 := Lib.hid (bt HB_4.out hb)
  clear HR_4 Ha_4 Hb_4 HW_4 HB_4
  clear hb
  have HXa_5 := Lib.hid ho
  clear ho
  go_wp2_with fail
  refine (toI_any Hb_5.out (by omega)).mono ?_
  rintro e v6 ⟨xb, rfl, ho, hb⟩
  have LWb := Lib.hid HW_5.out.le
  have LBb := Lib.hid HB_5.out.size
  have LRb := Lib.hid HR_5.out.lt
  have LXab := Lib.hid HXa_5.out.le
  have HR_6 := Lib.hid (HR_5.out.below hb)
  have Ha_6 := Lib.hid (Ha_5.out.below hb)
  have Hb_6 := Lib.hid (Hb_5.out.below hb)
  have HW_6 := Lib.hid (HW_5.out.below hb)
  have HXa_6 := Lib.hid (HXa_5.out.below hb)
  have HB_6 := Lib.hid (bt HB_5.out hb)
  clear HR_5 Ha_5 Hb_5 HW_5 HXa_5 HB_5
  clear hb
  have HXb_6 := Lib.hid ho
  clear ho
  obtain ⟨g0, g1, g2⟩ := HR_6.out
  go_wp2_with fail
  refine (toGroup_any _ _ _ _).mono ?_
  rintro e v7 ⟨rfl, hb⟩
  have HR_7 := Lib.hid (HR_6.out.below hb)
  have Ha_7 := Lib.hid (Ha_6.out.below hb)
  have Hb_7 := Lib.hid (Hb_6.out.below hb)
  have HW_7 := Lib.hid (HW_6.out.below hb)
  have HXa_7 := Lib.hid (HXa_6.out.below hb)
  have HXb_7 := Lib.hid (HXb_6.out.below hb)
  have HB_7 := Lib.hid (bt HB_6.out hb)
  clear HR_6 Ha_6 Hb_6 HW_6 HXa_6 HXb_6 HB_6
  clear hb
  clear g0 g1 g2
  go_wp2_with fail
  refine (imagesOfB_any P0 Q0 G0 (by omega) Rrows.out (by omega) HXa_7.out.toIn HXb_7.out.toIn).mono ?_
  rw [HV.out, HK.out]
  rintro e v8 ⟨rg0, rfl, ho, hb⟩
  have LWG := Lib.hid HW_7.out.le
  have LBG := Lib.hid HB_7.out.size
  have LRG := Lib.hid HR_7.out.lt
  have LXaG := Lib.hid HXa_7.out.le
  have LXbG := Lib.hid HXb_7.out.le
  have HR_8 := Lib.hid (HR_7.out.below hb)
  have Ha_8 := Lib.hid (Ha_7.out.below hb)
  have Hb_8 := Lib.hid (Hb_7.out.below hb)
  have HW_8 := Lib.hid (HW_7.out.below hb)
  have HXa_8 := Lib.hid (HXa_7.out.below hb)
  have HXb_8 := Lib.hid (HXb_7.out.below hb)
  have HB_8 := Lib.hid (bt HB_7.out hb)
  clear HR_7 Ha_7 Hb_7 HW_7 HXa_7 HXb_7 HB_7
  clear hb
  have HG_8 := Lib.hid ho
  clear ho
  go_wp2_with fail
  refine (eqI_any HG_8.out.toIn HW_8.out (by omega)).mono ?_
  rintro e v9 ⟨rfl, hb⟩
  have HR_9 := Lib.hid (HR_8.out.below hb)
  have Ha_9 := Lib.hid (Ha_8.out.below hb)
  have Hb_9 := Lib.hid (Hb_8.out.below hb)
  have HW_9 := Lib.hid (HW_8.out.below hb)
  have HXa_9 := Lib.hid (HXa_8.out.below hb)
  have HXb_9 := Lib.hid (HXb_8.out.below hb)
  have HG_9 := Lib.hid (HG_8.out.below hb)
  have HB_9 := Lib.hid (bt HB_8.out hb)
  clear HR_8 Ha_8 Hb_8 HW_8 HXa_8 HXb_8 HG_8 HB_8
  clear hb
  go_wp2_with fail
  refine (toS_any Ha_9.out (by omega) (by omega)).mono ?_
  rintro e v10 ⟨ua9, rfl, ho, hb⟩
  have HR_10 := Lib.hid (HR_9.out.below hb)
  have Ha_10 := Lib.hid (Ha_9.out.below hb)
  have Hb_10 := Lib.hid (Hb_9.out.below hb)
  have HW_10 := Lib.hid (HW_9.out.below hb)
  have HXa_10 := Lib.hid (HXa_9.out.below hb)
  have HXb_10 := Lib.hid (HXb_9.out.below hb)
  have HG_10 := Lib.hid (HG_9.out.below hb)
  have HB_10 := Lib.hid (bt HB_9.out hb)
  clear HR_9 Ha_9 Hb_9 HW_9 HXa_9 HXb_9 HG_9 HB_9
  clear hb
  have HC_10 := Lib.hid (ho.toIn)
  clear ho
  go_wp2_with fail
  refine (eqS_any HXa_10.out.toIn HC_10.out (by omega) (by omega)).mono ?_
  rintro e v11 ⟨rfl, hb⟩
  have HR_11 := Lib.hid (HR_10.out.below hb)
  have Ha_11 := Lib.hid (Ha_10.out.below hb)
  have Hb_11 := Lib.hid (Hb_10.out.below hb)
  have HW_11 := Lib.hid (HW_10.out.below hb)
  have HXa_11 := Lib.hid (HXa_10.out.below hb)
  have HXb_11 := Lib.hid (HXb_10.out.below hb)
  have HG_11 := Lib.hid (HG_10.out.below hb)
  have HC_11 := Lib.hid (HC_10.out.below hb)
  have HB_11 := Lib.hid (bt HB_10.out hb)
  clear HR_10 Ha_10 Hb_10 HW_10 HXa_10 HXb_10 HG_10 HC_10 HB_10
  clear hb
  go_wp2_with fail
  refine (toI_any Hb_11.out (by omega)).mono ?_
  rintro e v12 ⟨ub11, rfl, ho, hb⟩
  have HR_12 := Lib.hid (HR_11.out.below hb)
  have Ha_12 := Lib.hid (Ha_11.out.below hb)
  have Hb_12 := Lib.hid (Hb_11.out.below hb)
  have HW_12 := Lib.hid (HW_11.out.below hb)
  have HXa_12 := Lib.hid (HXa_11.out.below hb)
  have HXb_12 := Lib.hid (HXb_11.out.below hb)
  have HG_12 := Lib.hid (HG_11.out.below hb)
  have HB_12 := Lib.hid (bt HB_11.out hb)
  clear HR_11 Ha_11 Hb_11 HW_11 HXa_11 HXb_11 HG_11 HB_11
  clear hb
  have HC_12 := Lib.hid (ho.toIn)
  clear ho
  go_wp2_with fail
  refine (eqI_any HXb_12.out.toIn HC_12.out (by omega)).mono ?_
  rintro e v13 ⟨rfl, hb⟩
  have HR_13 := Lib.hid (HR_12.out.below hb)
  have Ha_13 := Lib.hid (Ha_12.out.below hb)
  have Hb_13 := Lib.hid (Hb_12.out.below hb)
  have HW_13 := Lib.hid (HW_12.out.below hb)
  have HXa_13 := Lib.hid (HXa_12.out.below hb)
  have HXb_13 := Lib.hid (HXb_12.out.below hb)
  have HG_13 := Lib.hid (HG_12.out.below hb)
  have HC_13 := Lib.hid (HC_12.out.below hb)
  have HB_13 := Lib.hid (bt HB_12.out hb)
  clear HR_12 Ha_12 Hb_12 HW_12 HXa_12 HXb_12 HG_12 HC_12 HB_12
  clear hb
  go_wp2_with fail
  refine (markS_any HXa_13.out (by omega) (by omega) (by omega) (by omega)).mono ?_
  rintro e v14 ⟨rfl, ho, hmi⟩
  clear ho
  have HR_14 := Lib.hid (gr_mid HR_13.out hmi LRa.out)
  have Ha_14 := Lib.hid (Ha_13.out.mid hmi LBa.out)
  have Hb_14 := Lib.hid (Hb_13.out.mid hmi LBa.out)
  have HW_14 := Lib.hid (HW_13.out.mid hmi LWa.out)
  have HXb_14 := Lib.hid (HXb_13.out.mid hmi (.inr LXab.out))
  have HG_14 := Lib.hid (HG_13.out.mid hmi (.inr LXaG.out))
  have HB_14 := Lib.hid (HB_13.out.trans (hmi.toBelow LBa.out HB_13.out.size))
  clear HR_13 Ha_13 Hb_13 HW_13 HXb_13 HG_13 HB_13
  clear hmi
  go_wp2_with fail
  refine (markI_any HXb_14.out (by omega) (by omega) (by omega)).mono ?_
  rintro e v15 ⟨rfl, ho, hmi⟩
  clear ho
  have HR_15 := Lib.hid (gr_mid HR_14.out hmi LRb.out)
  have Ha_15 := Lib.hid (Ha_14.out.mid hmi LBb.out)
  have Hb_15 := Lib.hid (Hb_14.out.mid hmi LBb.out)
  have HW_15 := Lib.hid (HW_14.out.mid hmi LWb.out)
  have HG_15 := Lib.hid (HG_14.out.mid hmi (.inr LXbG.out))
  have HB_15 := Lib.hid (HB_14.out.trans (hmi.toBelow LBb.out HB_14.out.size))
  clear HR_14 Ha_14 Hb_14 HW_14 HG_14 HB_14
  clear hmi
  go_wp2_with fail
  refine (eqI_any HG_15.out.toIn HW_15.out (by omega)).mono ?_
  rintro e v16 ⟨rfl, hb⟩
  have HR_16 := Lib.hid (HR_15.out.below hb)
  have Ha_16 := Lib.hid (Ha_15.out.below hb)
  have Hb_16 := Lib.hid (Hb_15.out.below hb)
  have HW_16 := Lib.hid (HW_15.out.below hb)
  have HG_16 := Lib.hid (HG_15.out.below hb)
  have HB_16 := Lib.hid (bt HB_15.out hb)
  clear HR_15 Ha_15 Hb_15 HW_15 HG_15 HB_15
  clear hb
  go_wp2_with fail
  refine (markI_any HG_16.out (by omega) (by omega) (by omega)).mono ?_
  rintro e v17 ⟨rfl, ho, hmi⟩
  have HR_17 := Lib.hid (gr_mid HR_16.out hmi LRG.out)
  have Ha_17 := Lib.hid (Ha_16.out.mid hmi LBG.out)
  have Hb_17 := Lib.hid (Hb_16.out.mid hmi LBG.out)
  have HW_17 := Lib.hid (HW_16.out.mid hmi LWG.out)
  have HB_17 := Lib.hid (HB_16.out.trans (hmi.toBelow LBG.out HB_16.out.size))
  clear HR_16 Ha_16 Hb_16 HW_16 HB_16
  clear hmi
  have HG_17 := Lib.hid ho.toIn
  clear ho
  go_wp2_with fail
  refine (heldI_any HG_17.out (by omega) (by omega) (by omega)).mono ?_
  rintro e w' ⟨rfl, rfl⟩
  obtain ⟨g0, g1, g2⟩ := HR_17.out
  go_wp2_with fail
  refine (toGroup_any _ _ _ _).mono ?_
  rintro e v18 ⟨rfl, hb⟩
  have HR_18 := Lib.hid (HR_17.out.below hb)
  have Ha_18 := Lib.hid (Ha_17.out.below hb)
  have Hb_18 := Lib.hid (Hb_17.out.below hb)
  have HW_18 := Lib.hid (HW_17.out.below hb)
  have HG_18 := Lib.hid (HG_17.out.below hb)
  have HB_18 := Lib.hid (bt HB_17.out hb)
  clear HR_17 Ha_17 Hb_17 HW_17 HG_17 HB_17
  clear hb
  clear g0 g1 g2
  go_wp2_with fail
  refine (toS_any Ha_18.out (by omega) (by omega)).mono ?_
  rintro e v19 ⟨ua18, rfl, ho, hb⟩
  have HR_19 := Lib.hid (HR_18.out.below hb)
  have Ha_19 := Lib.hid (Ha_18.out.below hb)
  have Hb_19 := Lib.hid (Hb_18.out.below hb)
  have HW_19 := Lib.hid (HW_18.out.below hb)
  have HG_19 := Lib.hid (HG_18.out.below hb)
  have HB_19 := Lib.hid (bt HB_18.out hb)
  clear HR_18 Ha_18 Hb_18 HW_18 HG_18 HB_18
  clear hb
  have HCa_19 := Lib.hid (ho.toIn)
  clear ho
  go_wp2_with fail
  refine (toI_any Hb_19.out (by omega)).mono ?_
  rintro e v20 ⟨ub19, rfl, ho, hb⟩
  have HR_20 := Lib.hid (HR_19.out.below hb)
  have Ha_20 := Lib.hid (Ha_19.out.below hb)
  have Hb_20 := Lib.hid (Hb_19.out.below hb)
  have HW_20 := Lib.hid (HW_19.out.below hb)
  have HG_20 := Lib.hid (HG_19.out.below hb)
  have HCa_20 := Lib.hid (HCa_19.out.below hb)
  have HB_20 := Lib.hid (bt HB_19.out hb)
  clear HR_19 Ha_19 Hb_19 HW_19 HG_19 HCa_19 HB_19
  clear hb
  have HCb_20 := Lib.hid (ho.toIn)
  clear ho
  go_wp2_with fail
  refine (imagesOfB_any P0 Q0 G0 (by omega) Rrows.out (by omega) HCa_20.out HCb_20.out).mono ?_
  rw [HV.out, HK.out]
  rintro e v21 ⟨rh0, rfl, ho, hb⟩
  have HR_21 := Lib.hid (HR_20.out.below hb)
  have Ha_21 := Lib.hid (Ha_20.out.below hb)
  have Hb_21 := Lib.hid (Hb_20.out.below hb)
  have HW_21 := Lib.hid (HW_20.out.below hb)
  have HG_21 := Lib.hid (HG_20.out.below hb)
  have HCa_21 := Lib.hid (HCa_20.out.below hb)
  have HCb_21 := Lib.hid (HCb_20.out.below hb)
  have HB_21 := Lib.hid (bt HB_20.out hb)
  clear HR_20 Ha_20 Hb_20 HW_20 HG_20 HCa_20 HCb_20 HB_20
  clear hb
  have HH_21 := Lib.hid (ho.toIn)
  clear ho
  go_wp2_with fail
  refine (eqI_any HH_21.out HW_21.out (by omega)).mono ?_
  rintro e v22 ⟨rfl, hb⟩
  have HR_22 := Lib.hid (HR_21.out.below hb)
  have Ha_22 := Lib.hid (Ha_21.out.below hb)
  have Hb_22 := Lib.hid (Hb_21.out.below hb)
  have HW_22 := Lib.hid (HW_21.out.below hb)
  have HG_22 := Lib.hid (HG_21.out.below hb)
  have HH_22 := Lib.hid (HH_21.out.below hb)
  have HB_22 := Lib.hid (bt HB_21.out hb)
  clear HR_21 Ha_21 Hb_21 HW_21 HG_21 HH_21 HB_21
  clear hb
  go_wp2_with fail
  refine (heldI_any HG_22.out (by omega) (by omega) (by omega)).mono ?_
  rintro e w' ⟨rfl, rfl⟩
  go_wp2
  go_ret
  exact ⟨rfl, HB_22.out⟩

/-! ### The row's step -/
set_option maxRecDepth 100000 in
theorem lifted (os : Os) (started : os.Started) (H : Type) (enc : TypeId × Value → H) :
    ReturnsInHanded {} Try.checked os 10 .any (Rows.fnExactImagesOfSpec.pre6 enc Try.prog Try.f10 Rows.fnExactImagesOfRow.domain false) (Rows.fnExactImagesOfSpec.post enc Try.prog Try.f10 false true false false) := by
  refine returnsInHanded_of_change (C := Try.checked) own started (by kernel_rfl) Try.func10
    (ChangeSpec.witness6 (enc := enc) (C := Try.checked) false ⟨#[], #[.agg #[.int .i64 0, .int .i64 0, .int .i64 0], .slice none 0 0, .slice none 0 0], []⟩ 8 (by kernel_rfl) (by kernel_rfl) (by kernel_rfl) (by kernel_rfl)) ?_
  intro W base args ds gs before hval0 hW hcnd _
  have hval : ∀ (j : Nat) t v, Try.f10.params[j]? = some t → args[j]? = some v → Value.okWide Try.prog W .any base t v := hval0
  have hW' := hW
  obtain ⟨p, q, hA0, hV, rfl, hfz, hnd⟩ := hW
  have hA : DataW.TrodAll enc Try.prog W 0 (fun _ => true) true Try.f10.params.toList args.toList ds p := hA0
  rw [Try.params10] at hA hval
  obtain ⟨v0, vs0, d0, ds0, p0, q0, hargs, rfl, rfl, h0, r0⟩ := trodAll_cons hA
  obtain ⟨v1, vs1, d1, ds1, p1, q1, rfl, rfl, rfl, h1, r1⟩ := trodAll_cons r0
  obtain ⟨v2, vs2, d2, ds2, p2, q2, rfl, rfl, rfl, h2, r2⟩ := trodAll_cons r1
  obtain ⟨rfl, rfl, rfl⟩ := trodAll_nil r2
  obtain rfl : args = #[v0, v1, v2] := by cases args; simp_all
  obtain ⟨rfl, rfl⟩ := trodVars_none hV
  have k0 := h0
  have lt0 : ∀ x ∈ p0, x.block < W.heap.size := by obtain ⟨m, hm⟩ := k0; exact DataW.trod_lt m _ _ _ hm
  obtain ⟨c0_0, c0_1, c0_2, y0_0, y0_1, y0_2, m0, rfl, rfl, rfl, hy0_0, hy0_1, hy0_2⟩ := open_agg3 Try.underlying23 (by kernel_rfl) (by kernel_rfl) (hval 0 23 v0 rfl rfl) h0
  obtain ⟨P0, e0_0, _, wP0⟩ := DataW.trod_int Try.underlying3 hy0_0
  obtain rfl := (List.cons.inj e0_0).1
  obtain ⟨Q0, e0_1, _, wQ0⟩ := DataW.trod_int Try.underlying3 hy0_1
  obtain rfl := (List.cons.inj e0_1).1
  obtain ⟨G0, e0_2, _, wG0⟩ := DataW.trod_int Try.underlying3 hy0_2
  obtain rfl := (List.cons.inj e0_2).1
  have k1 := h1
  have lt1 : ∀ x ∈ p1, x.block < W.heap.size := by obtain ⟨m, hm⟩ := k1; exact DataW.trod_lt m _ _ _ hm
  obtain ⟨a1, len1, cap1, rfl⟩ := okWide_slice Try.underlying24 (hval 1 24 v1 rfl rfl)
  have w1 := (fun ⟨fuel, hf⟩ => inS_open (fuel := fuel) hf) h1
  have k2 := h2
  have lt2 : ∀ x ∈ p2, x.block < W.heap.size := by obtain ⟨m, hm⟩ := k2; exact DataW.trod_lt m _ _ _ hm
  obtain ⟨a2, len2, cap2, rfl⟩ := okWide_slice Try.underlying25 (hval 2 25 v2 rfl rfl)
  obtain ⟨z2, w2⟩ : ∃ zs, IsRow .i64 W a2 len2 cap2 zs := by
    obtain ⟨fuel, hf⟩ := h2
    rcases open_ints Try.underlying25 Try.underlying3 (by kernel_rfl) hf with ⟨hcs, _⟩ | ⟨x, l, c, zs, hcs, _, hl, hm, hz, _, hcell, hwz⟩
    · simp [Value.cells] at hcs
      obtain ⟨rfl, rfl, rfl⟩ := hcs
      exact ⟨[], .inl ⟨rfl, rfl, rfl, rfl⟩⟩
    · simp [Value.cells] at hcs
      obtain ⟨rfl, rfl, rfl⟩ := hcs
      exact ⟨zs, .inr ⟨_, rfl, hl, hm, by simpa using hz, hcell, hwz⟩⟩
  clear hA0 hval0
  refine (walk P0 Q0 G0 _ a2 len2 cap2 z2 W wP0 wQ0 wG0 w1 w2).mono fun e W' ⟨he, bel⟩ => ?_
  subst he
  exact ⟨_, rfl, _, _, _, [], _, [], hW', trodAll_mk1 (shut_bool Try.underlying4 _), (trodAll_cons_mk (Below.trod laidOut (by kernel_rfl) (of_decide_eq_true (by kernel_rfl)) k0 bel lt0) (trodAll_cons_mk (Below.trod laidOut (by kernel_rfl) (of_decide_eq_true (by kernel_rfl)) k1 bel lt1) (trodAll_cons_mk (Below.trod laidOut (by kernel_rfl) (of_decide_eq_true (by kernel_rfl)) k2 bel lt2) trodAll_mk0))), rfl, bel.frame _, fun h => by cases h⟩

theorem over : Rows.fnExactImagesOfRow.holds Try.pinned (OpenSpec.ofChange Rows.fnExactImagesOfSpec) :=
  OpenClaim.holds_of_wide 10 Try.f10 rfl rfl rfl rfl rfl rfl rfl ⟨rfl, rfl, rfl, rfl, rfl⟩ rfl rfl rfl rfl rfl (by kernel_rfl) Try.func10
    (show joinedFacts Try.prog 10 Try.f10 Rows.fnExactImagesOfSpec Rows.fnExactImagesOfRow = true by unfold joinedFacts; rw [Head.make, Head.lifts, Head.enters]; kernel_rfl)
    (of_decide_eq_true (by kernel_rfl)) (by unfold Func.isWrapper; first | (rw [if_pos (by decide +kernel)]; kernel_rfl) | (rw [if_neg (by decide +kernel)]; exact ⟨rfl, rfl⟩))
    (fun os started H enc _ => lifted os started H enc)

/-- The statement. -/
theorem proved : Rows.FnExactImagesOfSaid := over
#print axioms proved
end Go.Proofs.Ytdaekpfngphefaa.fnExactImagesOf
