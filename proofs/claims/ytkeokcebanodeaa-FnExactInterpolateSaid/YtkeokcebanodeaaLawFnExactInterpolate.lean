/-
For every argument the law FnExactInterpolate returns true: the program's Interpolate answers as the reference's does, leaves its arguments as they were, and its answer owns its memory.
No condition.
-/
import Derived.Test.YtkeokcebanodeaaRows
import Derived.WalkKit
import Derived.ProofKit
import Derived.OpenShut
import Derived.ShutString
import Derived.ChangeOld
import Derived.Below
import Derived.Test.YtkeokcebanodeaaPolQ
import Derived.Test.YtkeokcebanodeaaFacts
namespace Go.Proofs.Ytkeokcebanodeaa.fnExactInterpolate
open Go.ChangeShapes Go.WideShapes Go.ChangeAt Go.RowKit
open Go.ChangeMaps (open_string shut_string)
set_option linter.unusedVariables false

theorem own : ownKnob Try.prog.godebug = none := by kernel_rfl
theorem laidOut : laidOutB Try.prog = true := by kernel_rfl

/-- WHAT THE WALK IS TOLD OF A SLICE OF INTEGERS THAT CAME IN: it is nil; or it leads to a row of 'cap' cells, the numbers 'zs' (the first 'len' are its elements, the rest its spare room), each fitting its kind. -/
def IsRow (k : IntKind) (w : World) (a : Option Addr) (len cap : Nat) (zs : List Int) : Prop :=
  (a = none ∧ len = 0 ∧ cap = 0 ∧ zs = []) ∨
  ∃ x, a = some x ∧ len ≤ cap ∧ cap ≤ maxLen ∧ zs.length = cap ∧ (∀ i, i < zs.length → w.cell? (x.add i) = some (.int k (zs.getD i 0))) ∧ ∀ n ∈ zs, (Lit.int k n).wf = true



/-! ### STEP 1: THE WALK: the Go text returns true, AND WRITES NOTHING THAT WAS THERE: 'Below w.heap.size w w'' (Derived/Below.lean: '.refl', '.alloc', '.drew', '.setCell' at a new block, '.trans'). Open each 'IsRow' by 'rcases' AHEAD of 'go_enter'; part every test ahead of the walk. -/
theorem walk (a0 : Int) (a1 : Option Addr) (len1 cap1 : Nat) (z1 : List Int) (a2 : Option Addr) (len2 cap2 : Nat) (z2 : List Int) (w : World) (w0 : (Lit.int .i64 a0).wf = true) (w1 : IsRow .i64 w a1 len1 cap1 z1) (w2 : IsRow .i64 w a2 len2 cap2 z2) :
    Calls Try.prog 13 #[.int .i64 a0, .slice a1 len1 cap1, .slice a2 len2 cap2] w fun e w' => e = .returned (.bool true) ∧ Below w.heap.size w w' := by
  obtain ⟨hz1, hn1, hm1⟩ := inI_of_row w1
  obtain ⟨hz2, hn2, hm2⟩ := inI_of_row w2
  generalize z1.take len1 = zs1 at hz1 hn1
  generalize z2.take len2 = zs2 at hz2 hn2
  clear w1 w2
  by_cases hbig1 : 1048576 < len1
  · have hbi1 : (1048576 : Int) < (len1 : Int) := by omega
    unfold maxLen at hm1 hm2
    go_enter Try.func13, Try.ntmps13
    go_wp2
    go_ret
    exact ⟨rfl, Below.refl _ _⟩
  have hbi1 : (len1 : Int) ≤ 1048576 := by omega
  by_cases hbig2 : 1048576 < len2
  · have hbi2 : (1048576 : Int) < (len2 : Int) := by omega
    unfold maxLen at hm1 hm2
    go_enter Try.func13, Try.ntmps13
    go_wp2
    go_ret
    exact ⟨rfl, Below.refl _ _⟩
  have hbi2 : (len2 : Int) ≤ 1048576 := by omega
  have hzl1 : zs1.length ≤ 1048576 := by omega
  have Hb_0 := Lib.hid hz1
  have hzl2 : zs2.length ≤ 1048576 := by omega
  have Hc_0 := Lib.hid hz2
  clear hz1 hn1 hm1 hbig1 hz2 hn2 hm2 hbig2
  have hlr := itpRes_le a0 zs1 zs2
  generalize hR : itpRes a0 zs1 zs2 = res at hlr
  generalize hK : tabB a0 zs1 zs2 = ok
  have HR := Lib.hid hR
  have HK := Lib.hid hK
  clear hR hK
  go_enter Try.func13, Try.ntmps13
  go_wp2_with fail
  refine (toI_any Hb_0.out (by omega)).mono ?_
  rintro e v1 ⟨ub, rfl, ho, hb⟩
  have Hb_1 := Lib.hid (Hb_0.out.below hb)
  have Hc_1 := Lib.hid (Hc_0.out.below hb)
  have HB_1 := Lib.hid (hb)
  have HCb_1 := Lib.hid ho.toIn
  clear hb Hb_0 Hc_0
  clear ho
  go_wp2_with fail
  refine (toI_any Hc_1.out (by omega)).mono ?_
  rintro e v2 ⟨uc, rfl, ho, hb⟩
  have Hb_2 := Lib.hid (Hb_1.out.below hb)
  have Hc_2 := Lib.hid (Hc_1.out.below hb)
  have HCb_2 := Lib.hid (HCb_1.out.below hb)
  have HB_2 := Lib.hid (bt HB_1.out hb)
  have HCc_2 := Lib.hid ho.toIn
  clear hb Hb_1 Hc_1 HCb_1 HB_1
  clear ho
  go_wp2_with fail
  refine (sInterpolate_ans HCb_2.out HCc_2.out (by omega) (by omega)).mono ?_
  rw [HR.out]
  rw [HK.out]
  rintro e v3 ⟨rw0, rfl, ho, hb⟩
  have Hb_3 := Lib.hid (Hb_2.out.below hb)
  have Hc_3 := Lib.hid (Hc_2.out.below hb)
  have HB_3 := Lib.hid (bt HB_2.out hb)
  have HW_3 := Lib.hid ho.toIn
  clear hb Hb_2 Hc_2 HB_2
  clear ho
  go_wp2_with fail
  refine (toI_any Hb_3.out (by omega)).mono ?_
  rintro e v4 ⟨xb, rfl, ho, hb⟩
  have LWb := Lib.hid HW_3.out.le
  have LBb := Lib.hid HB_3.out.size
  have Hb_4 := Lib.hid (Hb_3.out.below hb)
  have Hc_4 := Lib.hid (Hc_3.out.below hb)
  have HW_4 := Lib.hid (HW_3.out.below hb)
  have HB_4 := Lib.hid (bt HB_3.out hb)
  have HXb_4 := Lib.hid ho
  clear hb Hb_3 Hc_3 HW_3 HB_3
  clear ho
  go_wp2_with fail
  refine (toI_any Hc_4.out (by omega)).mono ?_
  rintro e v5 ⟨xc, rfl, ho, hb⟩
  have LWc := Lib.hid HW_4.out.le
  have LXbc := Lib.hid HXb_4.out.le
  have LBc := Lib.hid HB_4.out.size
  have Hb_5 := Lib.hid (Hb_4.out.below hb)
  have Hc_5 := Lib.hid (Hc_4.out.below hb)
  have HW_5 := Lib.hid (HW_4.out.below hb)
  have HXb_5 := Lib.hid (HXb_4.out.below hb)
  have HB_5 := Lib.hid (bt HB_4.out hb)
  have HXc_5 := Lib.hid ho
  clear hb Hb_4 Hc_4 HW_4 HXb_4 HB_4
  clear ho
  go_wp2_with fail
  refine (interpolate_ans HXb_5.out.toIn HXc_5.out.toIn (by omega) (by omega)).mono ?_
  rw [HR.out]
  rw [HK.out]
  rintro e v6 ⟨rg0, rfl, ho, hb⟩
  have LWG := Lib.hid HW_5.out.le
  have LXbG := Lib.hid HXb_5.out.le
  have LXcG := Lib.hid HXc_5.out.le
  have LBG := Lib.hid HB_5.out.size
  have Hb_6 := Lib.hid (Hb_5.out.below hb)
  have Hc_6 := Lib.hid (Hc_5.out.below hb)
  have HW_6 := Lib.hid (HW_5.out.below hb)
  have HXb_6 := Lib.hid (HXb_5.out.below hb)
  have HXc_6 := Lib.hid (HXc_5.out.below hb)
  have HB_6 := Lib.hid (bt HB_5.out hb)
  have HG_6 := Lib.hid ho
  clear hb Hb_5 Hc_5 HW_5 HXb_5 HXc_5 HB_5
  clear ho
  go_wp2_with fail
  refine (eqI_any HG_6.out.toIn HW_6.out (by omega)).mono ?_
  rintro e v7 ⟨rfl, hb⟩
  have Hb_7 := Lib.hid (Hb_6.out.below hb)
  have Hc_7 := Lib.hid (Hc_6.out.below hb)
  have HW_7 := Lib.hid (HW_6.out.below hb)
  have HXb_7 := Lib.hid (HXb_6.out.below hb)
  have HXc_7 := Lib.hid (HXc_6.out.below hb)
  have HG_7 := Lib.hid (HG_6.out.below hb)
  have HB_7 := Lib.hid (bt HB_6.out hb)
  clear hb Hb_6 Hc_6 HW_6 HXb_6 HXc_6 HG_6 HB_6
  go_wp2_with fail
  refine (toI_any Hb_7.out (by omega)).mono ?_
  rintro e v8 ⟨ub, rfl, ho, hb⟩
  have Hb_8 := Lib.hid (Hb_7.out.below hb)
  have Hc_8 := Lib.hid (Hc_7.out.below hb)
  have HW_8 := Lib.hid (HW_7.out.below hb)
  have HXb_8 := Lib.hid (HXb_7.out.below hb)
  have HXc_8 := Lib.hid (HXc_7.out.below hb)
  have HG_8 := Lib.hid (HG_7.out.below hb)
  have HB_8 := Lib.hid (bt HB_7.out hb)
  have HC_8 := Lib.hid ho.toIn
  clear hb Hb_7 Hc_7 HW_7 HXb_7 HXc_7 HG_7 HB_7
  clear ho
  go_wp2_with fail
  refine (eqI_any HXb_8.out.toIn HC_8.out (by omega)).mono ?_
  rintro e v9 ⟨rfl, hb⟩
  have Hb_9 := Lib.hid (Hb_8.out.below hb)
  have Hc_9 := Lib.hid (Hc_8.out.below hb)
  have HW_9 := Lib.hid (HW_8.out.below hb)
  have HXb_9 := Lib.hid (HXb_8.out.below hb)
  have HXc_9 := Lib.hid (HXc_8.out.below hb)
  have HG_9 := Lib.hid (HG_8.out.below hb)
  have HB_9 := Lib.hid (bt HB_8.out hb)
  clear hb Hb_8 Hc_8 HW_8 HXb_8 HXc_8 HG_8 HB_8
  clear HC_8
  go_wp2_with fail
  refine (toI_any Hc_9.out (by omega)).mono ?_
  rintro e v10 ⟨uc, rfl, ho, hb⟩
  have Hb_10 := Lib.hid (Hb_9.out.below hb)
  have Hc_10 := Lib.hid (Hc_9.out.below hb)
  have HW_10 := Lib.hid (HW_9.out.below hb)
  have HXb_10 := Lib.hid (HXb_9.out.below hb)
  have HXc_10 := Lib.hid (HXc_9.out.below hb)
  have HG_10 := Lib.hid (HG_9.out.below hb)
  have HB_10 := Lib.hid (bt HB_9.out hb)
  have HC_10 := Lib.hid ho.toIn
  clear hb Hb_9 Hc_9 HW_9 HXb_9 HXc_9 HG_9 HB_9
  clear ho
  go_wp2_with fail
  refine (eqI_any HXc_10.out.toIn HC_10.out (by omega)).mono ?_
  rintro e v11 ⟨rfl, hb⟩
  have Hb_11 := Lib.hid (Hb_10.out.below hb)
  have Hc_11 := Lib.hid (Hc_10.out.below hb)
  have HW_11 := Lib.hid (HW_10.out.below hb)
  have HXb_11 := Lib.hid (HXb_10.out.below hb)
  have HXc_11 := Lib.hid (HXc_10.out.below hb)
  have HG_11 := Lib.hid (HG_10.out.below hb)
  have HB_11 := Lib.hid (bt HB_10.out hb)
  clear hb Hb_10 Hc_10 HW_10 HXb_10 HXc_10 HG_10 HB_10
  clear HC_10
  go_wp2_with fail
  refine (markI_any HXb_11.out (by omega) (by omega) (by omega)).mono ?_
  rintro e v12 ⟨rfl, ho, hm⟩
  clear ho
  have Hb_12 := Lib.hid (Hb_11.out.mid hm LBb.out)
  have Hc_12 := Lib.hid (Hc_11.out.mid hm LBb.out)
  have HW_12 := Lib.hid (HW_11.out.mid hm LWb.out)
  have HXc_12 := Lib.hid (HXc_11.out.mid hm (.inr LXbc.out))
  have HG_12 := Lib.hid (HG_11.out.mid hm (.inr LXbG.out))
  have HB_12 := Lib.hid (HB_11.out.trans (hm.toBelow LBb.out HB_11.out.size))
  clear hm Hb_11 Hc_11 HW_11 HXb_11 HXc_11 HG_11 HB_11
  go_wp2_with fail
  refine (markI_any HXc_12.out (by omega) (by omega) (by omega)).mono ?_
  rintro e v13 ⟨rfl, ho, hm⟩
  clear ho
  have Hb_13 := Lib.hid (Hb_12.out.mid hm LBc.out)
  have Hc_13 := Lib.hid (Hc_12.out.mid hm LBc.out)
  have HW_13 := Lib.hid (HW_12.out.mid hm LWc.out)
  have HG_13 := Lib.hid (HG_12.out.mid hm (.inr LXcG.out))
  have HB_13 := Lib.hid (HB_12.out.trans (hm.toBelow LBc.out HB_12.out.size))
  clear hm Hb_12 Hc_12 HW_12 HXc_12 HG_12 HB_12
  go_wp2_with fail
  refine (eqI_any HG_13.out.toIn HW_13.out (by omega)).mono ?_
  rintro e v14 ⟨rfl, hb⟩
  have Hb_14 := Lib.hid (Hb_13.out.below hb)
  have Hc_14 := Lib.hid (Hc_13.out.below hb)
  have HW_14 := Lib.hid (HW_13.out.below hb)
  have HG_14 := Lib.hid (HG_13.out.below hb)
  have HB_14 := Lib.hid (bt HB_13.out hb)
  clear hb Hb_13 Hc_13 HW_13 HG_13 HB_13
  go_wp2_with fail
  refine (markI_any HG_14.out (by omega) (by omega) (by omega)).mono ?_
  rintro e v15 ⟨rfl, ho, hm⟩
  clear HG_14
  have Hb_15 := Lib.hid (Hb_14.out.mid hm LBG.out)
  have Hc_15 := Lib.hid (Hc_14.out.mid hm LBG.out)
  have HW_15 := Lib.hid (HW_14.out.mid hm LWG.out)
  have HB_15 := Lib.hid (HB_14.out.trans (hm.toBelow LBG.out HB_14.out.size))
  clear hm Hb_14 Hc_14 HW_14 HB_14
  have HG_15 := Lib.hid ho.toIn
  clear ho
  go_wp2_with fail
  refine (heldI_any HG_15.out (by omega) (by omega) (by omega)).mono ?_
  rintro e w' ⟨rfl, rfl⟩
  go_wp2_with fail
  refine (toI_any Hb_15.out (by omega)).mono ?_
  rintro e v16 ⟨ub, rfl, ho, hb⟩
  have Hb_16 := Lib.hid (Hb_15.out.below hb)
  have Hc_16 := Lib.hid (Hc_15.out.below hb)
  have HW_16 := Lib.hid (HW_15.out.below hb)
  have HG_16 := Lib.hid (HG_15.out.below hb)
  have HB_16 := Lib.hid (bt HB_15.out hb)
  have HCb_16 := Lib.hid ho.toIn
  clear hb Hb_15 Hc_15 HW_15 HG_15 HB_15
  clear ho
  go_wp2_with fail
  refine (toI_any Hc_16.out (by omega)).mono ?_
  rintro e v17 ⟨uc, rfl, ho, hb⟩
  have Hb_17 := Lib.hid (Hb_16.out.below hb)
  have Hc_17 := Lib.hid (Hc_16.out.below hb)
  have HW_17 := Lib.hid (HW_16.out.below hb)
  have HG_17 := Lib.hid (HG_16.out.below hb)
  have HCb_17 := Lib.hid (HCb_16.out.below hb)
  have HB_17 := Lib.hid (bt HB_16.out hb)
  have HCc_17 := Lib.hid ho.toIn
  clear hb Hb_16 Hc_16 HW_16 HG_16 HCb_16 HB_16
  clear ho
  go_wp2_with fail
  refine (interpolate_ans HCb_17.out HCc_17.out (by omega) (by omega)).mono ?_
  rw [HR.out]
  rw [HK.out]
  rintro e v18 ⟨rh0, rfl, ho, hb⟩
  clear HCb_17
  clear HCc_17
  have Hb_18 := Lib.hid (Hb_17.out.below hb)
  have Hc_18 := Lib.hid (Hc_17.out.below hb)
  have HW_18 := Lib.hid (HW_17.out.below hb)
  have HG_18 := Lib.hid (HG_17.out.below hb)
  have HB_18 := Lib.hid (bt HB_17.out hb)
  have HH_18 := Lib.hid ho.toIn
  clear hb Hb_17 Hc_17 HW_17 HG_17 HB_17
  clear ho
  go_wp2_with fail
  refine (eqI_any HH_18.out HW_18.out (by omega)).mono ?_
  rintro e v19 ⟨rfl, hb⟩
  have Hb_19 := Lib.hid (Hb_18.out.below hb)
  have Hc_19 := Lib.hid (Hc_18.out.below hb)
  have HW_19 := Lib.hid (HW_18.out.below hb)
  have HG_19 := Lib.hid (HG_18.out.below hb)
  have HH_19 := Lib.hid (HH_18.out.below hb)
  have HB_19 := Lib.hid (bt HB_18.out hb)
  clear hb Hb_18 Hc_18 HW_18 HG_18 HH_18 HB_18
  go_wp2_with fail
  refine (heldI_any HG_19.out (by omega) (by omega) (by omega)).mono ?_
  rintro e w' ⟨rfl, rfl⟩
  go_wp2
  go_ret
  exact ⟨rfl, HB_19.out⟩

/-! ### THE ROW's STEP: WRITTEN OUT: LEAVE IT -/
set_option maxRecDepth 100000 in
theorem lifted (os : Os) (started : os.Started) (H : Type) (enc : TypeId × Value → H) :
    ReturnsInHanded {} Try.checked os 13 .any (Rows.fnExactInterpolateSpec.pre6 enc Try.prog Try.f13 Rows.fnExactInterpolateRow.domain false) (Rows.fnExactInterpolateSpec.post enc Try.prog Try.f13 false true false false) := by
  refine returnsInHanded_of_change (C := Try.checked) own started (by kernel_rfl) Try.func13
    (ChangeSpec.witness6 (enc := enc) (C := Try.checked) false ⟨#[], #[.int .i64 0, .slice none 0 0, .slice none 0 0], []⟩ 8 (by kernel_rfl) (by kernel_rfl) (by kernel_rfl) (by kernel_rfl)) ?_
  intro W base args ds gs before hval0 hW hcnd _
  have hval : ∀ (j : Nat) t v, Try.f13.params[j]? = some t → args[j]? = some v → Value.okWide Try.prog W .any base t v := hval0
  have hW' := hW
  obtain ⟨p, q, hA0, hV, rfl, hfz, hnd⟩ := hW
  have hA : DataW.TrodAll enc Try.prog W 0 (fun _ => true) true Try.f13.params.toList args.toList ds p := hA0
  rw [Try.params13] at hA hval
  obtain ⟨v0, vs0, d0, ds0, p0, q0, hargs, rfl, rfl, h0, r0⟩ := trodAll_cons hA
  obtain ⟨v1, vs1, d1, ds1, p1, q1, rfl, rfl, rfl, h1, r1⟩ := trodAll_cons r0
  obtain ⟨v2, vs2, d2, ds2, p2, q2, rfl, rfl, rfl, h2, r2⟩ := trodAll_cons r1
  obtain ⟨rfl, rfl, rfl⟩ := trodAll_nil r2
  obtain rfl : args = #[v0, v1, v2] := by cases args; simp_all
  obtain ⟨rfl, rfl⟩ := trodVars_none hV
  obtain ⟨a0, rfl, rfl, rfl, w0⟩ := open_int Try.underlying3 (hval 0 3 v0 rfl rfl) h0
  obtain ⟨a1, len1, cap1, rfl⟩ := okWide_slice Try.underlying23 (hval 1 23 v1 rfl rfl)
  have k1 := h1
  have lt1 : ∀ x ∈ p1, x.block < W.heap.size := by obtain ⟨m, hm⟩ := k1; exact DataW.trod_lt m _ _ _ hm
  obtain ⟨z1, w1⟩ : ∃ zs, IsRow .i64 W a1 len1 cap1 zs := by
    obtain ⟨fuel, hf⟩ := h1
    rcases open_ints Try.underlying23 Try.underlying3 (by kernel_rfl) hf with ⟨hcs, _⟩ | ⟨x, l, c, zs, hcs, _, hl, hm, hz, _, hcell, hwz⟩
    · simp [Value.cells] at hcs
      obtain ⟨rfl, rfl, rfl⟩ := hcs
      exact ⟨[], .inl ⟨rfl, rfl, rfl, rfl⟩⟩
    · simp [Value.cells] at hcs
      obtain ⟨rfl, rfl, rfl⟩ := hcs
      exact ⟨zs, .inr ⟨_, rfl, hl, hm, by simpa using hz, hcell, hwz⟩⟩
  obtain ⟨a2, len2, cap2, rfl⟩ := okWide_slice Try.underlying23 (hval 2 23 v2 rfl rfl)
  have k2 := h2
  have lt2 : ∀ x ∈ p2, x.block < W.heap.size := by obtain ⟨m, hm⟩ := k2; exact DataW.trod_lt m _ _ _ hm
  obtain ⟨z2, w2⟩ : ∃ zs, IsRow .i64 W a2 len2 cap2 zs := by
    obtain ⟨fuel, hf⟩ := h2
    rcases open_ints Try.underlying23 Try.underlying3 (by kernel_rfl) hf with ⟨hcs, _⟩ | ⟨x, l, c, zs, hcs, _, hl, hm, hz, _, hcell, hwz⟩
    · simp [Value.cells] at hcs
      obtain ⟨rfl, rfl, rfl⟩ := hcs
      exact ⟨[], .inl ⟨rfl, rfl, rfl, rfl⟩⟩
    · simp [Value.cells] at hcs
      obtain ⟨rfl, rfl, rfl⟩ := hcs
      exact ⟨zs, .inr ⟨_, rfl, hl, hm, by simpa using hz, hcell, hwz⟩⟩
  clear hA0 hval0
  refine (walk a0 a1 len1 cap1 z1 a2 len2 cap2 z2 W w0 w1 w2).mono fun e W' ⟨he, bel⟩ => ?_
  subst he
  exact ⟨_, rfl, _, _, _, [], _, [], hW', trodAll_mk1 (shut_bool Try.underlying4 _), (trodAll_cons_mk (shut_int Try.underlying3 w0) (trodAll_cons_mk (Below.trod laidOut (by kernel_rfl) (of_decide_eq_true (by kernel_rfl)) k1 bel lt1) (trodAll_cons_mk (Below.trod laidOut (by kernel_rfl) (of_decide_eq_true (by kernel_rfl)) k2 bel lt2) trodAll_mk0))), rfl, bel.frame _, fun h => by cases h⟩

theorem over : Rows.fnExactInterpolateRow.holds Try.pinned (OpenSpec.ofChange Rows.fnExactInterpolateSpec) :=
  OpenClaim.holds_of_wide 13 Try.f13 rfl rfl rfl rfl rfl rfl rfl ⟨rfl, rfl, rfl, rfl, rfl⟩ rfl rfl rfl rfl rfl (by kernel_rfl) Try.func13
    (show joinedFacts Try.prog 13 Try.f13 Rows.fnExactInterpolateSpec Rows.fnExactInterpolateRow = true by unfold joinedFacts; rw [Head.make, Head.lifts, Head.enters]; kernel_rfl)
    (of_decide_eq_true (by kernel_rfl)) (by unfold Func.isWrapper; first | (rw [if_pos (by decide +kernel)]; kernel_rfl) | (rw [if_neg (by decide +kernel)]; exact ⟨rfl, rfl⟩))
    (fun os started H enc _ => lifted os started H enc)

/-- ████ THE STATEMENT ████ -/
theorem proved : Rows.FnExactInterpolateSaid := over
#print axioms proved
end Go.Proofs.Ytkeokcebanodeaa.fnExactInterpolate
