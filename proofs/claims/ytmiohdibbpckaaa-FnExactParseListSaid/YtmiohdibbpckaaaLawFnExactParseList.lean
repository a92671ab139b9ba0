/-
For every text the law FnExactParseList returns true: the program's ParseList, which ranges over the runes of its text, answers as the reference's does, and its answer owns its memory.
No condition.
-/
import Derived.Test.YtmiohdibbpckaaaRows
import Derived.WalkKit
import Derived.ProofKit
import Derived.OpenShut
import Derived.Below
import Derived.ShutString
import Derived.Test.YtmiohdibbpckaaaRecM
import Derived.Test.YtmiohdibbpckaaaFacts
namespace Go.Proofs.Ytmiohdibbpckaaa.fnExactParseList
open Go.ChangeShapes Go.WideShapes Go.ChangeAt Go.RowKit
open Go.ChangeMaps (open_string shut_string)
set_option linter.unusedVariables false      -- a walk need not use every 'w<i>' (that an integer argument fits its kind)

theorem own : ownKnob Try.prog.godebug = none := by kernel_rfl



/-! ### STEP 1: THE WALK: the Go text returns true. 'Grown w w'': the world has at most new blocks (Derived/RowKit3.lean). Part the cases AHEAD of 'go_enter' where a test parts the walk; take each callee by a contract of your own. -/
theorem walk (a0 : ByteArray) (w0 : a0.size ≤ maxLen) (w : World) :
    Calls Try.prog 11 #[.string a0] w fun e w' => e = .returned (.bool true) ∧ Below w.heap.size w w' := by
  by_cases hbig : 1048576 < a0.size
  · have hbi : (1048576 : Int) < (a0.size : Int) := by omega
    unfold maxLen at w0
    go_enter Try.func11, Try.ntmps11
    go_wp2
    go_ret
    exact ⟨rfl, Below.refl _ _⟩
  have hbi : (a0.size : Int) ≤ 1048576 := by omega
  have hs : a0.size ≤ 1048576 := by omega
  clear w0 hbig
  have hlr := plL_length a0
  generalize hR : plL a0 = res at hlr
  generalize hK : plB a0 = ok
  have HR := Lib.hid hR
  have HK := Lib.hid hK
  clear hR hK
  go_enter Try.func11, Try.ntmps11
  go_wp2_with fail
  refine (sParseList_ans a0 hs _).mono ?_
  rw [HR.out]
  rw [HK.out]
  rintro e v1 ⟨rw0, rfl, ho, hb⟩
  have HB_1 := Lib.hid (hb)
  have HW_1 := Lib.hid ho.toIn
  clear hb 
  clear ho
  go_wp2_with fail
  refine (parseList_ans a0 hs _).mono ?_
  rw [HR.out]
  rw [HK.out]
  rintro e v2 ⟨rg0, rfl, ho, hb⟩
  have LWG := Lib.hid HW_1.out.le
  have LBG := Lib.hid HB_1.out.size
  have HW_2 := Lib.hid (HW_1.out.below hb)
  have HB_2 := Lib.hid (bt HB_1.out hb)
  have HG_2 := Lib.hid ho
  clear hb HW_1 HB_1
  clear ho
  go_wp2_with fail
  refine (eqI_any HG_2.out.toIn HW_2.out (by omega)).mono ?_
  rintro e v3 ⟨rfl, hb⟩
  have HW_3 := Lib.hid (HW_2.out.below hb)
  have HG_3 := Lib.hid (HG_2.out.below hb)
  have HB_3 := Lib.hid (bt HB_2.out hb)
  clear hb HW_2 HG_2 HB_2
  go_wp2_with fail
  refine (markI_any HG_3.out (by omega) (by omega) (by omega)).mono ?_
  rintro e v4 ⟨rfl, ho, hm⟩
  clear HG_3
  have HW_4 := Lib.hid (HW_3.out.mid hm LWG.out)
  have HB_4 := Lib.hid (HB_3.out.trans (hm.toBelow LBG.out HB_3.out.size))
  clear hm HW_3 HB_3
  have HG_4 := Lib.hid ho.toIn
  clear ho
  go_wp2_with fail
  refine (heldI_any HG_4.out (by omega) (by omega) (by omega)).mono ?_
  rintro e w' ⟨rfl, rfl⟩
  go_wp2_with fail
  refine (parseList_ans a0 hs _).mono ?_
  rw [HR.out]
  rw [HK.out]
  rintro e v5 ⟨rh0, rfl, ho, hb⟩
  have HW_5 := Lib.hid (HW_4.out.below hb)
  have HG_5 := Lib.hid (HG_4.out.below hb)
  have HB_5 := Lib.hid (bt HB_4.out hb)
  have HH_5 := Lib.hid ho.toIn
  clear hb HW_4 HG_4 HB_4
  clear ho
  go_wp2_with fail
  refine (eqI_any HH_5.out HW_5.out (by omega)).mono ?_
  rintro e v6 ⟨rfl, hb⟩
  have HW_6 := Lib.hid (HW_5.out.below hb)
  have HG_6 := Lib.hid (HG_5.out.below hb)
  have HH_6 := Lib.hid (HH_5.out.below hb)
  have HB_6 := Lib.hid (bt HB_5.out hb)
  clear hb HW_5 HG_5 HH_5 HB_5
  go_wp2_with fail
  refine (heldI_any HG_6.out (by omega) (by omega) (by omega)).mono ?_
  rintro e w' ⟨rfl, rfl⟩
  go_wp2
  go_ret
  exact ⟨rfl, HB_6.out⟩

/-! ### THE ROW's STEP: WRITTEN OUT: LEAVE IT -/
set_option maxRecDepth 100000 in
theorem lifted (os : Os) (started : os.Started) (H : Type) (enc : TypeId × Value → H) :
    ReturnsInHanded {} Try.checked os 11 .any (Rows.fnExactParseListSpec.pre6 enc Try.prog Try.f11 Rows.fnExactParseListRow.domain false) (Rows.fnExactParseListSpec.post enc Try.prog Try.f11 false true false false) := by
  refine returnsInHanded_of_change (C := Try.checked) own started (by kernel_rfl) Try.func11
    (ChangeSpec.witness6 (enc := enc) (C := Try.checked) false ⟨#[], #[.string ByteArray.empty], []⟩ 8 (by kernel_rfl) (by kernel_rfl) (by kernel_rfl) (by kernel_rfl)) ?_
  intro W base args ds gs before hval0 hW hcnd _
  have hval : ∀ (j : Nat) t v, Try.f11.params[j]? = some t → args[j]? = some v → Value.okWide Try.prog W .any base t v := hval0
  have hW' := hW
  obtain ⟨p, q, hA0, hV, rfl, hfz, hnd⟩ := hW
  have hA : DataW.TrodAll enc Try.prog W 0 (fun _ => true) true Try.f11.params.toList args.toList ds p := hA0
  rw [Try.params11] at hA hval
  obtain ⟨v0, vs0, d0, ds0, p0, q0, hargs, rfl, rfl, h0, r0⟩ := trodAll_cons hA
  obtain ⟨rfl, rfl, rfl⟩ := trodAll_nil r0
  obtain rfl : args = #[v0] := by cases args; simp_all
  obtain ⟨rfl, rfl⟩ := trodVars_none hV
  obtain ⟨a0, rfl, rfl, rfl, w0⟩ := open_string Try.underlying9 (hval 0 9 v0 rfl rfl) h0
  clear hA0 hval0
  simp only [List.append_nil] at hW'
  refine (walk a0 w0 W).mono fun e W' ⟨he, hg⟩ => ?_
  subst he
  exact ⟨_, rfl, _, _, _, [], _, [], hW', (trodAll_cons_mk (shut_bool Try.underlying4 _) trodAll_mk0), (trodAll_cons_mk (shut_string Try.underlying9 w0) trodAll_mk0), rfl, hg.frame _, fun h => by cases h⟩

theorem over : Rows.fnExactParseListRow.holds Try.pinned (OpenSpec.ofChange Rows.fnExactParseListSpec) :=
  OpenClaim.holds_of_wide 11 Try.f11 rfl rfl rfl rfl rfl rfl rfl ⟨rfl, rfl, rfl, rfl, rfl⟩ rfl rfl rfl rfl rfl (by kernel_rfl) Try.func11
    (show joinedFacts Try.prog 11 Try.f11 Rows.fnExactParseListSpec Rows.fnExactParseListRow = true by unfold joinedFacts; rw [Head.make, Head.lifts, Head.enters]; kernel_rfl)
    (of_decide_eq_true (by kernel_rfl)) (by unfold Func.isWrapper; first | (rw [if_pos (by decide +kernel)]; kernel_rfl) | (rw [if_neg (by decide +kernel)]; exact ⟨rfl, rfl⟩))
    (fun os started H enc _ => lifted os started H enc)

/-- ████ THE STATEMENT ████ -/
theorem proved : Rows.FnExactParseListSaid :=
  over
#print axioms proved
end Go.Proofs.Ytmiohdibbpckaaa.fnExactParseList
