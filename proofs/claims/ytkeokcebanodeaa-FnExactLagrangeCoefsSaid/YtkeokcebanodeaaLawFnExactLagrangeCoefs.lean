/-
For every argument the law FnExactLagrangeCoefs returns true: the program's LagrangeCoefs answers as the reference's does, leaves its arguments as they were, and its answer owns its memory.
No condition.
-/
import Derived.Test.YtkeokcebanodeaaRows
import Derived.WalkKit
import Derived.ProofKit
import Derived.OpenShut
import Derived.ShutString
import Derived.ChangeOld
import Derived.Below
import Derived.Test.YtkeokcebanodeaaPolM
import Derived.Test.YtkeokcebanodeaaFacts
namespace Go.Proofs.Ytkeokcebanodeaa.fnExactLagrangeCoefs
open Go.ChangeShapes Go.WideShapes Go.ChangeAt Go.RowKit
open Go.ChangeMaps (open_string shut_string)
set_option linter.unusedVariables false

theorem own : ownKnob Try.prog.godebug = none := by kernel_rfl
theorem laidOut : laidOutB Try.prog = true := by kernel_rfl

/-- WHAT THE WALK IS TOLD OF A SLICE OF INTEGERS THAT CAME IN: it is nil; or it leads to a row of 'cap' cells, the numbers 'zs' (the first 'len' are its elements, the rest its spare room), each fitting its kind. -/
def IsRow (k : IntKind) (w : World) (a : Option Addr) (len cap : Nat) (zs : List Int) : Prop :=
  (a = none ∧ len = 0 ∧ cap = 0 ∧ zs = []) ∨
  ∃ x, a = some x ∧ len ≤ cap ∧ cap ≤ maxLen ∧ zs.length = cap ∧ (∀ i, i < zs.length → w.cell? (x.add i) = some (.int k (zs.getD i 0))) ∧ ∀ n ∈ zs, (Lit.int k n).wf = true



/-! ### STEP 1: THE WALK: the Go text returns true, AND WRITES NOTHING THAT WAS THERE: 'Below w.heap.size w w'' (Derived/Below.lean: '.refl', '.alloc', '.drew', '.setCell' at a new block, '.trans'). Open each 'IsRow' by 'rcases' AHEAD of 'go_enter'; part every test ahead of the walk. -/
theorem walk (a0 : Int) (a1 : Option Addr) (len1 cap1 : Nat) (z1 : List Int) (a2 : Int) (w : World) (w0 : (Lit.int .i64 a0).wf = true) (w1 : IsRow .i64 w a1 len1 cap1 z1) (w2 : (Lit.int .i64 a2).wf = true) :
    Calls Try.prog 11 #[.int .i64 a0, .slice a1 len1 cap1, .int .i64 a2] w fun e w' => e = .returned (.bool true) ∧ Below w.heap.size w w' := by
  obtain ⟨hz1, hn1, hm1⟩ := inI_of_row w1
  generalize z1.take len1 = zs1 at hz1 hn1
  clear w1
  by_cases hbig1 : 1048576 < len1
  · have hbi1 : (1048576 : Int) < (len1 : Int) := by omega
    unfold maxLen at hm1
    go_enter Try.func11, Try.ntmps11
    go_wp2
    go_ret
    exact ⟨rfl, Below.refl _ _⟩
  have hbi1 : (len1 : Int) ≤ 1048576 := by omega
  have hzl1 : zs1.length ≤ 1048576 := by omega
  have Hb_0 := Lib.hid hz1
  clear hz1 hn1 hm1 hbig1
  have hlr := lagRes_le a0 a2 zs1
  generalize hR : lagRes a0 a2 zs1 = res at hlr
  generalize hK : lagB a0 a2 zs1 = ok
  have HR := Lib.hid hR
  have HK := Lib.hid hK
  clear hR hK
  go_enter Try.func11, Try.ntmps11
  go_wp2_with fail
  refine (toI_any Hb_0.out (by omega)).mono ?_
  rintro e v1 ⟨ub, rfl, ho, hb⟩
  have Hb_1 := Lib.hid (Hb_0.out.below hb)
  have HB_1 := Lib.hid (hb)
  have HCb_1 := Lib.hid ho.toIn
  clear hb Hb_0
  clear ho
  go_wp2_with fail
  refine (sLagrangeCoefs_ans HCb_1.out (by omega)).mono ?_
  rw [HR.out]
  rw [HK.out]
  rintro e v2 ⟨rw0, rfl, ho, hb⟩
  have Hb_2 := Lib.hid (Hb_1.out.below hb)
  have HB_2 := Lib.hid (bt HB_1.out hb)
  have HW_2 := Lib.hid ho.toIn
  clear hb Hb_1 HB_1
  clear ho
  go_wp2_with fail
  refine (toI_any Hb_2.out (by omega)).mono ?_
  rintro e v3 ⟨xb, rfl, ho, hb⟩
  have LWb := Lib.hid HW_2.out.le
  have LBb := Lib.hid HB_2.out.size
  have Hb_3 := Lib.hid (Hb_2.out.below hb)
  have HW_3 := Lib.hid (HW_2.out.below hb)
  have HB_3 := Lib.hid (bt HB_2.out hb)
  have HXb_3 := Lib.hid ho
  clear hb Hb_2 HW_2 HB_2
  clear ho
  go_wp2_with fail
  refine (lagrangeCoefs_ans HXb_3.out.toIn (by omega)).mono ?_
  rw [HR.out]
  rw [HK.out]
  rintro e v4 ⟨rg0, rfl, ho, hb⟩
  have LWG := Lib.hid HW_3.out.le
  have LXbG := Lib.hid HXb_3.out.le
  have LBG := Lib.hid HB_3.out.size
  have Hb_4 := Lib.hid (Hb_3.out.below hb)
  have HW_4 := Lib.hid (HW_3.out.below hb)
  have HXb_4 := Lib.hid (HXb_3.out.below hb)
  have HB_4 := Lib.hid (bt HB_3.out hb)
  have HG_4 := Lib.hid ho
  clear hb Hb_3 HW_3 HXb_3 HB_3
  clear ho
  go_wp2_with fail
  refine (eqI_any HG_4.out.toIn HW_4.out (by omega)).mono ?_
  rintro e v5 ⟨rfl, hb⟩
  have Hb_5 := Lib.hid (Hb_4.out.below hb)
  have HW_5 := Lib.hid (HW_4.out.below hb)
  have HXb_5 := Lib.hid (HXb_4.out.below hb)
  have HG_5 := Lib.hid (HG_4.out.below hb)
  have HB_5 := Lib.hid (bt HB_4.out hb)
  clear hb Hb_4 HW_4 HXb_4 HG_4 HB_4
  go_wp2_with fail
  refine (toI_any Hb_5.out (by omega)).mono ?_
  rintro e v6 ⟨ub, rfl, ho, hb⟩
  have Hb_6 := Lib.hid (Hb_5.out.below hb)
  have HW_6 := Lib.hid (HW_5.out.below hb)
  have HXb_6 := Lib.hid (HXb_5.out.below hb)
  have HG_6 := Lib.hid (HG_5.out.below hb)
  have HB_6 := Lib.hid (bt HB_5.out hb)
  have HC_6 := Lib.hid ho.toIn
  clear hb Hb_5 HW_5 HXb_5 HG_5 HB_5
  clear ho
  go_wp2_with fail
  refine (eqI_any HXb_6.out.toIn HC_6.out (by omega)).mono ?_
  rintro e v7 ⟨rfl, hb⟩
  have Hb_7 := Lib.hid (Hb_6.out.below hb)
  have HW_7 := Lib.hid (HW_6.out.below hb)
  have HXb_7 := Lib.hid (HXb_6.out.below hb)
  have HG_7 := Lib.hid (HG_6.out.below hb)
  have HB_7 := Lib.hid (bt HB_6.out hb)
  clear hb Hb_6 HW_6 HXb_6 HG_6 HB_6
  clear HC_6
  go_wp2_with fail
  refine (markI_any HXb_7.out (by omega) (by omega) (by omega)).mono ?_
  rintro e v8 ⟨rfl, ho, hm⟩
  clear ho
  have Hb_8 := Lib.hid (Hb_7.out.mid hm LBb.out)
  have HW_8 := Lib.hid (HW_7.out.mid hm LWb.out)
  have HG_8 := Lib.hid (HG_7.out.mid hm (.inr LXbG.out))
  have HB_8 := Lib.hid (HB_7.out.trans (hm.toBelow LBb.out HB_7.out.size))
  clear hm Hb_7 HW_7 HXb_7 HG_7 HB_7
  go_wp2_with fail
  refine (eqI_any HG_8.out.toIn HW_8.out (by omega)).mono ?_
  rintro e v9 ⟨rfl, hb⟩
  have Hb_9 := Lib.hid (Hb_8.out.below hb)
  have HW_9 := Lib.hid (HW_8.out.below hb)
  have HG_9 := Lib.hid (HG_8.out.below hb)
  have HB_9 := Lib.hid (bt HB_8.out hb)
  clear hb Hb_8 HW_8 HG_8 HB_8
  go_wp2_with fail
  refine (markI_any HG_9.out (by omega) (by omega) (by omega)).mono ?_
  rintro e v10 ⟨rfl, ho, hm⟩
  clear HG_9
  have Hb_10 := Lib.hid (Hb_9.out.mid hm LBG.out)
  have HW_10 := Lib.hid (HW_9.out.mid hm LWG.out)
  have HB_10 := Lib.hid (HB_9.out.trans (hm.toBelow LBG.out HB_9.out.size))
  clear hm Hb_9 HW_9 HB_9
  have HG_10 := Lib.hid ho.toIn
  clear ho
  go_wp2_with fail
  refine (heldI_any HG_10.out (by omega) (by omega) (by omega)).mono ?_
  rintro e w' ⟨rfl, rfl⟩
  go_wp2_with fail
  refine (toI_any Hb_10.out (by omega)).mono ?_
  rintro e v11 ⟨ub, rfl, ho, hb⟩
  have Hb_11 := Lib.hid (Hb_10.out.below hb)
  have HW_11 := Lib.hid (HW_10.out.below hb)
  have HG_11 := Lib.hid (HG_10.out.below hb)
  have HB_11 := Lib.hid (bt HB_10.out hb)
  have HCb_11 := Lib.hid ho.toIn
  clear hb Hb_10 HW_10 HG_10 HB_10
  clear ho
  go_wp2_with fail
  refine (lagrangeCoefs_ans HCb_11.out (by omega)).mono ?_
  rw [HR.out]
  rw [HK.out]
  rintro e v12 ⟨rh0, rfl, ho, hb⟩
  clear HCb_11
  have Hb_12 := Lib.hid (Hb_11.out.below hb)
  have HW_12 := Lib.hid (HW_11.out.below hb)
  have HG_12 := Lib.hid (HG_11.out.below hb)
  have HB_12 := Lib.hid (bt HB_11.out hb)
  have HH_12 := Lib.hid ho.toIn
  clear hb Hb_11 HW_11 HG_11 HB_11
  clear ho
  go_wp2_with fail
  refine (eqI_any HH_12.out HW_12.out (by omega)).mono ?_
  rintro e v13 ⟨rfl, hb⟩
  have Hb_13 := Lib.hid (Hb_12.out.below hb)
  have HW_13 := Lib.hid (HW_12.out.below hb)
  have HG_13 := Lib.hid (HG_12.out.below hb)
  have HH_13 := Lib.hid (HH_12.out.below hb)
  have HB_13 := Lib.hid (bt HB_12.out hb)
  clear hb Hb_12 HW_12 HG_12 HH_12 HB_12
  go_wp2_with fail
  refine (heldI_any HG_13.out (by omega) (by omega) (by omega)).mono ?_
  rintro e w' ⟨rfl, rfl⟩
  go_wp2
  go_ret
  exact ⟨rfl, HB_13.out⟩

/-! ### THE ROW's STEP: WRITTEN OUT: LEAVE IT -/
set_option maxRecDepth 100000 in
theorem lifted (os : Os) (started : os.Started) (H : Type) (enc : TypeId × Value → H) :
    ReturnsInHanded {} Try.checked os 11 .any (Rows.fnExactLagrangeCoefsSpec.pre6 enc Try.prog Try.f11 Rows.fnExactLagrangeCoefsRow.domain false) (Rows.fnExactLagrangeCoefsSpec.post enc Try.prog Try.f11 false true false false) := by
  refine returnsInHanded_of_change (C := Try.checked) own started (by kernel_rfl) Try.func11
    (ChangeSpec.witness6 (enc := enc) (C := Try.checked) false ⟨#[], #[.int .i64 0, .slice none 0 0, .int .i64 0], []⟩ 8 (by kernel_rfl) (by kernel_rfl) (by kernel_rfl) (by kernel_rfl)) ?_
  intro W base args ds gs before hval0 hW hcnd _
  have hval : ∀ (j : Nat) t v, Try.f11.params[j]? = some t → args[j]? = some v → Value.okWide Try.prog W .any base t v := hval0
  have hW' := hW
  obtain ⟨p, q, hA0, hV, rfl, hfz, hnd⟩ := hW
  have hA : DataW.TrodAll enc Try.prog W 0 (fun _ => true) true Try.f11.params.toList args.toList ds p := hA0
  rw [Try.params11] at hA hval
  obtain ⟨v0, vs0, d0, ds0, p0, q0, hargs, rfl, rfl, h0, r0⟩ := trodAll_cons hA
  obtain ⟨v1, vs1, d1, ds1, p1, q1, rfl, rfl, rfl, h1, r1⟩ := trodAll_cons r0
  obtain ⟨v2, vs2, d2, ds2, p2, q2, rfl, rfl, rfl, h2, r2⟩ := trodAll_cons r1
  obtain ⟨rfl, rfl, rfl⟩ := trodAll_nil r2
  obtain rfl : args = #[v0, v1, v2] := by cases args; simp_all
  obtain ⟨rfl, rfl⟩ := trodVars_none hV
  obtain ⟨a0, rfl, rfl, rfl, w0⟩ := open_int Try.underlying3 (hval 0 3 v0 rfl rfl) h0
  obtain ⟨a1, len1, cap1, rfl⟩ := okWide_slice Try.underlying23 (hval 1 23 v1 rfl rfl)
  have k1 := h1
  have lt1 : ∀ x ∈ p1, x.block < W.heap.size := by obtain ⟨m, hm⟩ := k1; exact DataW.trod_lt m _ _ _ hm
  obtain ⟨z1, w1⟩ : ∃ zs, IsRow .i64 W a1 len1 cap1 zs := by
    obtain ⟨fuel, hf⟩ := h1
    rcases open_ints Try.underlying23 Try.underlying3 (by kernel_rfl) hf with ⟨hcs, _⟩ | ⟨x, l, c, zs, hcs, _, hl, hm, hz, _, hcell, hwz⟩
    · simp [Value.cells] at hcs
      obtain ⟨rfl, rfl, rfl⟩ := hcs
      exact ⟨[], .inl ⟨rfl, rfl, rfl, rfl⟩⟩
    · simp [Value.cells] at hcs
      obtain ⟨rfl, rfl, rfl⟩ := hcs
      exact ⟨zs, .inr ⟨_, rfl, hl, hm, by simpa using hz, hcell, hwz⟩⟩
  obtain ⟨a2, rfl, rfl, rfl, w2⟩ := open_int Try.underlying3 (hval 2 3 v2 rfl rfl) h2
  clear hA0 hval0
  refine (walk a0 a1 len1 cap1 z1 a2 W w0 w1 w2).mono fun e W' ⟨he, bel⟩ => ?_
  subst he
  exact ⟨_, rfl, _, _, _, [], _, [], hW', trodAll_mk1 (shut_bool Try.underlying4 _), (trodAll_cons_mk (shut_int Try.underlying3 w0) (trodAll_cons_mk (Below.trod laidOut (by kernel_rfl) (of_decide_eq_true (by kernel_rfl)) k1 bel lt1) (trodAll_cons_mk (shut_int Try.underlying3 w2) trodAll_mk0))), rfl, bel.frame _, fun h => by cases h⟩

theorem over : Rows.fnExactLagrangeCoefsRow.holds Try.pinned (OpenSpec.ofChange Rows.fnExactLagrangeCoefsSpec) :=
  OpenClaim.holds_of_wide 11 Try.f11 rfl rfl rfl rfl rfl rfl rfl ⟨rfl, rfl, rfl, rfl, rfl⟩ rfl rfl rfl rfl rfl (by kernel_rfl) Try.func11
    (show joinedFacts Try.prog 11 Try.f11 Rows.fnExactLagrangeCoefsSpec Rows.fnExactLagrangeCoefsRow = true by unfold joinedFacts; rw [Head.make, Head.lifts, Head.enters]; kernel_rfl)
    (of_decide_eq_true (by kernel_rfl)) (by unfold Func.isWrapper; first | (rw [if_pos (by decide +kernel)]; kernel_rfl) | (rw [if_neg (by decide +kernel)]; exact ⟨rfl, rfl⟩))
    (fun os started H enc _ => lifted os started H enc)

/-- ████ THE STATEMENT ████ -/
theorem proved : Rows.FnExactLagrangeCoefsSaid := over
#print axioms proved
end Go.Proofs.Ytkeokcebanodeaa.fnExactLagrangeCoefs
