/-
For every list the law FnExactDecodeProof returns true: the program's DecodeProof answers as the reference's does, leaves its argument as it was, and its answer owns its memory.
No condition.
-/
import Derived.Test.YtmiohdibbpckaaaRows
import Derived.WalkKit
import Derived.ProofKit
import Derived.OpenShut
import Derived.ShutString
import Derived.ChangeOld
import Derived.Below
import Derived.Test.YtmiohdibbpckaaaRecJ
import Derived.Test.YtmiohdibbpckaaaOpP
import Derived.Test.YtmiohdibbpckaaaFacts
namespace Go.Proofs.Ytmiohdibbpckaaa.fnExactDecodeProof
open Go.ChangeShapes Go.WideShapes Go.ChangeAt Go.RowKit
open Go.ChangeMaps (open_string shut_string)
set_option linter.unusedVariables false

theorem own : ownKnob Try.prog.godebug = none := by kernel_rfl
theorem laidOut : laidOutB Try.prog = true := by kernel_rfl

/-- WHAT THE WALK IS TOLD OF A SLICE OF INTEGERS THAT CAME IN: it is nil; or it leads to a row of 'cap' cells, the numbers 'zs' (the first 'len' are its elements, the rest its spare room), each fitting its kind. -/
def IsRow (k : IntKind) (w : World) (a : Option Addr) (len cap : Nat) (zs : List Int) : Prop :=
  (a = none ∧ len = 0 ∧ cap = 0 ∧ zs = []) ∨
  ∃ x, a = some x ∧ len ≤ cap ∧ cap ≤ maxLen ∧ zs.length = cap ∧ (∀ i, i < zs.length → w.cell? (x.add i) = some (.int k (zs.getD i 0))) ∧ ∀ n ∈ zs, (Lit.int k n).wf = true



/-! ### STEP 1: THE WALK: the Go text returns true, AND WRITES NOTHING THAT WAS THERE: 'Below w.heap.size w w'' (Derived/Below.lean: '.refl', '.alloc', '.drew', '.setCell' at a new block, '.trans'). Open each 'IsRow' by 'rcases' AHEAD of 'go_enter'; part every test ahead of the walk. -/
set_option maxRecDepth 100000 in
set_option maxHeartbeats 3200000 in
theorem walk (a0 : Option Addr) (len0 cap0 : Nat) (z0 : List Int) (w : World) (w0 : IsRow .i64 w a0 len0 cap0 z0) :
    Calls Try.prog 4 #[.slice a0 len0 cap0] w fun e w' => e = .returned (.bool true) ∧ Below w.heap.size w w' := by
  obtain ⟨hz, hn, hm⟩ := inI_of_row w0
  generalize z0.take len0 = zs at hz hn
  clear w0
  by_cases hbig : 1048576 < len0
  · have hbi : (1048576 : Int) < (len0 : Int) := by omega
    unfold maxLen at hm
    go_enter Try.func4, Try.ntmps4
    go_wp2
    go_ret
    exact ⟨rfl, Below.refl _ _⟩
  have hbi : (len0 : Int) ≤ 1048576 := by omega
  have hzl : zs.length ≤ 1048576 := by omega
  have Ha_0 := Lib.hid hz
  clear hz hn hm hbig
  have hlr := dpP_bound zs
  generalize hR : dpP zs = res at hlr
  generalize hK : dpB zs = ok
  have HR := Lib.hid hR
  have HK := Lib.hid hK
  clear hR hK
  have hrl : res.n ≤ 1048576 := by omega
  go_enter Try.func4, Try.ntmps4
  go_wp2_with fail
  refine (toI_any Ha_0.out (by omega)).mono ?_
  rintro e v1 ⟨ua, rfl, ho, hb⟩
  have Ha_1 := Lib.hid (Ha_0.out.below hb)
  have HB_1 := Lib.hid (hb)
  have HC_1 := Lib.hid (ho.toIn)
  clear hb Ha_0
  clear ho
  go_wp2_with fail
  refine (sDecodeProof_any HC_1.out (by omega)).mono ?_
  rw [HR.out]
  rw [HK.out]
  rintro e v2 ⟨wa, wb, wc, rfl, ⟨ho1, ho2, ho3⟩, hb1⟩
  obtain ⟨wa1, wa2, rfl⟩ := ho1.toIn.shape
  obtain ⟨wb1, wb2, rfl⟩ := ho2.toIn.shape
  obtain ⟨wc1, wc2, rfl⟩ := ho3.toIn.shape
  have ho : InP _ _ _ res := ⟨_, _, _, rfl, ho1.toIn, ho2.toIn, ho3.toIn⟩
  clear ho1 ho2 ho3
  clear HC_1
  have hba := ba v2 (.cells #[.slice wa1 res.c.length wa2, .slice wb1 res.h.length wb2, .slice wc1 res.r.length wc2] 28)
  have hb := bt hb1 hba
  have Ha_2 := Lib.hid (Ha_1.out.below hb)
  have HB_2 := Lib.hid (bt HB_1.out hb)
  have HW_2 := Lib.hid (ho.below hba)
  have HV_2 := Lib.hid (b3_new v2 (.slice wa1 res.c.length wa2) (.slice wb1 res.h.length wb2) (.slice wc1 res.r.length wc2) 28)
  clear hb Ha_1 HB_1
  clear ho hb1 hba
  go_wp2_with fail
  refine (toI_any Ha_2.out (by omega)).mono ?_
  rintro e v3 ⟨xa, rfl, ho, hb⟩
  have LWx := Lib.hid HW_2.out.le
  have LVx := Lib.hid HV_2.out.lt
  have LBx := Lib.hid HB_2.out.size
  have Ha_3 := Lib.hid (Ha_2.out.below hb)
  have HW_3 := Lib.hid (HW_2.out.below hb)
  have HV_3 := Lib.hid (HV_2.out.below hb)
  have HB_3 := Lib.hid (bt HB_2.out hb)
  have HX_3 := Lib.hid (ho)
  clear hb Ha_2 HW_2 HV_2 HB_2
  clear ho
  go_wp2_with fail
  refine (decodeProof_any HX_3.out.toIn (by omega)).mono ?_
  rw [HR.out]
  rw [HK.out]
  rintro e v4 ⟨ga, gb, gc, rfl, ho, hb1⟩
  obtain ⟨ga1, ga2, gb1, gb2, gc1, gc2, hsh⟩ := InP.shape (OwP.toIn ho)
  simp only [Value.agg.injEq, Array.mk.injEq, List.cons.injEq, and_true] at hsh
  obtain ⟨rfl, rfl, rfl⟩ := hsh
  have LWG := Lib.hid HW_3.out.le
  have LVG := Lib.hid HV_3.out.lt
  have LXG := Lib.hid HX_3.out.le
  have LBG := Lib.hid HB_3.out.size
  have LXU := Lib.hid (Nat.le_trans HX_3.out.le hb1.size)
  have hba := ba v4 (.cells #[.slice ga1 res.c.length ga2, .slice gb1 res.h.length gb2, .slice gc1 res.r.length gc2] 28)
  have hb := bt hb1 hba
  have Ha_4 := Lib.hid (Ha_3.out.below hb)
  have HW_4 := Lib.hid (HW_3.out.below hb)
  have HV_4 := Lib.hid (HV_3.out.below hb)
  have HX_4 := Lib.hid (HX_3.out.below hb)
  have HB_4 := Lib.hid (bt HB_3.out hb)
  have HG_4 := Lib.hid (ho.below hba)
  have HU_4 := Lib.hid (b3_new v4 (.slice ga1 res.c.length ga2) (.slice gb1 res.h.length gb2) (.slice gc1 res.r.length gc2) 28)
  clear hb Ha_3 HW_3 HV_3 HX_3 HB_3
  clear ho hb1 hba
  obtain ⟨x0, x1, x2, _⟩ := HV_4.out
  obtain ⟨y0, y1, y2, _⟩ := HU_4.out
  go_wp2_with fail
  refine (eqP_any HG_4.out.toIn HW_4.out (by omega)).mono ?_
  rintro e v5 ⟨rfl, hb⟩
  clear x0 x1 x2
  clear y0 y1 y2
  have Ha_5 := Lib.hid (Ha_4.out.below hb)
  have HW_5 := Lib.hid (HW_4.out.below hb)
  have HV_5 := Lib.hid (HV_4.out.below hb)
  have HX_5 := Lib.hid (HX_4.out.below hb)
  have HG_5 := Lib.hid (HG_4.out.below hb)
  have HU_5 := Lib.hid (HU_4.out.below hb)
  have HB_5 := Lib.hid (bt HB_4.out hb)
  clear hb Ha_4 HW_4 HV_4 HX_4 HG_4 HU_4 HB_4
  go_wp2_with fail
  refine (toI_any Ha_5.out (by omega)).mono ?_
  rintro e v6 ⟨ua, rfl, ho, hb⟩
  have Ha_6 := Lib.hid (Ha_5.out.below hb)
  have HW_6 := Lib.hid (HW_5.out.below hb)
  have HV_6 := Lib.hid (HV_5.out.below hb)
  have HX_6 := Lib.hid (HX_5.out.below hb)
  have HG_6 := Lib.hid (HG_5.out.below hb)
  have HU_6 := Lib.hid (HU_5.out.below hb)
  have HB_6 := Lib.hid (bt HB_5.out hb)
  have HC_6 := Lib.hid (ho.toIn)
  clear hb Ha_5 HW_5 HV_5 HX_5 HG_5 HU_5 HB_5
  clear ho
  go_wp2_with fail
  refine (eqI_any HX_6.out.toIn HC_6.out (by omega)).mono ?_
  rintro e v7 ⟨rfl, hb⟩
  have Ha_7 := Lib.hid (Ha_6.out.below hb)
  have HW_7 := Lib.hid (HW_6.out.below hb)
  have HV_7 := Lib.hid (HV_6.out.below hb)
  have HX_7 := Lib.hid (HX_6.out.below hb)
  have HG_7 := Lib.hid (HG_6.out.below hb)
  have HU_7 := Lib.hid (HU_6.out.below hb)
  have HB_7 := Lib.hid (bt HB_6.out hb)
  clear hb Ha_6 HW_6 HV_6 HX_6 HG_6 HU_6 HC_6 HB_6
  go_wp2_with fail
  refine (markI_any HX_7.out (by omega) (by omega) (by omega)).mono ?_
  rintro e v8 ⟨rfl, ho, hm⟩
  clear ho
  have Ha_8 := Lib.hid (Ha_7.out.mid hm LBx.out)
  have HW_8 := Lib.hid (HW_7.out.mid hm LWx.out)
  have HV_8 := Lib.hid (HV_7.out.mid hm (.inl LVx.out))
  have HG_8 := Lib.hid (HG_7.out.mid hm (.inr LXG.out))
  have HU_8 := Lib.hid (HU_7.out.mid hm (.inr LXU.out))
  have HB_8 := Lib.hid (HB_7.out.trans (hm.toBelow LBx.out HB_7.out.size))
  clear hm Ha_7 HW_7 HV_7 HX_7 HG_7 HU_7 HB_7
  obtain ⟨x0, x1, x2, _⟩ := HV_8.out
  obtain ⟨y0, y1, y2, _⟩ := HU_8.out
  go_wp2_with fail
  refine (eqP_any HG_8.out.toIn HW_8.out (by omega)).mono ?_
  rintro e v9 ⟨rfl, hb⟩
  clear x0 x1 x2
  clear y0 y1 y2
  have Ha_9 := Lib.hid (Ha_8.out.below hb)
  have HW_9 := Lib.hid (HW_8.out.below hb)
  have HV_9 := Lib.hid (HV_8.out.below hb)
  have HG_9 := Lib.hid (HG_8.out.below hb)
  have HU_9 := Lib.hid (HU_8.out.below hb)
  have HB_9 := Lib.hid (bt HB_8.out hb)
  clear hb Ha_8 HW_8 HV_8 HG_8 HU_8 HB_8
  obtain ⟨y0, y1, y2, _⟩ := HU_9.out
  go_wp2_with fail
  refine (markP_any HG_9.out (by omega) (by omega) (by omega)).mono ?_
  rintro e v10 ⟨rfl, ho, hm⟩
  clear y0 y1 y2
  clear HG_9
  have Ha_10 := Lib.hid (Ha_9.out.mid hm LBG.out)
  have HW_10 := Lib.hid (HW_9.out.mid hm LWG.out)
  have HV_10 := Lib.hid (HV_9.out.mid hm (.inl LVG.out))
  have HU_10 := Lib.hid (HU_9.out.mid hm (.inr (Nat.le_refl _)))
  have HB_10 := Lib.hid (HB_9.out.trans (hm.toBelow LBG.out HB_9.out.size))
  clear hm Ha_9 HW_9 HV_9 HU_9 HB_9
  have HG_10 := Lib.hid ho.toIn
  clear ho
  obtain ⟨y0, y1, y2, _⟩ := HU_10.out
  go_wp2_with fail
  refine (heldP_any HG_10.out (by omega) (by omega) (by omega)).mono ?_
  rintro e v11 ⟨rfl, hb⟩
  clear y0 y1 y2
  have Ha_11 := Lib.hid (Ha_10.out.below hb)
  have HW_11 := Lib.hid (HW_10.out.below hb)
  have HV_11 := Lib.hid (HV_10.out.below hb)
  have HU_11 := Lib.hid (HU_10.out.below hb)
  have HG_11 := Lib.hid (HG_10.out.below hb)
  have HB_11 := Lib.hid (bt HB_10.out hb)
  clear hb Ha_10 HW_10 HV_10 HU_10 HG_10 HB_10
  go_wp2_with fail
  refine (toI_any Ha_11.out (by omega)).mono ?_
  rintro e v12 ⟨ua, rfl, ho, hb⟩
  have Ha_12 := Lib.hid (Ha_11.out.below hb)
  have HW_12 := Lib.hid (HW_11.out.below hb)
  have HV_12 := Lib.hid (HV_11.out.below hb)
  have HU_12 := Lib.hid (HU_11.out.below hb)
  have HG_12 := Lib.hid (HG_11.out.below hb)
  have HB_12 := Lib.hid (bt HB_11.out hb)
  have HC_12 := Lib.hid (ho.toIn)
  clear hb Ha_11 HW_11 HV_11 HU_11 HG_11 HB_11
  clear ho
  go_wp2_with fail
  refine (decodeProof_any HC_12.out (by omega)).mono ?_
  rw [HR.out]
  rw [HK.out]
  rintro e v13 ⟨ha, hb, hc, rfl, ho, hb1⟩
  obtain ⟨ha1, ha2, hbb1, hbb2, hc1, hc2, hsh⟩ := InP.shape (OwP.toIn ho)
  simp only [Value.agg.injEq, Array.mk.injEq, List.cons.injEq, and_true] at hsh
  obtain ⟨rfl, rfl, rfl⟩ := hsh
  clear HC_12
  have hba := ba v13 (.cells #[.slice ha1 res.c.length ha2, .slice hbb1 res.h.length hbb2, .slice hc1 res.r.length hc2] 28)
  have hb := bt hb1 hba
  have Ha_13 := Lib.hid (Ha_12.out.below hb)
  have HW_13 := Lib.hid (HW_12.out.below hb)
  have HV_13 := Lib.hid (HV_12.out.below hb)
  have HU_13 := Lib.hid (HU_12.out.below hb)
  have HG_13 := Lib.hid (HG_12.out.below hb)
  have HB_13 := Lib.hid (bt HB_12.out hb)
  have HH_13 := Lib.hid (InP.below (OwP.toIn ho) hba)
  have HZ_13 := Lib.hid (b3_new v13 (.slice ha1 res.c.length ha2) (.slice hbb1 res.h.length hbb2) (.slice hc1 res.r.length hc2) 28)
  clear hb Ha_12 HW_12 HV_12 HU_12 HG_12 HB_12
  clear ho hb1 hba
  obtain ⟨x0, x1, x2, _⟩ := HV_13.out
  obtain ⟨y0, y1, y2, _⟩ := HZ_13.out
  go_wp2_with fail
  refine (eqP_any HH_13.out HW_13.out (by omega)).mono ?_
  rintro e v14 ⟨rfl, hb⟩
  clear x0 x1 x2
  clear y0 y1 y2
  have Ha_14 := Lib.hid (Ha_13.out.below hb)
  have HW_14 := Lib.hid (HW_13.out.below hb)
  have HV_14 := Lib.hid (HV_13.out.below hb)
  have HU_14 := Lib.hid (HU_13.out.below hb)
  have HG_14 := Lib.hid (HG_13.out.below hb)
  have HH_14 := Lib.hid (HH_13.out.below hb)
  have HZ_14 := Lib.hid (HZ_13.out.below hb)
  have HB_14 := Lib.hid (bt HB_13.out hb)
  clear hb Ha_13 HW_13 HV_13 HU_13 HG_13 HH_13 HZ_13 HB_13
  obtain ⟨y0, y1, y2, _⟩ := HU_14.out
  go_wp2_with fail
  refine (heldP_any HG_14.out (by omega) (by omega) (by omega)).mono ?_
  rintro e v15 ⟨rfl, hb⟩
  clear y0 y1 y2
  have Ha_15 := Lib.hid (Ha_14.out.below hb)
  have HW_15 := Lib.hid (HW_14.out.below hb)
  have HV_15 := Lib.hid (HV_14.out.below hb)
  have HU_15 := Lib.hid (HU_14.out.below hb)
  have HG_15 := Lib.hid (HG_14.out.below hb)
  have HH_15 := Lib.hid (HH_14.out.below hb)
  have HZ_15 := Lib.hid (HZ_14.out.below hb)
  have HB_15 := Lib.hid (bt HB_14.out hb)
  clear hb Ha_14 HW_14 HV_14 HU_14 HG_14 HH_14 HZ_14 HB_14
  go_wp2
  go_ret
  exact ⟨rfl, HB_15.out⟩

/-! ### THE ROW's STEP: WRITTEN OUT: LEAVE IT -/
set_option maxRecDepth 100000 in
theorem lifted (os : Os) (started : os.Started) (H : Type) (enc : TypeId × Value → H) :
    ReturnsInHanded {} Try.checked os 4 .any (Rows.fnExactDecodeProofSpec.pre6 enc Try.prog Try.f4 Rows.fnExactDecodeProofRow.domain false) (Rows.fnExactDecodeProofSpec.post enc Try.prog Try.f4 false true false false) := by
  refine returnsInHanded_of_change (C := Try.checked) own started (by kernel_rfl) Try.func4
    (ChangeSpec.witness6 (enc := enc) (C := Try.checked) false ⟨#[], #[.slice none 0 0], []⟩ 8 (by kernel_rfl) (by kernel_rfl) (by kernel_rfl) (by kernel_rfl)) ?_
  intro W base args ds gs before hval0 hW hcnd _
  have hval : ∀ (j : Nat) t v, Try.f4.params[j]? = some t → args[j]? = some v → Value.okWide Try.prog W .any base t v := hval0
  have hW' := hW
  obtain ⟨p, q, hA0, hV, rfl, hfz, hnd⟩ := hW
  have hA : DataW.TrodAll enc Try.prog W 0 (fun _ => true) true Try.f4.params.toList args.toList ds p := hA0
  rw [Try.params4] at hA hval
  obtain ⟨v0, vs0, d0, ds0, p0, q0, hargs, rfl, rfl, h0, r0⟩ := trodAll_cons hA
  obtain ⟨rfl, rfl, rfl⟩ := trodAll_nil r0
  obtain rfl : args = #[v0] := by cases args; simp_all
  obtain ⟨rfl, rfl⟩ := trodVars_none hV
  obtain ⟨a0, len0, cap0, rfl⟩ := okWide_slice Try.underlying22 (hval 0 22 v0 rfl rfl)
  have k0 := h0
  have lt0 : ∀ x ∈ p0, x.block < W.heap.size := by obtain ⟨m, hm⟩ := k0; exact DataW.trod_lt m _ _ _ hm
  obtain ⟨z0, w0⟩ : ∃ zs, IsRow .i64 W a0 len0 cap0 zs := by
    obtain ⟨fuel, hf⟩ := h0
    rcases open_ints Try.underlying22 Try.underlying3 (by kernel_rfl) hf with ⟨hcs, _⟩ | ⟨x, l, c, zs, hcs, _, hl, hm, hz, _, hcell, hwz⟩
    · simp [Value.cells] at hcs
      obtain ⟨rfl, rfl, rfl⟩ := hcs
      exact ⟨[], .inl ⟨rfl, rfl, rfl, rfl⟩⟩
    · simp [Value.cells] at hcs
      obtain ⟨rfl, rfl, rfl⟩ := hcs
      exact ⟨zs, .inr ⟨_, rfl, hl, hm, by simpa using hz, hcell, hwz⟩⟩
  clear hA0 hval0
  refine (walk a0 len0 cap0 z0 W w0).mono fun e W' ⟨he, bel⟩ => ?_
  subst he
  exact ⟨_, rfl, _, _, _, [], _, [], hW', trodAll_mk1 (shut_bool Try.underlying4 _), (trodAll_cons_mk (Below.trod laidOut (by kernel_rfl) (of_decide_eq_true (by kernel_rfl)) k0 bel lt0) trodAll_mk0), rfl, bel.frame _, fun h => by cases h⟩

theorem over : Rows.fnExactDecodeProofRow.holds Try.pinned (OpenSpec.ofChange Rows.fnExactDecodeProofSpec) :=
  OpenClaim.holds_of_wide 4 Try.f4 rfl rfl rfl rfl rfl rfl rfl ⟨rfl, rfl, rfl, rfl, rfl⟩ rfl rfl rfl rfl rfl (by kernel_rfl) Try.func4
    (show joinedFacts Try.prog 4 Try.f4 Rows.fnExactDecodeProofSpec Rows.fnExactDecodeProofRow = true by unfold joinedFacts; rw [Head.make, Head.lifts, Head.enters]; kernel_rfl)
    (of_decide_eq_true (by kernel_rfl)) (by unfold Func.isWrapper; first | (rw [if_pos (by decide +kernel)]; kernel_rfl) | (rw [if_neg (by decide +kernel)]; exact ⟨rfl, rfl⟩))
    (fun os started H enc _ => lifted os started H enc)

/-- ████ THE STATEMENT ████ -/
theorem proved : Rows.FnExactDecodeProofSaid := over
#print axioms proved
end Go.Proofs.Ytmiohdibbpckaaa.fnExactDecodeProof
