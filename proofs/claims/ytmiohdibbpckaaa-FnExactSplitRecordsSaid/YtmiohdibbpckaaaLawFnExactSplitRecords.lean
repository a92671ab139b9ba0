/-
For every list the law FnExactSplitRecords returns true: the program's SplitRecords answers as the reference's does, leaves its argument as it was, and its answer owns its memory.
No condition.
-/
import Derived.Test.YtmiohdibbpckaaaRows
import Derived.WalkKit
import Derived.ProofKit
import Derived.OpenShut
import Derived.ShutString
import Derived.ChangeOld
import Derived.Below
import Derived.Test.YtmiohdibbpckaaaRecH
import Derived.Test.YtmiohdibbpckaaaFacts
namespace Go.Proofs.Ytmiohdibbpckaaa.fnExactSplitRecords
open Go.ChangeShapes Go.WideShapes Go.ChangeAt Go.RowKit
open Go.ChangeMaps (open_string shut_string)
set_option linter.unusedVariables false

theorem own : ownKnob Try.prog.godebug = none := by kernel_rfl
theorem laidOut : laidOutB Try.prog = true := by kernel_rfl

/-- WHAT THE WALK IS TOLD OF A SLICE OF INTEGERS THAT CAME IN: it is nil; or it leads to a row of 'cap' cells, the numbers 'zs' (the first 'len' are its elements, the rest its spare room), each fitting its kind. -/
def IsRow (k : IntKind) (w : World) (a : Option Addr) (len cap : Nat) (zs : List Int) : Prop :=
  (a = none ∧ len = 0 ∧ cap = 0 ∧ zs = []) ∨
  ∃ x, a = some x ∧ len ≤ cap ∧ cap ≤ maxLen ∧ zs.length = cap ∧ (∀ i, i < zs.length → w.cell? (x.add i) = some (.int k (zs.getD i 0))) ∧ ∀ n ∈ zs, (Lit.int k n).wf = true



/-! ### STEP 1: THE WALK: the Go text returns true, AND WRITES NOTHING THAT WAS THERE: 'Below w.heap.size w w'' (Derived/Below.lean: '.refl', '.alloc', '.drew', '.setCell' at a new block, '.trans'). Open each 'IsRow' by 'rcases' AHEAD of 'go_enter'; part every test ahead of the walk. -/
theorem walk (a0 : Option Addr) (len0 cap0 : Nat) (z0 : List Int) (w : World) (w0 : IsRow .i64 w a0 len0 cap0 z0) :
    Calls Try.prog 10 #[.slice a0 len0 cap0] w fun e w' => e = .returned (.bool true) ∧ Below w.heap.size w w' := by
  obtain ⟨hz, hn, hm⟩ := inI_of_row w0
  generalize z0.take len0 = zs at hz hn
  clear w0
  by_cases hbig : 1048576 < len0
  · have hbi : (1048576 : Int) < (len0 : Int) := by omega
    unfold maxLen at hm
    go_enter Try.func10, Try.ntmps10
    go_wp2
    go_ret
    exact ⟨rfl, Below.refl _ _⟩
  have hbi : (len0 : Int) ≤ 1048576 := by omega
  have hzl : zs.length ≤ 1048576 := by omega
  have Ha_0 := Lib.hid hz
  clear hz hn hm hbig
  obtain ⟨hlr1, hlr2⟩ := spR_bound zs
  generalize hR : spR zs = res at hlr1 hlr2
  generalize hK : cspB zs = ok
  have HR := Lib.hid hR
  have HK := Lib.hid hK
  clear hR hK
  go_enter Try.func10, Try.ntmps10
  go_wp2_with fail
  refine (toI_any Ha_0.out (by omega)).mono ?_
  rintro e v1 ⟨ua, rfl, ho, hb⟩
  have Ha_1 := Lib.hid (Ha_0.out.below hb)
  have HB_1 := Lib.hid (hb)
  have HCa_1 := Lib.hid ho.toIn
  clear hb Ha_0
  clear ho
  go_wp2_with fail
  refine (sSplitRecords_any HCa_1.out (by omega)).mono ?_
  rw [HR.out]
  rw [HK.out]
  rintro e v2 ⟨rw0, rfl, ho, hb⟩
  have Ha_2 := Lib.hid (Ha_1.out.below hb)
  have HB_2 := Lib.hid (bt HB_1.out hb)
  have HW_2 := Lib.hid ho
  clear hb Ha_1 HB_1
  clear ho
  go_wp2_with fail
  refine (toI_any Ha_2.out (by omega)).mono ?_
  rintro e v3 ⟨xa, rfl, ho, hb⟩
  have LWa := Lib.hid HW_2.out.le
  have LBa := Lib.hid HB_2.out.size
  have Ha_3 := Lib.hid (Ha_2.out.below hb)
  have HW_3 := Lib.hid (HW_2.out.below hb)
  have HB_3 := Lib.hid (bt HB_2.out hb)
  have HXa_3 := Lib.hid ho
  clear hb Ha_2 HW_2 HB_2
  clear ho
  go_wp2_with fail
  refine (splitRecords_ans HXa_3.out.toIn (by omega)).mono ?_
  rw [HR.out]
  rw [HK.out]
  rintro e v4 ⟨rg0, rfl, ho, hb⟩
  have LWG := Lib.hid HW_3.out.le
  have LXaG := Lib.hid HXa_3.out.le
  have LBG := Lib.hid HB_3.out.size
  have Ha_4 := Lib.hid (Ha_3.out.below hb)
  have HW_4 := Lib.hid (HW_3.out.below hb)
  have HXa_4 := Lib.hid (HXa_3.out.below hb)
  have HB_4 := Lib.hid (bt HB_3.out hb)
  have HG_4 := Lib.hid ho
  clear hb Ha_3 HW_3 HXa_3 HB_3
  clear ho
  go_wp2_with fail
  refine (eqS_any HG_4.out.toIn HW_4.out (by omega) (by omega)).mono ?_
  rintro e v5 ⟨rfl, hb⟩
  have Ha_5 := Lib.hid (Ha_4.out.below hb)
  have HW_5 := Lib.hid (HW_4.out.below hb)
  have HXa_5 := Lib.hid (HXa_4.out.below hb)
  have HG_5 := Lib.hid (HG_4.out.below hb)
  have HB_5 := Lib.hid (bt HB_4.out hb)
  clear hb Ha_4 HW_4 HXa_4 HG_4 HB_4
  go_wp2_with fail
  refine (toI_any Ha_5.out (by omega)).mono ?_
  rintro e v6 ⟨ua, rfl, ho, hb⟩
  have Ha_6 := Lib.hid (Ha_5.out.below hb)
  have HW_6 := Lib.hid (HW_5.out.below hb)
  have HXa_6 := Lib.hid (HXa_5.out.below hb)
  have HG_6 := Lib.hid (HG_5.out.below hb)
  have HB_6 := Lib.hid (bt HB_5.out hb)
  have HC_6 := Lib.hid ho.toIn
  clear hb Ha_5 HW_5 HXa_5 HG_5 HB_5
  clear ho
  go_wp2_with fail
  refine (eqI_any HXa_6.out.toIn HC_6.out (by omega)).mono ?_
  rintro e v7 ⟨rfl, hb⟩
  have Ha_7 := Lib.hid (Ha_6.out.below hb)
  have HW_7 := Lib.hid (HW_6.out.below hb)
  have HXa_7 := Lib.hid (HXa_6.out.below hb)
  have HG_7 := Lib.hid (HG_6.out.below hb)
  have HB_7 := Lib.hid (bt HB_6.out hb)
  clear hb Ha_6 HW_6 HXa_6 HG_6 HB_6
  clear HC_6
  go_wp2_with fail
  refine (markI_any HXa_7.out (by omega) (by omega) (by omega)).mono ?_
  rintro e v8 ⟨rfl, ho, hm⟩
  clear ho
  have Ha_8 := Lib.hid (Ha_7.out.mid hm LBa.out)
  have HW_8 := Lib.hid (HW_7.out.mid hm LWa.out)
  have HG_8 := Lib.hid (HG_7.out.mid hm (.inr LXaG.out))
  have HB_8 := Lib.hid (HB_7.out.trans (hm.toBelow LBa.out HB_7.out.size))
  clear hm Ha_7 HW_7 HXa_7 HG_7 HB_7
  go_wp2_with fail
  refine (eqS_any HG_8.out.toIn HW_8.out (by omega) (by omega)).mono ?_
  rintro e v9 ⟨rfl, hb⟩
  have Ha_9 := Lib.hid (Ha_8.out.below hb)
  have HW_9 := Lib.hid (HW_8.out.below hb)
  have HG_9 := Lib.hid (HG_8.out.below hb)
  have HB_9 := Lib.hid (bt HB_8.out hb)
  clear hb Ha_8 HW_8 HG_8 HB_8
  go_wp2_with fail
  refine (markS_any HG_9.out (by omega) (by omega) (by omega) (by omega)).mono ?_
  rintro e v10 ⟨rfl, ho, hm⟩
  clear HG_9
  have Ha_10 := Lib.hid (Ha_9.out.mid hm LBG.out)
  have HW_10 := Lib.hid (HW_9.out.mid hm LWG.out)
  have HB_10 := Lib.hid (HB_9.out.trans (hm.toBelow LBG.out HB_9.out.size))
  clear hm Ha_9 HW_9 HB_9
  have HG_10 := Lib.hid ho.toIn
  clear ho
  go_wp2_with fail
  refine (heldS_any HG_10.out (by omega) (by omega) (by omega) (by omega)).mono ?_
  rintro e w' ⟨rfl, rfl⟩
  go_wp2_with fail
  refine (toI_any Ha_10.out (by omega)).mono ?_
  rintro e v11 ⟨ua, rfl, ho, hb⟩
  have Ha_11 := Lib.hid (Ha_10.out.below hb)
  have HW_11 := Lib.hid (HW_10.out.below hb)
  have HG_11 := Lib.hid (HG_10.out.below hb)
  have HB_11 := Lib.hid (bt HB_10.out hb)
  have HCa_11 := Lib.hid ho.toIn
  clear hb Ha_10 HW_10 HG_10 HB_10
  clear ho
  go_wp2_with fail
  refine (splitRecords_ans HCa_11.out (by omega)).mono ?_
  rw [HR.out]
  rw [HK.out]
  rintro e v12 ⟨rh0, rfl, ho, hb⟩
  clear HCa_11
  have Ha_12 := Lib.hid (Ha_11.out.below hb)
  have HW_12 := Lib.hid (HW_11.out.below hb)
  have HG_12 := Lib.hid (HG_11.out.below hb)
  have HB_12 := Lib.hid (bt HB_11.out hb)
  have HH_12 := Lib.hid ho.toIn
  clear hb Ha_11 HW_11 HG_11 HB_11
  clear ho
  go_wp2_with fail
  refine (eqS_any HH_12.out HW_12.out (by omega) (by omega)).mono ?_
  rintro e v13 ⟨rfl, hb⟩
  have Ha_13 := Lib.hid (Ha_12.out.below hb)
  have HW_13 := Lib.hid (HW_12.out.below hb)
  have HG_13 := Lib.hid (HG_12.out.below hb)
  have HH_13 := Lib.hid (HH_12.out.below hb)
  have HB_13 := Lib.hid (bt HB_12.out hb)
  clear hb Ha_12 HW_12 HG_12 HH_12 HB_12
  go_wp2_with fail
  refine (heldS_any HG_13.out (by omega) (by omega) (by omega) (by omega)).mono ?_
  rintro e w' ⟨rfl, rfl⟩
  go_wp2
  go_ret
  exact ⟨rfl, HB_13.out⟩

/-! ### THE ROW's STEP: WRITTEN OUT: LEAVE IT -/
set_option maxRecDepth 100000 in
theorem lifted (os : Os) (started : os.Started) (H : Type) (enc : TypeId × Value → H) :
    ReturnsInHanded {} Try.checked os 10 .any (Rows.fnExactSplitRecordsSpec.pre6 enc Try.prog Try.f10 Rows.fnExactSplitRecordsRow.domain false) (Rows.fnExactSplitRecordsSpec.post enc Try.prog Try.f10 false true false false) := by
  refine returnsInHanded_of_change (C := Try.checked) own started (by kernel_rfl) Try.func10
    (ChangeSpec.witness6 (enc := enc) (C := Try.checked) false ⟨#[], #[.slice none 0 0], []⟩ 8 (by kernel_rfl) (by kernel_rfl) (by kernel_rfl) (by kernel_rfl)) ?_
  intro W base args ds gs before hval0 hW hcnd _
  have hval : ∀ (j : Nat) t v, Try.f10.params[j]? = some t → args[j]? = some v → Value.okWide Try.prog W .any base t v := hval0
  have hW' := hW
  obtain ⟨p, q, hA0, hV, rfl, hfz, hnd⟩ := hW
  have hA : DataW.TrodAll enc Try.prog W 0 (fun _ => true) true Try.f10.params.toList args.toList ds p := hA0
  rw [Try.params10] at hA hval
  obtain ⟨v0, vs0, d0, ds0, p0, q0, hargs, rfl, rfl, h0, r0⟩ := trodAll_cons hA
  obtain ⟨rfl, rfl, rfl⟩ := trodAll_nil r0
  obtain rfl : args = #[v0] := by cases args; simp_all
  obtain ⟨rfl, rfl⟩ := trodVars_none hV
  obtain ⟨a0, len0, cap0, rfl⟩ := okWide_slice Try.underlying22 (hval 0 22 v0 rfl rfl)
  have k0 := h0
  have lt0 : ∀ x ∈ p0, x.block < W.heap.size := by obtain ⟨m, hm⟩ := k0; exact DataW.trod_lt m _ _ _ hm
  obtain ⟨z0, w0⟩ : ∃ zs, IsRow .i64 W a0 len0 cap0 zs := by
    obtain ⟨fuel, hf⟩ := h0
    rcases open_ints Try.underlying22 Try.underlying3 (by kernel_rfl) hf with ⟨hcs, _⟩ | ⟨x, l, c, zs, hcs, _, hl, hm, hz, _, hcell, hwz⟩
    · simp [Value.cells] at hcs
      obtain ⟨rfl, rfl, rfl⟩ := hcs
      exact ⟨[], .inl ⟨rfl, rfl, rfl, rfl⟩⟩
    · simp [Value.cells] at hcs
      obtain ⟨rfl, rfl, rfl⟩ := hcs
      exact ⟨zs, .inr ⟨_, rfl, hl, hm, by simpa using hz, hcell, hwz⟩⟩
  clear hA0 hval0
  refine (walk a0 len0 cap0 z0 W w0).mono fun e W' ⟨he, bel⟩ => ?_
  subst he
  exact ⟨_, rfl, _, _, _, [], _, [], hW', trodAll_mk1 (shut_bool Try.underlying4 _), (trodAll_cons_mk (Below.trod laidOut (by kernel_rfl) (of_decide_eq_true (by kernel_rfl)) k0 bel lt0) trodAll_mk0), rfl, bel.frame _, fun h => by cases h⟩

theorem over : Rows.fnExactSplitRecordsRow.holds Try.pinned (OpenSpec.ofChange Rows.fnExactSplitRecordsSpec) :=
  OpenClaim.holds_of_wide 10 Try.f10 rfl rfl rfl rfl rfl rfl rfl ⟨rfl, rfl, rfl, rfl, rfl⟩ rfl rfl rfl rfl rfl (by kernel_rfl) Try.func10
    (show joinedFacts Try.prog 10 Try.f10 Rows.fnExactSplitRecordsSpec Rows.fnExactSplitRecordsRow = true by unfold joinedFacts; rw [Head.make, Head.lifts, Head.enters]; kernel_rfl)
    (of_decide_eq_true (by kernel_rfl)) (by unfold Func.isWrapper; first | (rw [if_pos (by decide +kernel)]; kernel_rfl) | (rw [if_neg (by decide +kernel)]; exact ⟨rfl, rfl⟩))
    (fun os started H enc _ => lifted os started H enc)

/-- ████ THE STATEMENT ████ -/
theorem proved : Rows.FnExactSplitRecordsSaid := over
#print axioms proved
end Go.Proofs.Ytmiohdibbpckaaa.fnExactSplitRecords
