/-
For every argument the law FnExactValueFrom returns true: the program's ValueFrom answers as the reference's does, leaves its arguments as they were, 
No condition.
-/
import Derived.Test.YtkeokcebanodeaaRows
import Derived.WalkKit
import Derived.ProofKit
import Derived.OpenShut
import Derived.ShutString
import Derived.ChangeOld
import Derived.Below
import Derived.Test.YtkeokcebanodeaaPolN
import Derived.Test.YtkeokcebanodeaaFacts
namespace Go.Proofs.Ytkeokcebanodeaa.fnExactValueFrom
open Go.ChangeShapes Go.WideShapes Go.ChangeAt Go.RowKit
open Go.ChangeMaps (open_string shut_string)
set_option linter.unusedVariables false

theorem own : ownKnob Try.prog.godebug = none := by kernel_rfl
theorem laidOut : laidOutB Try.prog = true := by kernel_rfl

/-- WHAT THE WALK IS TOLD OF A SLICE OF INTEGERS THAT CAME IN: it is nil; or it leads to a row of 'cap' cells, the numbers 'zs' (the first 'len' are its elements, the rest its spare room), each fitting its kind. -/
def IsRow (k : IntKind) (w : World) (a : Option Addr) (len cap : Nat) (zs : List Int) : Prop :=
  (a = none ∧ len = 0 ∧ cap = 0 ∧ zs = []) ∨
  ∃ x, a = some x ∧ len ≤ cap ∧ cap ≤ maxLen ∧ zs.length = cap ∧ (∀ i, i < zs.length → w.cell? (x.add i) = some (.int k (zs.getD i 0))) ∧ ∀ n ∈ zs, (Lit.int k n).wf = true



/-! ### STEP 1: THE WALK: the Go text returns true, AND WRITES NOTHING THAT WAS THERE: 'Below w.heap.size w w'' (Derived/Below.lean: '.refl', '.alloc', '.drew', '.setCell' at a new block, '.trans'). Open each 'IsRow' by 'rcases' AHEAD of 'go_enter'; part every test ahead of the walk. -/
theorem walk (a0 : Int) (a1 : Option Addr) (len1 cap1 : Nat) (z1 : List Int) (a2 : Option Addr) (len2 cap2 : Nat) (z2 : List Int) (a3 : Int) (w : World) (w0 : (Lit.int .i64 a0).wf = true) (w1 : IsRow .i64 w a1 len1 cap1 z1) (w2 : IsRow .i64 w a2 len2 cap2 z2) (w3 : (Lit.int .i64 a3).wf = true) :
    Calls Try.prog 12 #[.int .i64 a0, .slice a1 len1 cap1, .slice a2 len2 cap2, .int .i64 a3] w fun e w' => e = .returned (.bool true) ∧ Below w.heap.size w w' := by
  obtain ⟨hz1, hn1, hm1⟩ := inI_of_row w1
  obtain ⟨hz2, hn2, hm2⟩ := inI_of_row w2
  generalize z1.take len1 = zs1 at hz1 hn1
  generalize z2.take len2 = zs2 at hz2 hn2
  clear w1 w2
  by_cases hbig1 : 1048576 < len1
  · have hbi1 : (1048576 : Int) < (len1 : Int) := by omega
    unfold maxLen at hm1 hm2
    go_enter Try.func12, Try.ntmps12
    go_wp2
    go_ret
    exact ⟨rfl, Below.refl _ _⟩
  have hbi1 : (len1 : Int) ≤ 1048576 := by omega
  by_cases hbig2 : 1048576 < len2
  · have hbi2 : (1048576 : Int) < (len2 : Int) := by omega
    unfold maxLen at hm1 hm2
    go_enter Try.func12, Try.ntmps12
    go_wp2
    go_ret
    exact ⟨rfl, Below.refl _ _⟩
  have hbi2 : (len2 : Int) ≤ 1048576 := by omega
  have hzl1 : zs1.length ≤ 1048576 := by omega
  have Hb_0 := Lib.hid hz1
  have hzl2 : zs2.length ≤ 1048576 := by omega
  have Hc_0 := Lib.hid hz2
  clear hz1 hn1 hm1 hbig1 hz2 hn2 hm2 hbig2
  generalize hR : valRes a0 a3 zs1 zs2 = res
  generalize hK : valB a0 a3 zs1 zs2 = ok
  have HR := Lib.hid hR
  have HK := Lib.hid hK
  clear hR hK
  go_enter Try.func12, Try.ntmps12
  go_wp2_with fail
  refine (toI_any Hb_0.out (by omega)).mono ?_
  rintro e v1 ⟨ub, rfl, ho, hb⟩
  have Hb_1 := Lib.hid (Hb_0.out.below hb)
  have Hc_1 := Lib.hid (Hc_0.out.below hb)
  have HB_1 := Lib.hid (hb)
  have HCb_1 := Lib.hid ho.toIn
  clear hb Hb_0 Hc_0
  clear ho
  go_wp2_with fail
  refine (toI_any Hc_1.out (by omega)).mono ?_
  rintro e v2 ⟨uc, rfl, ho, hb⟩
  have Hb_2 := Lib.hid (Hb_1.out.below hb)
  have Hc_2 := Lib.hid (Hc_1.out.below hb)
  have HCb_2 := Lib.hid (HCb_1.out.below hb)
  have HB_2 := Lib.hid (bt HB_1.out hb)
  have HCc_2 := Lib.hid ho.toIn
  clear hb Hb_1 Hc_1 HCb_1 HB_1
  clear ho
  go_wp2_with fail
  refine (sValueFrom_ans HCb_2.out HCc_2.out (by omega) (by omega)).mono ?_
  rw [HR.out]
  rw [HK.out]
  rintro e v3 ⟨rfl, hb⟩
  have Hb_3 := Lib.hid (Hb_2.out.below hb)
  have Hc_3 := Lib.hid (Hc_2.out.below hb)
  have HB_3 := Lib.hid (bt HB_2.out hb)
  clear hb Hb_2 Hc_2 HB_2
  go_wp2_with fail
  refine (toI_any Hb_3.out (by omega)).mono ?_
  rintro e v4 ⟨xb, rfl, ho, hb⟩
  have LBb := Lib.hid HB_3.out.size
  have Hb_4 := Lib.hid (Hb_3.out.below hb)
  have Hc_4 := Lib.hid (Hc_3.out.below hb)
  have HB_4 := Lib.hid (bt HB_3.out hb)
  have HXb_4 := Lib.hid ho
  clear hb Hb_3 Hc_3 HB_3
  clear ho
  go_wp2_with fail
  refine (toI_any Hc_4.out (by omega)).mono ?_
  rintro e v5 ⟨xc, rfl, ho, hb⟩
  have LXbc := Lib.hid HXb_4.out.le
  have LBc := Lib.hid HB_4.out.size
  have Hb_5 := Lib.hid (Hb_4.out.below hb)
  have Hc_5 := Lib.hid (Hc_4.out.below hb)
  have HXb_5 := Lib.hid (HXb_4.out.below hb)
  have HB_5 := Lib.hid (bt HB_4.out hb)
  have HXc_5 := Lib.hid ho
  clear hb Hb_4 Hc_4 HXb_4 HB_4
  clear ho
  go_wp2_with fail
  refine (valueFrom_ans HXb_5.out.toIn HXc_5.out.toIn (by omega) (by omega)).mono ?_
  rw [HR.out]
  rw [HK.out]
  rintro e v6 ⟨rfl, hb⟩
  have Hb_6 := Lib.hid (Hb_5.out.below hb)
  have Hc_6 := Lib.hid (Hc_5.out.below hb)
  have HXb_6 := Lib.hid (HXb_5.out.below hb)
  have HXc_6 := Lib.hid (HXc_5.out.below hb)
  have HB_6 := Lib.hid (bt HB_5.out hb)
  clear hb Hb_5 Hc_5 HXb_5 HXc_5 HB_5
  go_wp2_with fail
  refine (toI_any Hb_6.out (by omega)).mono ?_
  rintro e v7 ⟨ub, rfl, ho, hb⟩
  have Hb_7 := Lib.hid (Hb_6.out.below hb)
  have Hc_7 := Lib.hid (Hc_6.out.below hb)
  have HXb_7 := Lib.hid (HXb_6.out.below hb)
  have HXc_7 := Lib.hid (HXc_6.out.below hb)
  have HB_7 := Lib.hid (bt HB_6.out hb)
  have HC_7 := Lib.hid ho.toIn
  clear hb Hb_6 Hc_6 HXb_6 HXc_6 HB_6
  clear ho
  go_wp2_with fail
  refine (eqI_any HXb_7.out.toIn HC_7.out (by omega)).mono ?_
  rintro e v8 ⟨rfl, hb⟩
  have Hb_8 := Lib.hid (Hb_7.out.below hb)
  have Hc_8 := Lib.hid (Hc_7.out.below hb)
  have HXb_8 := Lib.hid (HXb_7.out.below hb)
  have HXc_8 := Lib.hid (HXc_7.out.below hb)
  have HB_8 := Lib.hid (bt HB_7.out hb)
  clear hb Hb_7 Hc_7 HXb_7 HXc_7 HB_7
  clear HC_7
  go_wp2_with fail
  refine (toI_any Hc_8.out (by omega)).mono ?_
  rintro e v9 ⟨uc, rfl, ho, hb⟩
  have Hb_9 := Lib.hid (Hb_8.out.below hb)
  have Hc_9 := Lib.hid (Hc_8.out.below hb)
  have HXb_9 := Lib.hid (HXb_8.out.below hb)
  have HXc_9 := Lib.hid (HXc_8.out.below hb)
  have HB_9 := Lib.hid (bt HB_8.out hb)
  have HC_9 := Lib.hid ho.toIn
  clear hb Hb_8 Hc_8 HXb_8 HXc_8 HB_8
  clear ho
  go_wp2_with fail
  refine (eqI_any HXc_9.out.toIn HC_9.out (by omega)).mono ?_
  rintro e v10 ⟨rfl, hb⟩
  have Hb_10 := Lib.hid (Hb_9.out.below hb)
  have Hc_10 := Lib.hid (Hc_9.out.below hb)
  have HXb_10 := Lib.hid (HXb_9.out.below hb)
  have HXc_10 := Lib.hid (HXc_9.out.below hb)
  have HB_10 := Lib.hid (bt HB_9.out hb)
  clear hb Hb_9 Hc_9 HXb_9 HXc_9 HB_9
  clear HC_9
  go_wp2
  go_ret
  exact ⟨rfl, HB_10.out⟩

/-! ### THE ROW's STEP: WRITTEN OUT: LEAVE IT -/
set_option maxRecDepth 100000 in
theorem lifted (os : Os) (started : os.Started) (H : Type) (enc : TypeId × Value → H) :
    ReturnsInHanded {} Try.checked os 12 .any (Rows.fnExactValueFromSpec.pre6 enc Try.prog Try.f12 Rows.fnExactValueFromRow.domain false) (Rows.fnExactValueFromSpec.post enc Try.prog Try.f12 false true false false) := by
  refine returnsInHanded_of_change (C := Try.checked) own started (by kernel_rfl) Try.func12
    (ChangeSpec.witness6 (enc := enc) (C := Try.checked) false ⟨#[], #[.int .i64 0, .slice none 0 0, .slice none 0 0, .int .i64 0], []⟩ 8 (by kernel_rfl) (by kernel_rfl) (by kernel_rfl) (by kernel_rfl)) ?_
  intro W base args ds gs before hval0 hW hcnd _
  have hval : ∀ (j : Nat) t v, Try.f12.params[j]? = some t → args[j]? = some v → Value.okWide Try.prog W .any base t v := hval0
  have hW' := hW
  obtain ⟨p, q, hA0, hV, rfl, hfz, hnd⟩ := hW
  have hA : DataW.TrodAll enc Try.prog W 0 (fun _ => true) true Try.f12.params.toList args.toList ds p := hA0
  rw [Try.params12] at hA hval
  obtain ⟨v0, vs0, d0, ds0, p0, q0, hargs, rfl, rfl, h0, r0⟩ := trodAll_cons hA
  obtain ⟨v1, vs1, d1, ds1, p1, q1, rfl, rfl, rfl, h1, r1⟩ := trodAll_cons r0
  obtain ⟨v2, vs2, d2, ds2, p2, q2, rfl, rfl, rfl, h2, r2⟩ := trodAll_cons r1
  obtain ⟨v3, vs3, d3, ds3, p3, q3, rfl, rfl, rfl, h3, r3⟩ := trodAll_cons r2
  obtain ⟨rfl, rfl, rfl⟩ := trodAll_nil r3
  obtain rfl : args = #[v0, v1, v2, v3] := by cases args; simp_all
  obtain ⟨rfl, rfl⟩ := trodVars_none hV
  obtain ⟨a0, rfl, rfl, rfl, w0⟩ := open_int Try.underlying3 (hval 0 3 v0 rfl rfl) h0
  obtain ⟨a1, len1, cap1, rfl⟩ := okWide_slice Try.underlying23 (hval 1 23 v1 rfl rfl)
  have k1 := h1
  have lt1 : ∀ x ∈ p1, x.block < W.heap.size := by obtain ⟨m, hm⟩ := k1; exact DataW.trod_lt m _ _ _ hm
  obtain ⟨z1, w1⟩ : ∃ zs, IsRow .i64 W a1 len1 cap1 zs := by
    obtain ⟨fuel, hf⟩ := h1
    rcases open_ints Try.underlying23 Try.underlying3 (by kernel_rfl) hf with ⟨hcs, _⟩ | ⟨x, l, c, zs, hcs, _, hl, hm, hz, _, hcell, hwz⟩
    · simp [Value.cells] at hcs
      obtain ⟨rfl, rfl, rfl⟩ := hcs
      exact ⟨[], .inl ⟨rfl, rfl, rfl, rfl⟩⟩
    · simp [Value.cells] at hcs
      obtain ⟨rfl, rfl, rfl⟩ := hcs
      exact ⟨zs, .inr ⟨_, rfl, hl, hm, by simpa using hz, hcell, hwz⟩⟩
  obtain ⟨a2, len2, cap2, rfl⟩ := okWide_slice Try.underlying23 (hval 2 23 v2 rfl rfl)
  have k2 := h2
  have lt2 : ∀ x ∈ p2, x.block < W.heap.size := by obtain ⟨m, hm⟩ := k2; exact DataW.trod_lt m _ _ _ hm
  obtain ⟨z2, w2⟩ : ∃ zs, IsRow .i64 W a2 len2 cap2 zs := by
    obtain ⟨fuel, hf⟩ := h2
    rcases open_ints Try.underlying23 Try.underlying3 (by kernel_rfl) hf with ⟨hcs, _⟩ | ⟨x, l, c, zs, hcs, _, hl, hm, hz, _, hcell, hwz⟩
    · simp [Value.cells] at hcs
      obtain ⟨rfl, rfl, rfl⟩ := hcs
      exact ⟨[], .inl ⟨rfl, rfl, rfl, rfl⟩⟩
    · simp [Value.cells] at hcs
      obtain ⟨rfl, rfl, rfl⟩ := hcs
      exact ⟨zs, .inr ⟨_, rfl, hl, hm, by simpa using hz, hcell, hwz⟩⟩
  obtain ⟨a3, rfl, rfl, rfl, w3⟩ := open_int Try.underlying3 (hval 3 3 v3 rfl rfl) h3
  clear hA0 hval0
  refine (walk a0 a1 len1 cap1 z1 a2 len2 cap2 z2 a3 W w0 w1 w2 w3).mono fun e W' ⟨he, bel⟩ => ?_
  subst he
  exact ⟨_, rfl, _, _, _, [], _, [], hW', trodAll_mk1 (shut_bool Try.underlying4 _), (trodAll_cons_mk (shut_int Try.underlying3 w0) (trodAll_cons_mk (Below.trod laidOut (by kernel_rfl) (of_decide_eq_true (by kernel_rfl)) k1 bel lt1) (trodAll_cons_mk (Below.trod laidOut (by kernel_rfl) (of_decide_eq_true (by kernel_rfl)) k2 bel lt2) (trodAll_cons_mk (shut_int Try.underlying3 w3) trodAll_mk0)))), rfl, bel.frame _, fun h => by cases h⟩

theorem over : Rows.fnExactValueFromRow.holds Try.pinned (OpenSpec.ofChange Rows.fnExactValueFromSpec) :=
  OpenClaim.holds_of_wide 12 Try.f12 rfl rfl rfl rfl rfl rfl rfl ⟨rfl, rfl, rfl, rfl, rfl⟩ rfl rfl rfl rfl rfl (by kernel_rfl) Try.func12
    (show joinedFacts Try.prog 12 Try.f12 Rows.fnExactValueFromSpec Rows.fnExactValueFromRow = true by unfold joinedFacts; rw [Head.make, Head.lifts, Head.enters]; kernel_rfl)
    (of_decide_eq_true (by kernel_rfl)) (by unfold Func.isWrapper; first | (rw [if_pos (by decide +kernel)]; kernel_rfl) | (rw [if_neg (by decide +kernel)]; exact ⟨rfl, rfl⟩))
    (fun os started H enc _ => lifted os started H enc)

/-- ████ THE STATEMENT ████ -/
theorem proved : Rows.FnExactValueFromSaid := over
#print axioms proved
end Go.Proofs.Ytkeokcebanodeaa.fnExactValueFrom
