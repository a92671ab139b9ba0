/-
For every group and every further argument the law FnExactIsAccepting returns true: the program's IsAccepting answers as the reference's does.
No condition.
-/
import Derived.Test.YtdaekpfngphefaaRows
import Derived.WalkKit
import Derived.ProofKit
import Derived.OpenShut
import Derived.ShutString
import Derived.ChangeOld
import Derived.Below
import Derived.Lib.SmallJoins
import Derived.Test.YtdaekpfngphefaaExtB
import Derived.Test.YtdaekpfngphefaaFacts
namespace Go.Proofs.Ytdaekpfngphefaa.fnExactIsAccepting
open Go.Joins Go.ChangeShapes Go.WideShapes Go.ChangeAt Go.RowKit Go.Deep
open Go.ChangeMaps (open_string shut_string)
set_option linter.unusedVariables false

theorem own : ownKnob Try.prog.godebug = none := by kernel_rfl
theorem laidOut : laidOutB Try.prog = true := by kernel_rfl

/-- What the walk is told of a slice of integers that came in: it is nil; or it leads to a row of 'cap' cells that hold the numbers 'zs'. -/
def IsRow (k : IntKind) (w : World) (a : Option Addr) (len cap : Nat) (zs : List Int) : Prop :=
  (a = none ∧ len = 0 ∧ cap = 0 ∧ zs = []) ∨
  ∃ x, a = some x ∧ len ≤ cap ∧ cap ≤ maxLen ∧ zs.length = cap ∧ (∀ i, i < zs.length → w.cell? (x.add i) = some (.int k (zs.getD i 0))) ∧ ∀ n ∈ zs, (Lit.int k n).wf = true



/-! ### STEP 1: the walk: the Go text returns true and writes nothing that was there -/
set_option maxRecDepth 100000 in
set_option maxHeartbeats 3200000 in
theorem walk (P0 Q0 G0 : Int) (a1 : Int) (a2 : Int) (Commit3 Challenge3 Response3 : Int) (w : World) (wP0 : (Lit.int .i64 P0).wf = true) (wQ0 : (Lit.int .i64 Q0).wf = true) (wG0 : (Lit.int .i64 G0).wf = true) (w1 : (Lit.int .i64 a1).wf = true) (w2 : (Lit.int .i64 a2).wf = true) (wCommit3 : (Lit.int .i64 Commit3).wf = true) (wChallenge3 : (Lit.int .i64 Challenge3).wf = true) (wResponse3 : (Lit.int .i64 Response3).wf = true) :
    Calls Try.prog 13 #[.agg #[.int .i64 P0, .int .i64 Q0, .int .i64 G0], .int .i64 a1, .int .i64 a2, .agg #[.int .i64 Commit3, .int .i64 Challenge3, .int .i64 Response3]] w fun e w' => e = .returned (.bool true) ∧ Below w.heap.size w w' := by
  obtain ⟨k0, hk0⟩ : ∃ k, iaV P0 Q0 G0 a1 a2 Commit3 Challenge3 Response3 = k := ⟨_, rfl⟩
  have K0 := Lib.hid hk0
  clear hk0
  obtain ⟨k1, hk1⟩ : ∃ k, iaB P0 Q0 G0 a1 a2 Commit3 Challenge3 Response3 = k := ⟨_, rfl⟩
  have K1 := Lib.hid hk1
  clear hk1
  have G_0 := Lib.hid ((gr_at w (w.heap.size) (by simp) P0 Q0 G0 23).below (ba (w.alloc (.cells #[.int .i64 P0, .int .i64 Q0, .int .i64 G0] 23)) (.cells #[.int .i64 Commit3, .int .i64 Challenge3, .int .i64 Response3] 75)))
  have T_0 := Lib.hid (gr_at (w.alloc (.cells #[.int .i64 P0, .int .i64 Q0, .int .i64 G0] 23)) (w.heap.size + 1) (by simp) Commit3 Challenge3 Response3 75)
  have HB_0 := Lib.hid (show Below w.heap.size w ((w.alloc (.cells #[.int .i64 P0, .int .i64 Q0, .int .i64 G0] 23)).alloc (.cells #[.int .i64 Commit3, .int .i64 Challenge3, .int .i64 Response3] 75)) from bt (ba _ _) (ba _ _))
  obtain ⟨gG0, gG1, gG2⟩ := G_0.out
  obtain ⟨gT0, gT1, gT2⟩ := T_0.out
  go_enter Try.func13, Try.ntmps13
  go_wp2_with fail
  go_region_held3 (fun w' => (w'.cell? ⟨w.heap.size, 0, none⟩ = some (.int .i64 P0) ∧ w'.cell? ⟨w.heap.size, 1, none⟩ = some (.int .i64 Q0) ∧ w'.cell? ⟨w.heap.size, 2, none⟩ = some (.int .i64 G0)) ∧ (w'.cell? ⟨w.heap.size + 1, 0, none⟩ = some (.int .i64 Commit3) ∧ w'.cell? ⟨w.heap.size + 1, 1, none⟩ = some (.int .i64 Challenge3) ∧ w'.cell? ⟨w.heap.size + 1, 2, none⟩ = some (.int .i64 Response3))) (first | with_reducible exact ⟨⟨xG0, xG1, xG2⟩, ⟨xT0, xT1, xT2⟩⟩ | exact ⟨⟨xG0, xG1, xG2⟩, ⟨xT0, xT1, xT2⟩⟩ | exact ⟨⟨gG0, gG1, gG2⟩, ⟨gT0, gT1, gT2⟩⟩) ((first
    | (go_at_call 18; refine (toGroup_any _ _ _ _).mono ?_; rintro e vp ⟨rfl, hp⟩; have HBp := Lib.hid (show Below w.heap.size w vp from by first | exact bt HBp.out hp | exact bt_drop HBp.out hp | exact bt_drop HB_0.out hp); have G_p := Lib.hid (by first | exact G_p.out.below hp | exact GR.below (GR.drew G_p.out) hp | exact GR.below (GR.drew G_0.out) hp); have T_p := Lib.hid (by first | exact T_p.out.below hp | exact GR.below (GR.drew T_p.out) hp | exact GR.below (GR.drew T_0.out) hp); clear hp; obtain ⟨xG0, xG1, xG2⟩ := G_p.out; obtain ⟨xT0, xT1, xT2⟩ := T_p.out)
    | (go_at_call 54; refine (toTr_any _ _ _ _).mono ?_; rintro e vp ⟨rfl, hp⟩; have HBp := Lib.hid (show Below w.heap.size w vp from by first | exact bt HBp.out hp | exact bt_drop HBp.out hp | exact bt_drop HB_0.out hp); have G_p := Lib.hid (by first | exact G_p.out.below hp | exact GR.below (GR.drew G_p.out) hp | exact GR.below (GR.drew G_0.out) hp); have T_p := Lib.hid (by first | exact T_p.out.below hp | exact GR.below (GR.drew T_p.out) hp | exact GR.below (GR.drew T_0.out) hp); clear hp; obtain ⟨xG0, xG1, xG2⟩ := G_p.out; obtain ⟨xT0, xT1, xT2⟩ := T_p.out)
    | (go_at_call 53; refine (sIsAccepting_any P0 Q0 G0 a1 a2 Commit3 Challenge3 Response3 _).mono ?_; rw [K0.out, K1.out]; rintro e vp ⟨rfl, hp⟩; have HBp := Lib.hid (show Below w.heap.size w vp from by first | exact bt HBp.out hp | exact bt_drop HBp.out hp); have G_p := Lib.hid (by first | exact G_p.out.below hp | exact GR.below (GR.drew G_p.out) hp); have T_p := Lib.hid (by first | exact T_p.out.below hp | exact GR.below (GR.drew T_p.out) hp); clear hp; obtain ⟨xG0, xG1, xG2⟩ := G_p.out; obtain ⟨xT0, xT1, xT2⟩ := T_p.out)
    | fail))
  all_goals (
    go_wp2_with fail
    go_region_held3 (fun w' => (w'.cell? ⟨w.heap.size, 0, none⟩ = some (.int .i64 P0) ∧ w'.cell? ⟨w.heap.size, 1, none⟩ = some (.int .i64 Q0) ∧ w'.cell? ⟨w.heap.size, 2, none⟩ = some (.int .i64 G0)) ∧ (w'.cell? ⟨w.heap.size + 1, 0, none⟩ = some (.int .i64 Commit3) ∧ w'.cell? ⟨w.heap.size + 1, 1, none⟩ = some (.int .i64 Challenge3) ∧ w'.cell? ⟨w.heap.size + 1, 2, none⟩ = some (.int .i64 Response3))) (first | with_reducible exact ⟨⟨xG0, xG1, xG2⟩, ⟨xT0, xT1, xT2⟩⟩ | exact ⟨⟨xG0, xG1, xG2⟩, ⟨xT0, xT1, xT2⟩⟩) ((first
      | (go_at_call 18; refine (toGroup_any _ _ _ _).mono ?_; rintro e vp ⟨rfl, hp⟩; have HBp := Lib.hid (show Below w.heap.size w vp from by first | exact bt HBp.out hp | exact bt_drop HBp.out hp); have G_p := Lib.hid (by first | exact G_p.out.below hp | exact GR.below (GR.drew G_p.out) hp); have T_p := Lib.hid (by first | exact T_p.out.below hp | exact GR.below (GR.drew T_p.out) hp); clear hp; obtain ⟨xG0, xG1, xG2⟩ := G_p.out; obtain ⟨xT0, xT1, xT2⟩ := T_p.out)
      | (go_at_call 54; refine (toTr_any _ _ _ _).mono ?_; rintro e vp ⟨rfl, hp⟩; have HBp := Lib.hid (show Below w.heap.size w vp from by first | exact bt HBp.out hp | exact bt_drop HBp.out hp); have G_p := Lib.hid (by first | exact G_p.out.below hp | exact GR.below (GR.drew G_p.out) hp); have T_p := Lib.hid (by first | exact T_p.out.below hp | exact GR.below (GR.drew T_p.out) hp); clear hp; obtain ⟨xG0, xG1, xG2⟩ := G_p.out; obtain ⟨xT0, xT1, xT2⟩ := T_p.out)
      | (go_at_call 55; refine (isAccepting_any P0 Q0 G0 a1 a2 Commit3 Challenge3 Response3 _).mono ?_; rw [K0.out, K1.out]; rintro e vp ⟨rfl, hp⟩; have HBp := Lib.hid (show Below w.heap.size w vp from by first | exact bt HBp.out hp | exact bt_drop HBp.out hp); have G_p := Lib.hid (by first | exact G_p.out.below hp | exact GR.below (GR.drew G_p.out) hp); have T_p := Lib.hid (by first | exact T_p.out.below hp | exact GR.below (GR.drew T_p.out) hp); clear hp; obtain ⟨xG0, xG1, xG2⟩ := G_p.out; obtain ⟨xT0, xT1, xT2⟩ := T_p.out)
      | fail))
    all_goals (
      go_wp2
      go_ret
      first | exact ⟨rfl, HBp.out⟩ | exact ⟨rfl, HBp.out.drew⟩))

/-! ### The row's step -/
set_option maxRecDepth 100000 in
theorem lifted (os : Os) (started : os.Started) (H : Type) (enc : TypeId × Value → H) :
    ReturnsInHanded {} Try.checked os 13 .any (Rows.fnExactIsAcceptingSpec.pre6 enc Try.prog Try.f13 Rows.fnExactIsAcceptingRow.domain false) (Rows.fnExactIsAcceptingSpec.post enc Try.prog Try.f13 false true false false) := by
  refine returnsInHanded_of_change (C := Try.checked) own started (by kernel_rfl) Try.func13
    (ChangeSpec.witness6 (enc := enc) (C := Try.checked) false ⟨#[], #[.agg #[.int .i64 0, .int .i64 0, .int .i64 0], .int .i64 0, .int .i64 0, .agg #[.int .i64 0, .int .i64 0, .int .i64 0]], []⟩ 8 (by kernel_rfl) (by kernel_rfl) (by kernel_rfl) (by kernel_rfl)) ?_
  intro W base args ds gs before hval0 hW hcnd _
  have hval : ∀ (j : Nat) t v, Try.f13.params[j]? = some t → args[j]? = some v → Value.okWide Try.prog W .any base t v := hval0
  have hW' := hW
  obtain ⟨p, q, hA0, hV, rfl, hfz, hnd⟩ := hW
  have hA : DataW.TrodAll enc Try.prog W 0 (fun _ => true) true Try.f13.params.toList args.toList ds p := hA0
  rw [Try.params13] at hA hval
  obtain ⟨v0, vs0, d0, ds0, p0, q0, hargs, rfl, rfl, h0, r0⟩ := trodAll_cons hA
  obtain ⟨v1, vs1, d1, ds1, p1, q1, rfl, rfl, rfl, h1, r1⟩ := trodAll_cons r0
  obtain ⟨v2, vs2, d2, ds2, p2, q2, rfl, rfl, rfl, h2, r2⟩ := trodAll_cons r1
  obtain ⟨v3, vs3, d3, ds3, p3, q3, rfl, rfl, rfl, h3, r3⟩ := trodAll_cons r2
  obtain ⟨rfl, rfl, rfl⟩ := trodAll_nil r3
  obtain rfl : args = #[v0, v1, v2, v3] := by cases args; simp_all
  obtain ⟨rfl, rfl⟩ := trodVars_none hV
  have k0 := h0
  have lt0 : ∀ x ∈ p0, x.block < W.heap.size := by obtain ⟨m, hm⟩ := k0; exact DataW.trod_lt m _ _ _ hm
  obtain ⟨c0_0, c0_1, c0_2, y0_0, y0_1, y0_2, m0, rfl, rfl, rfl, hy0_0, hy0_1, hy0_2⟩ := open_agg3 Try.underlying23 (by kernel_rfl) (by kernel_rfl) (hval 0 23 v0 rfl rfl) h0
  obtain ⟨P0, e0_0, _, wP0⟩ := DataW.trod_int Try.underlying3 hy0_0
  obtain rfl := (List.cons.inj e0_0).1
  obtain ⟨Q0, e0_1, _, wQ0⟩ := DataW.trod_int Try.underlying3 hy0_1
  obtain rfl := (List.cons.inj e0_1).1
  obtain ⟨G0, e0_2, _, wG0⟩ := DataW.trod_int Try.underlying3 hy0_2
  obtain rfl := (List.cons.inj e0_2).1
  obtain ⟨a1, rfl, rfl, rfl, w1⟩ := open_int Try.underlying3 (hval 1 3 v1 rfl rfl) h1
  obtain ⟨a2, rfl, rfl, rfl, w2⟩ := open_int Try.underlying3 (hval 2 3 v2 rfl rfl) h2
  have k3 := h3
  have lt3 : ∀ x ∈ p3, x.block < W.heap.size := by obtain ⟨m, hm⟩ := k3; exact DataW.trod_lt m _ _ _ hm
  obtain ⟨c3_0, c3_1, c3_2, y3_0, y3_1, y3_2, m3, rfl, rfl, rfl, hy3_0, hy3_1, hy3_2⟩ := open_agg3 Try.underlying75 (by kernel_rfl) (by kernel_rfl) (hval 3 75 v3 rfl rfl) h3
  obtain ⟨Commit3, e3_0, _, wCommit3⟩ := DataW.trod_int Try.underlying3 hy3_0
  obtain rfl := (List.cons.inj e3_0).1
  obtain ⟨Challenge3, e3_1, _, wChallenge3⟩ := DataW.trod_int Try.underlying3 hy3_1
  obtain rfl := (List.cons.inj e3_1).1
  obtain ⟨Response3, e3_2, _, wResponse3⟩ := DataW.trod_int Try.underlying3 hy3_2
  obtain rfl := (List.cons.inj e3_2).1
  clear hA0 hval0
  refine (walk P0 Q0 G0 a1 a2 Commit3 Challenge3 Response3 W wP0 wQ0 wG0 w1 w2 wCommit3 wChallenge3 wResponse3).mono fun e W' ⟨he, bel⟩ => ?_
  subst he
  exact ⟨_, rfl, _, _, _, [], _, [], hW', trodAll_mk1 (shut_bool Try.underlying4 _), (trodAll_cons_mk (Below.trod laidOut (by kernel_rfl) (of_decide_eq_true (by kernel_rfl)) k0 bel lt0) (trodAll_cons_mk (shut_int Try.underlying3 w1) (trodAll_cons_mk (shut_int Try.underlying3 w2) (trodAll_cons_mk (Below.trod laidOut (by kernel_rfl) (of_decide_eq_true (by kernel_rfl)) k3 bel lt3) trodAll_mk0)))), rfl, bel.frame _, fun h => by cases h⟩

theorem over : Rows.fnExactIsAcceptingRow.holds Try.pinned (OpenSpec.ofChange Rows.fnExactIsAcceptingSpec) :=
  OpenClaim.holds_of_wide 13 Try.f13 rfl rfl rfl rfl rfl rfl rfl ⟨rfl, rfl, rfl, rfl, rfl⟩ rfl rfl rfl rfl rfl (by kernel_rfl) Try.func13
    (show joinedFacts Try.prog 13 Try.f13 Rows.fnExactIsAcceptingSpec Rows.fnExactIsAcceptingRow = true by unfold joinedFacts; rw [Head.make, Head.lifts, Head.enters]; kernel_rfl)
    (of_decide_eq_true (by kernel_rfl)) (by unfold Func.isWrapper; first | (rw [if_pos (by decide +kernel)]; kernel_rfl) | (rw [if_neg (by decide +kernel)]; exact ⟨rfl, rfl⟩))
    (fun os started H enc _ => lifted os started H enc)

/-- The statement. -/
theorem proved : Rows.FnExactIsAcceptingSaid := over
#print axioms proved
end Go.Proofs.Ytdaekpfngphefaa.fnExactIsAccepting
