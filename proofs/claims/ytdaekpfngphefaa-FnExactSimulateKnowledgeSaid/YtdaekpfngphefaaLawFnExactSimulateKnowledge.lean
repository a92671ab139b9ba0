/-
For every group and every further argument the law FnExactSimulateKnowledge returns true: the program's SimulateKnowledge answers as the reference's does.
No condition.
-/
import Derived.Test.YtdaekpfngphefaaRows
import Derived.WalkKit
import Derived.ProofKit
import Derived.OpenShut
import Derived.ShutString
import Derived.ChangeOld
import Derived.Below
import Derived.Lib.SmallJoins
import Derived.Test.YtdaekpfngphefaaExtB
import Derived.Test.YtdaekpfngphefaaFacts
namespace Go.Proofs.Ytdaekpfngphefaa.fnExactSimulateKnowledge
open Go.Joins Go.ChangeShapes Go.WideShapes Go.ChangeAt Go.RowKit Go.Deep
open Go.ChangeMaps (open_string shut_string)
set_option linter.unusedVariables false

theorem own : ownKnob Try.prog.godebug = none := by kernel_rfl
theorem laidOut : laidOutB Try.prog = true := by kernel_rfl

/-- What the walk is told of a slice of integers that came in: it is nil; or it leads to a row of 'cap' cells that hold the numbers 'zs'. -/
def IsRow (k : IntKind) (w : World) (a : Option Addr) (len cap : Nat) (zs : List Int) : Prop :=
  (a = none ∧ len = 0 ∧ cap = 0 ∧ zs = []) ∨
  ∃ x, a = some x ∧ len ≤ cap ∧ cap ≤ maxLen ∧ zs.length = cap ∧ (∀ i, i < zs.length → w.cell? (x.add i) = some (.int k (zs.getD i 0))) ∧ ∀ n ∈ zs, (Lit.int k n).wf = true



/-! ### STEP 1: the walk: the Go text returns true and writes nothing that was there -/
set_option maxRecDepth 100000 in
set_option maxHeartbeats 3200000 in
theorem walk (P0 Q0 G0 : Int) (a1 : Int) (a2 : Int) (a3 : Int) (a4 : Int) (w : World) (wP0 : (Lit.int .i64 P0).wf = true) (wQ0 : (Lit.int .i64 Q0).wf = true) (wG0 : (Lit.int .i64 G0).wf = true) (w1 : (Lit.int .i64 a1).wf = true) (w2 : (Lit.int .i64 a2).wf = true) (w3 : (Lit.int .i64 a3).wf = true) (w4 : (Lit.int .i64 a4).wf = true) :
    Calls Try.prog 14 #[.agg #[.int .i64 P0, .int .i64 Q0, .int .i64 G0], .int .i64 a1, .int .i64 a2, .int .i64 a3, .int .i64 a4] w fun e w' => e = .returned (.bool true) ∧ Below w.heap.size w w' := by
  obtain ⟨kc, hkc⟩ : ∃ k, skC P0 Q0 G0 a1 a2 a3 a4 = k := ⟨_, rfl⟩
  have Hkc := Lib.hid hkc
  clear hkc
  obtain ⟨ke, hke⟩ : ∃ k, skE P0 Q0 G0 a1 a2 a3 a4 = k := ⟨_, rfl⟩
  have Hke := Lib.hid hke
  clear hke
  obtain ⟨kz, hkz⟩ : ∃ k, skZ P0 Q0 G0 a1 a2 a3 a4 = k := ⟨_, rfl⟩
  have Hkz := Lib.hid hkz
  clear hkz
  obtain ⟨kb, hkb⟩ : ∃ k, skB P0 Q0 G0 a1 a2 a3 a4 = k := ⟨_, rfl⟩
  have Hkb := Lib.hid hkb
  clear hkb
  have G_0 := Lib.hid (gr_new w P0 Q0 G0 23)
  have HB_0 := Lib.hid (ba w (.cells #[.int .i64 P0, .int .i64 Q0, .int .i64 G0] 23))
  obtain ⟨g0, g1, g2⟩ := G_0.out
  go_enter Try.func14, Try.ntmps14
  go_wp2_with fail
  refine (toGroup_any _ _ _ _).mono ?_
  rintro e v1 ⟨rfl, hb⟩
  have HB_1 := Lib.hid (bt HB_0.out hb)
  have G_1 := Lib.hid (G_0.out.below hb)
  clear hb g0 g1 g2
  obtain ⟨g0, g1, g2⟩ := G_1.out
  go_wp2_with fail
  refine (sSimulateKnowledge_any P0 Q0 G0 a1 a2 a3 a4 _).mono ?_
  rw [Hkc.out, Hke.out, Hkz.out, Hkb.out]
  rintro e v2 ⟨rfl, hb⟩
  have HB_2 := Lib.hid (bt HB_1.out hb)
  have G_2 := Lib.hid (G_1.out.below hb)
  clear hb g0 g1 g2
  have hal := ba v2 (.cells #[.int .i64 kc, .int .i64 ke, .int .i64 kz] 77)
  have X_3 := Lib.hid (gr_new v2 kc ke kz 77)
  have HB_3 := Lib.hid (bt HB_2.out hal)
  have G_3 := Lib.hid (G_2.out.below hal)
  clear hal
  obtain ⟨g0, g1, g2⟩ := G_3.out
  obtain ⟨x0, x1, x2⟩ := X_3.out
  go_wp2_with fail
  refine (toGroup_any _ _ _ _).mono ?_
  rintro e v4 ⟨rfl, hb⟩
  have HB_4 := Lib.hid (bt HB_3.out hb)
  have G_4 := Lib.hid (G_3.out.below hb)
  have X_4 := Lib.hid (X_3.out.below hb)
  clear hb g0 g1 g2 x0 x1 x2
  obtain ⟨g0, g1, g2⟩ := G_4.out
  obtain ⟨x0, x1, x2⟩ := X_4.out
  go_wp2_with fail
  refine (simulateKnowledge_any P0 Q0 G0 a1 a2 a3 a4 _).mono ?_
  rw [Hkc.out, Hke.out, Hkz.out, Hkb.out]
  rintro e v5 ⟨rfl, hb⟩
  have HB_5 := Lib.hid (bt HB_4.out hb)
  have G_5 := Lib.hid (G_4.out.below hb)
  have X_5 := Lib.hid (X_4.out.below hb)
  clear hb g0 g1 g2 x0 x1 x2
  have hal := ba v5 (.cells #[.int .i64 kc, .int .i64 ke, .int .i64 kz] 77)
  have Y_6 := Lib.hid (gr_new v5 kc ke kz 77)
  have X_6 := Lib.hid (X_5.out.below hal)
  have HB_6 := Lib.hid (bt HB_5.out hal)
  clear hal
  obtain ⟨x0, x1, x2⟩ := X_6.out
  obtain ⟨y0, y1, y2⟩ := Y_6.out
  go_wp2_with fail
  refine (eqTr_same _ _ _ _).mono ?_
  rintro e v7 ⟨rfl, hb⟩
  have HB_7 := Lib.hid (bt HB_6.out hb)
  clear hb
  go_wp2
  go_ret
  exact ⟨rfl, HB_7.out⟩

/-! ### The row's step -/
set_option maxRecDepth 100000 in
theorem lifted (os : Os) (started : os.Started) (H : Type) (enc : TypeId × Value → H) :
    ReturnsInHanded {} Try.checked os 14 .any (Rows.fnExactSimulateKnowledgeSpec.pre6 enc Try.prog Try.f14 Rows.fnExactSimulateKnowledgeRow.domain false) (Rows.fnExactSimulateKnowledgeSpec.post enc Try.prog Try.f14 false true false false) := by
  refine returnsInHanded_of_change (C := Try.checked) own started (by kernel_rfl) Try.func14
    (ChangeSpec.witness6 (enc := enc) (C := Try.checked) false ⟨#[], #[.agg #[.int .i64 0, .int .i64 0, .int .i64 0], .int .i64 0, .int .i64 0, .int .i64 0, .int .i64 0], []⟩ 8 (by kernel_rfl) (by kernel_rfl) (by kernel_rfl) (by kernel_rfl)) ?_
  intro W base args ds gs before hval0 hW hcnd _
  have hval : ∀ (j : Nat) t v, Try.f14.params[j]? = some t → args[j]? = some v → Value.okWide Try.prog W .any base t v := hval0
  have hW' := hW
  obtain ⟨p, q, hA0, hV, rfl, hfz, hnd⟩ := hW
  have hA : DataW.TrodAll enc Try.prog W 0 (fun _ => true) true Try.f14.params.toList args.toList ds p := hA0
  rw [Try.params14] at hA hval
  obtain ⟨v0, vs0, d0, ds0, p0, q0, hargs, rfl, rfl, h0, r0⟩ := trodAll_cons hA
  obtain ⟨v1, vs1, d1, ds1, p1, q1, rfl, rfl, rfl, h1, r1⟩ := trodAll_cons r0
  obtain ⟨v2, vs2, d2, ds2, p2, q2, rfl, rfl, rfl, h2, r2⟩ := trodAll_cons r1
  obtain ⟨v3, vs3, d3, ds3, p3, q3, rfl, rfl, rfl, h3, r3⟩ := trodAll_cons r2
  obtain ⟨v4, vs4, d4, ds4, p4, q4, rfl, rfl, rfl, h4, r4⟩ := trodAll_cons r3
  obtain ⟨rfl, rfl, rfl⟩ := trodAll_nil r4
  obtain rfl : args = #[v0, v1, v2, v3, v4] := by cases args; simp_all
  obtain ⟨rfl, rfl⟩ := trodVars_none hV
  have k0 := h0
  have lt0 : ∀ x ∈ p0, x.block < W.heap.size := by obtain ⟨m, hm⟩ := k0; exact DataW.trod_lt m _ _ _ hm
  obtain ⟨c0_0, c0_1, c0_2, y0_0, y0_1, y0_2, m0, rfl, rfl, rfl, hy0_0, hy0_1, hy0_2⟩ := open_agg3 Try.underlying23 (by kernel_rfl) (by kernel_rfl) (hval 0 23 v0 rfl rfl) h0
  obtain ⟨P0, e0_0, _, wP0⟩ := DataW.trod_int Try.underlying3 hy0_0
  obtain rfl := (List.cons.inj e0_0).1
  obtain ⟨Q0, e0_1, _, wQ0⟩ := DataW.trod_int Try.underlying3 hy0_1
  obtain rfl := (List.cons.inj e0_1).1
  obtain ⟨G0, e0_2, _, wG0⟩ := DataW.trod_int Try.underlying3 hy0_2
  obtain rfl := (List.cons.inj e0_2).1
  obtain ⟨a1, rfl, rfl, rfl, w1⟩ := open_int Try.underlying3 (hval 1 3 v1 rfl rfl) h1
  obtain ⟨a2, rfl, rfl, rfl, w2⟩ := open_int Try.underlying3 (hval 2 3 v2 rfl rfl) h2
  obtain ⟨a3, rfl, rfl, rfl, w3⟩ := open_int Try.underlying3 (hval 3 3 v3 rfl rfl) h3
  obtain ⟨a4, rfl, rfl, rfl, w4⟩ := open_int Try.underlying3 (hval 4 3 v4 rfl rfl) h4
  clear hA0 hval0
  refine (walk P0 Q0 G0 a1 a2 a3 a4 W wP0 wQ0 wG0 w1 w2 w3 w4).mono fun e W' ⟨he, bel⟩ => ?_
  subst he
  exact ⟨_, rfl, _, _, _, [], _, [], hW', trodAll_mk1 (shut_bool Try.underlying4 _), (trodAll_cons_mk (Below.trod laidOut (by kernel_rfl) (of_decide_eq_true (by kernel_rfl)) k0 bel lt0) (trodAll_cons_mk (shut_int Try.underlying3 w1) (trodAll_cons_mk (shut_int Try.underlying3 w2) (trodAll_cons_mk (shut_int Try.underlying3 w3) (trodAll_cons_mk (shut_int Try.underlying3 w4) trodAll_mk0))))), rfl, bel.frame _, fun h => by cases h⟩

theorem over : Rows.fnExactSimulateKnowledgeRow.holds Try.pinned (OpenSpec.ofChange Rows.fnExactSimulateKnowledgeSpec) :=
  OpenClaim.holds_of_wide 14 Try.f14 rfl rfl rfl rfl rfl rfl rfl ⟨rfl, rfl, rfl, rfl, rfl⟩ rfl rfl rfl rfl rfl (by kernel_rfl) Try.func14
    (show joinedFacts Try.prog 14 Try.f14 Rows.fnExactSimulateKnowledgeSpec Rows.fnExactSimulateKnowledgeRow = true by unfold joinedFacts; rw [Head.make, Head.lifts, Head.enters]; kernel_rfl)
    (of_decide_eq_true (by kernel_rfl)) (by unfold Func.isWrapper; first | (rw [if_pos (by decide +kernel)]; kernel_rfl) | (rw [if_neg (by decide +kernel)]; exact ⟨rfl, rfl⟩))
    (fun os started H enc _ => lifted os started H enc)

/-- The statement. -/
theorem proved : Rows.FnExactSimulateKnowledgeSaid := over
#print axioms proved
end Go.Proofs.Ytdaekpfngphefaa.fnExactSimulateKnowledge
