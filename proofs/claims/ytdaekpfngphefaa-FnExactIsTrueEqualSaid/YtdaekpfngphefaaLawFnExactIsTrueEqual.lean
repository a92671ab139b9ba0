/-
For every group, statement and secret the law FnExactIsTrueEqual returns true: the program's IsTrueEqual answers as the reference's does.
No condition.
-/
import Derived.Test.YtdaekpfngphefaaRows
import Derived.WalkKit
import Derived.ProofKit
import Derived.OpenShut
import Derived.ShutString
import Derived.ChangeOld
import Derived.Below
import Derived.Lib.SmallJoins
import Derived.Test.YtdaekpfngphefaaSigV
import Derived.Test.YtdaekpfngphefaaSigL
import Derived.Test.YtdaekpfngphefaaFacts
namespace Go.Proofs.Ytdaekpfngphefaa.fnExactIsTrueEqual
open Go.Joins Go.ChangeShapes Go.WideShapes Go.ChangeAt Go.RowKit Go.Deep
open Go.ChangeMaps (open_string shut_string)
set_option linter.unusedVariables false

theorem own : ownKnob Try.prog.godebug = none := by kernel_rfl
theorem laidOut : laidOutB Try.prog = true := by kernel_rfl

/-- What the walk is told of a slice of integers that came in: it is nil; or it leads to a row of 'cap' cells that hold the numbers 'zs'. -/
def IsRow (k : IntKind) (w : World) (a : Option Addr) (len cap : Nat) (zs : List Int) : Prop :=
  (a = none ∧ len = 0 ∧ cap = 0 ∧ zs = []) ∨
  ∃ x, a = some x ∧ len ≤ cap ∧ cap ≤ maxLen ∧ zs.length = cap ∧ (∀ i, i < zs.length → w.cell? (x.add i) = some (.int k (zs.getD i 0))) ∧ ∀ n ∈ zs, (Lit.int k n).wf = true



/-! ### STEP 1: the walk: the Go text returns true and writes nothing that was there -/
set_option maxRecDepth 100000 in
set_option maxHeartbeats 3200000 in
theorem walk (P0 Q0 G0 : Int) (G11 Y11 G21 Y21 : Int) (a2 : Int) (w : World) (wP0 : (Lit.int .i64 P0).wf = true) (wQ0 : (Lit.int .i64 Q0).wf = true) (wG0 : (Lit.int .i64 G0).wf = true) (wG11 : (Lit.int .i64 G11).wf = true) (wY11 : (Lit.int .i64 Y11).wf = true) (wG21 : (Lit.int .i64 G21).wf = true) (wY21 : (Lit.int .i64 Y21).wf = true) (w2 : (Lit.int .i64 a2).wf = true) :
    Calls Try.prog 11 #[.agg #[.int .i64 P0, .int .i64 Q0, .int .i64 G0], .agg #[.int .i64 G11, .int .i64 Y11, .int .i64 G21, .int .i64 Y21], .int .i64 a2] w fun e w' => e = .returned (.bool true) ∧ Below w.heap.size w w' := by
  obtain ⟨k1, hk1⟩ : ∃ k, teV P0 Q0 G0 G11 Y11 G21 Y21 a2 = k := ⟨_, rfl⟩
  obtain ⟨k2, hk2⟩ : ∃ k, teB P0 Q0 G0 G11 Y11 G21 Y21 a2 = k := ⟨_, rfl⟩
  have K1 := Lib.hid hk1
  have K2 := Lib.hid hk2
  clear hk1 hk2
  have hal := ba (w.alloc (.cells #[.int .i64 P0, .int .i64 Q0, .int .i64 G0] 23)) (.cells #[.int .i64 G11, .int .i64 Y11, .int .i64 G21, .int .i64 Y21] 45)
  have HB_0 := Lib.hid (bt (ba w (.cells #[.int .i64 P0, .int .i64 Q0, .int .i64 G0] 23)) hal)
  have G_0 := Lib.hid (GR.below (gr_new w P0 Q0 G0 23) hal)
  have hv := v4_new (w.alloc (.cells #[.int .i64 P0, .int .i64 Q0, .int .i64 G0] 23)) G11 Y11 G21 Y21 45
  rw [show (w.alloc (.cells #[.int .i64 P0, .int .i64 Q0, .int .i64 G0] 23)).heap.size = w.heap.size + 1 by simp] at hv
  have V_0 := Lib.hid hv
  clear hal hv
  go_enter Try.func11, Try.ntmps11
  go_wp2_with fail
  obtain ⟨g0, g1, g2⟩ := G_0.out
  obtain ⟨e0, e1, e2, e3⟩ := V_0.out
  go_region_held3 (fun w' => (w'.cell? ⟨w.heap.size, 0, none⟩ = some (.int .i64 P0) ∧ w'.cell? ⟨w.heap.size, 1, none⟩ = some (.int .i64 Q0) ∧ w'.cell? ⟨w.heap.size, 2, none⟩ = some (.int .i64 G0)) ∧ w'.cell? ⟨w.heap.size + 1, 0, none⟩ = some (.int .i64 G11) ∧ w'.cell? ⟨w.heap.size + 1, 1, none⟩ = some (.int .i64 Y11) ∧ w'.cell? ⟨w.heap.size + 1, 2, none⟩ = some (.int .i64 G21) ∧ w'.cell? ⟨w.heap.size + 1, 3, none⟩ = some (.int .i64 Y21)) (first | with_reducible exact ⟨⟨x0, x1, x2⟩, y0, y1, y2, y3⟩ | exact ⟨⟨x0, x1, x2⟩, y0, y1, y2, y3⟩ | exact ⟨⟨g0, g1, g2⟩, e0, e1, e2, e3⟩) ((first
    | (go_at_call 18; refine (toGroup_any _ _ _ _).mono ?_; rintro e vp ⟨rfl, hp⟩; have HBp := Lib.hid (show Below w.heap.size w vp from by first | exact bt HBp.out hp | exact bt HBp.out.drew hp | exact bt HB_0.out.drew hp); have HGp := Lib.hid (show GR vp w.heap.size P0 Q0 G0 from by first | exact HGp.out.below hp | exact GR.below (GR.drew HGp.out) hp | exact GR.below (GR.drew G_0.out) hp); have HVp := Lib.hid (show V4 vp (w.heap.size + 1) G11 Y11 G21 Y21 from by first | exact HVp.out.below hp | exact V4.below (V4.drew HVp.out) hp | exact V4.below (V4.drew V_0.out) hp); clear hp; obtain ⟨x0, x1, x2⟩ := HGp.out; obtain ⟨y0, y1, y2, y3⟩ := HVp.out)
    | (go_at_call 29; refine (toEql_any _ _ _ _ _).mono ?_; rintro e vp ⟨rfl, hp⟩; have HBp := Lib.hid (show Below w.heap.size w vp from by first | exact bt HBp.out hp | exact bt HBp.out.drew hp | exact bt HB_0.out.drew hp); have HGp := Lib.hid (show GR vp w.heap.size P0 Q0 G0 from by first | exact HGp.out.below hp | exact GR.below (GR.drew HGp.out) hp | exact GR.below (GR.drew G_0.out) hp); have HVp := Lib.hid (show V4 vp (w.heap.size + 1) G11 Y11 G21 Y21 from by first | exact HVp.out.below hp | exact V4.below (V4.drew HVp.out) hp | exact V4.below (V4.drew V_0.out) hp); clear hp; obtain ⟨x0, x1, x2⟩ := HGp.out; obtain ⟨y0, y1, y2, y3⟩ := HVp.out)
    | (go_at_call 49; refine (sIsTrueEqual_any P0 Q0 G0 G11 Y11 G21 Y21 a2 _).mono ?_; rw [K1.out, K2.out]; rintro e vp ⟨rfl, hp⟩; have HBp := Lib.hid (show Below w.heap.size w vp from by first | exact bt HBp.out hp | exact bt HBp.out.drew hp | exact bt HB_0.out.drew hp); have HGp := Lib.hid (show GR vp w.heap.size P0 Q0 G0 from by first | exact HGp.out.below hp | exact GR.below (GR.drew HGp.out) hp | exact GR.below (GR.drew G_0.out) hp); have HVp := Lib.hid (show V4 vp (w.heap.size + 1) G11 Y11 G21 Y21 from by first | exact HVp.out.below hp | exact V4.below (V4.drew HVp.out) hp | exact V4.below (V4.drew V_0.out) hp); clear hp; obtain ⟨x0, x1, x2⟩ := HGp.out; obtain ⟨y0, y1, y2, y3⟩ := HVp.out)
    | fail))
  all_goals (
    go_wp2_with fail
    go_region_held3 (fun w' => (w'.cell? ⟨w.heap.size, 0, none⟩ = some (.int .i64 P0) ∧ w'.cell? ⟨w.heap.size, 1, none⟩ = some (.int .i64 Q0) ∧ w'.cell? ⟨w.heap.size, 2, none⟩ = some (.int .i64 G0)) ∧ w'.cell? ⟨w.heap.size + 1, 0, none⟩ = some (.int .i64 G11) ∧ w'.cell? ⟨w.heap.size + 1, 1, none⟩ = some (.int .i64 Y11) ∧ w'.cell? ⟨w.heap.size + 1, 2, none⟩ = some (.int .i64 G21) ∧ w'.cell? ⟨w.heap.size + 1, 3, none⟩ = some (.int .i64 Y21)) (first | with_reducible exact ⟨⟨x0, x1, x2⟩, y0, y1, y2, y3⟩ | exact ⟨⟨x0, x1, x2⟩, y0, y1, y2, y3⟩) ((first
      | (go_at_call 18; refine (toGroup_any _ _ _ _).mono ?_; rintro e vp ⟨rfl, hp⟩; have HBp := Lib.hid (show Below w.heap.size w vp from by first | exact bt HBp.out hp | exact bt HBp.out.drew hp | exact bt HB_0.out.drew hp); have HGp := Lib.hid (show GR vp w.heap.size P0 Q0 G0 from by first | exact HGp.out.below hp | exact GR.below (GR.drew HGp.out) hp | exact GR.below (GR.drew G_0.out) hp); have HVp := Lib.hid (show V4 vp (w.heap.size + 1) G11 Y11 G21 Y21 from by first | exact HVp.out.below hp | exact V4.below (V4.drew HVp.out) hp | exact V4.below (V4.drew V_0.out) hp); clear hp; obtain ⟨x0, x1, x2⟩ := HGp.out; obtain ⟨y0, y1, y2, y3⟩ := HVp.out)
      | (go_at_call 29; refine (toEql_any _ _ _ _ _).mono ?_; rintro e vp ⟨rfl, hp⟩; have HBp := Lib.hid (show Below w.heap.size w vp from by first | exact bt HBp.out hp | exact bt HBp.out.drew hp | exact bt HB_0.out.drew hp); have HGp := Lib.hid (show GR vp w.heap.size P0 Q0 G0 from by first | exact HGp.out.below hp | exact GR.below (GR.drew HGp.out) hp | exact GR.below (GR.drew G_0.out) hp); have HVp := Lib.hid (show V4 vp (w.heap.size + 1) G11 Y11 G21 Y21 from by first | exact HVp.out.below hp | exact V4.below (V4.drew HVp.out) hp | exact V4.below (V4.drew V_0.out) hp); clear hp; obtain ⟨x0, x1, x2⟩ := HGp.out; obtain ⟨y0, y1, y2, y3⟩ := HVp.out)
      | (go_at_call 50; refine (isTrueEqual_any P0 Q0 G0 G11 Y11 G21 Y21 a2 _).mono ?_; rw [K1.out, K2.out]; rintro e vp ⟨rfl, hp⟩; have HBp := Lib.hid (show Below w.heap.size w vp from by first | exact bt HBp.out hp | exact bt HBp.out.drew hp | exact bt HB_0.out.drew hp); have HGp := Lib.hid (show GR vp w.heap.size P0 Q0 G0 from by first | exact HGp.out.below hp | exact GR.below (GR.drew HGp.out) hp | exact GR.below (GR.drew G_0.out) hp); have HVp := Lib.hid (show V4 vp (w.heap.size + 1) G11 Y11 G21 Y21 from by first | exact HVp.out.below hp | exact V4.below (V4.drew HVp.out) hp | exact V4.below (V4.drew V_0.out) hp); clear hp; obtain ⟨x0, x1, x2⟩ := HGp.out; obtain ⟨y0, y1, y2, y3⟩ := HVp.out)
      | fail))
    all_goals (
      go_wp2
      go_ret
      exact ⟨rfl, HBp.out⟩))

/-! ### The row's step -/
set_option maxRecDepth 100000 in
theorem lifted (os : Os) (started : os.Started) (H : Type) (enc : TypeId × Value → H) :
    ReturnsInHanded {} Try.checked os 11 .any (Rows.fnExactIsTrueEqualSpec.pre6 enc Try.prog Try.f11 Rows.fnExactIsTrueEqualRow.domain false) (Rows.fnExactIsTrueEqualSpec.post enc Try.prog Try.f11 false true false false) := by
  refine returnsInHanded_of_change (C := Try.checked) own started (by kernel_rfl) Try.func11
    (ChangeSpec.witness6 (enc := enc) (C := Try.checked) false ⟨#[], #[.agg #[.int .i64 0, .int .i64 0, .int .i64 0], .agg #[.int .i64 0, .int .i64 0, .int .i64 0, .int .i64 0], .int .i64 0], []⟩ 8 (by kernel_rfl) (by kernel_rfl) (by kernel_rfl) (by kernel_rfl)) ?_
  intro W base args ds gs before hval0 hW hcnd _
  have hval : ∀ (j : Nat) t v, Try.f11.params[j]? = some t → args[j]? = some v → Value.okWide Try.prog W .any base t v := hval0
  have hW' := hW
  obtain ⟨p, q, hA0, hV, rfl, hfz, hnd⟩ := hW
  have hA : DataW.TrodAll enc Try.prog W 0 (fun _ => true) true Try.f11.params.toList args.toList ds p := hA0
  rw [Try.params11] at hA hval
  obtain ⟨v0, vs0, d0, ds0, p0, q0, hargs, rfl, rfl, h0, r0⟩ := trodAll_cons hA
  obtain ⟨v1, vs1, d1, ds1, p1, q1, rfl, rfl, rfl, h1, r1⟩ := trodAll_cons r0
  obtain ⟨v2, vs2, d2, ds2, p2, q2, rfl, rfl, rfl, h2, r2⟩ := trodAll_cons r1
  obtain ⟨rfl, rfl, rfl⟩ := trodAll_nil r2
  obtain rfl : args = #[v0, v1, v2] := by cases args; simp_all
  obtain ⟨rfl, rfl⟩ := trodVars_none hV
  have k0 := h0
  have lt0 : ∀ x ∈ p0, x.block < W.heap.size := by obtain ⟨m, hm⟩ := k0; exact DataW.trod_lt m _ _ _ hm
  obtain ⟨c0_0, c0_1, c0_2, y0_0, y0_1, y0_2, m0, rfl, rfl, rfl, hy0_0, hy0_1, hy0_2⟩ := open_agg3 Try.underlying23 (by kernel_rfl) (by kernel_rfl) (hval 0 23 v0 rfl rfl) h0
  obtain ⟨P0, e0_0, _, wP0⟩ := DataW.trod_int Try.underlying3 hy0_0
  obtain rfl := (List.cons.inj e0_0).1
  obtain ⟨Q0, e0_1, _, wQ0⟩ := DataW.trod_int Try.underlying3 hy0_1
  obtain rfl := (List.cons.inj e0_1).1
  obtain ⟨G0, e0_2, _, wG0⟩ := DataW.trod_int Try.underlying3 hy0_2
  obtain rfl := (List.cons.inj e0_2).1
  have k1 := h1
  have lt1 : ∀ x ∈ p1, x.block < W.heap.size := by obtain ⟨m, hm⟩ := k1; exact DataW.trod_lt m _ _ _ hm
  obtain ⟨c1_0, c1_1, c1_2, c1_3, y1_0, y1_1, y1_2, y1_3, m1, rfl, rfl, rfl, hy1_0, hy1_1, hy1_2, hy1_3⟩ := open_agg4 Try.underlying45 (by kernel_rfl) (by kernel_rfl) (hval 1 45 v1 rfl rfl) h1
  obtain ⟨G11, e1_0, _, wG11⟩ := DataW.trod_int Try.underlying3 hy1_0
  obtain rfl := (List.cons.inj e1_0).1
  obtain ⟨Y11, e1_1, _, wY11⟩ := DataW.trod_int Try.underlying3 hy1_1
  obtain rfl := (List.cons.inj e1_1).1
  obtain ⟨G21, e1_2, _, wG21⟩ := DataW.trod_int Try.underlying3 hy1_2
  obtain rfl := (List.cons.inj e1_2).1
  obtain ⟨Y21, e1_3, _, wY21⟩ := DataW.trod_int Try.underlying3 hy1_3
  obtain rfl := (List.cons.inj e1_3).1
  obtain ⟨a2, rfl, rfl, rfl, w2⟩ := open_int Try.underlying3 (hval 2 3 v2 rfl rfl) h2
  clear hA0 hval0
  refine (walk P0 Q0 G0 G11 Y11 G21 Y21 a2 W wP0 wQ0 wG0 wG11 wY11 wG21 wY21 w2).mono fun e W' ⟨he, bel⟩ => ?_
  subst he
  exact ⟨_, rfl, _, _, _, [], _, [], hW', trodAll_mk1 (shut_bool Try.underlying4 _), (trodAll_cons_mk (Below.trod laidOut (by kernel_rfl) (of_decide_eq_true (by kernel_rfl)) k0 bel lt0) (trodAll_cons_mk (Below.trod laidOut (by kernel_rfl) (of_decide_eq_true (by kernel_rfl)) k1 bel lt1) (trodAll_cons_mk (shut_int Try.underlying3 w2) trodAll_mk0))), rfl, bel.frame _, fun h => by cases h⟩

theorem over : Rows.fnExactIsTrueEqualRow.holds Try.pinned (OpenSpec.ofChange Rows.fnExactIsTrueEqualSpec) :=
  OpenClaim.holds_of_wide 11 Try.f11 rfl rfl rfl rfl rfl rfl rfl ⟨rfl, rfl, rfl, rfl, rfl⟩ rfl rfl rfl rfl rfl (by kernel_rfl) Try.func11
    (show joinedFacts Try.prog 11 Try.f11 Rows.fnExactIsTrueEqualSpec Rows.fnExactIsTrueEqualRow = true by unfold joinedFacts; rw [Head.make, Head.lifts, Head.enters]; kernel_rfl)
    (of_decide_eq_true (by kernel_rfl)) (by unfold Func.isWrapper; first | (rw [if_pos (by decide +kernel)]; kernel_rfl) | (rw [if_neg (by decide +kernel)]; exact ⟨rfl, rfl⟩))
    (fun os started H enc _ => lifted os started H enc)

/-- The statement. -/
theorem proved : Rows.FnExactIsTrueEqualSaid := over
#print axioms proved
end Go.Proofs.Ytdaekpfngphefaa.fnExactIsTrueEqual
