/-
For every group and every further argument the law FnExactIsKeyGenInput returns true: the program's IsKeyGenInput answers as the reference's does, leaves its arguments as they were.
No condition.
-/
import Derived.Test.YtchlnkdlnfjijaaRows
import Derived.WalkKit
import Derived.ProofKit
import Derived.OpenShut
import Derived.ShutString
import Derived.ChangeOld
import Derived.Below
import Derived.Lib.SmallJoins
import Derived.Test.YtchlnkdlnfjijaaDkA
import Derived.Test.YtchlnkdlnfjijaaFacts
namespace Go.Proofs.Ytchlnkdlnfjijaa.fnExactIsKeyGenInput
open Go.Joins Go.ChangeShapes Go.WideShapes Go.ChangeAt Go.RowKit Go.Deep
open Go.ChangeMaps (open_string shut_string)
set_option linter.unusedVariables false

theorem own : ownKnob Try.prog.godebug = none := by kernel_rfl
theorem laidOut : laidOutB Try.prog = true := by kernel_rfl

/-- What the walk is told of a slice of integers that came in: it is nil; or it leads to a row of 'cap' cells that hold the numbers 'zs'. -/
def IsRow (k : IntKind) (w : World) (a : Option Addr) (len cap : Nat) (zs : List Int) : Prop :=
  (a = none ∧ len = 0 ∧ cap = 0 ∧ zs = []) ∨
  ∃ x, a = some x ∧ len ≤ cap ∧ cap ≤ maxLen ∧ zs.length = cap ∧ (∀ i, i < zs.length → w.cell? (x.add i) = some (.int k (zs.getD i 0))) ∧ ∀ n ∈ zs, (Lit.int k n).wf = true

set_option linter.unusedSimpArgs false

/-! ### STEP 1: the walk: the Go text returns true and writes nothing that was there -/
set_option maxRecDepth 100000 in
set_option maxHeartbeats 25600000 in
theorem walk (P0 Q0 G0 : Int) (a1 : Value) (w : World) (wP0 : (Lit.int .i64 P0).wf = true) (wQ0 : (Lit.int .i64 Q0).wf = true) (wG0 : (Lit.int .i64 G0).wf = true) (w1 : ∃ ds, InDs w.heap.size w a1 ds ∧ ds.length ≤ maxLen ∧ ∀ d ∈ ds, d.c.length ≤ maxLen ∧ d.s.length ≤ maxLen) :
    Calls Try.prog 5 #[.agg #[.int .i64 P0, .int .i64 Q0, .int .i64 G0], a1] w fun e w' => e = .returned (.bool true) ∧ Below w.heap.size w w' := by
  obtain ⟨a, ha, ma, qa⟩ := w1
  have hal : Below w.heap.size w (w.alloc (.cells #[.int .i64 P0, .int .i64 Q0, .int .i64 G0] 47)) := ba _ _
  have R_0 := Lib.hid (gr_atS w w.heap.size rfl P0 Q0 G0 47)
  have A_0 := Lib.hid (ha.below hal)
  have HB_0 := Lib.hid hal
  clear hal ha
  have hlf0 : (0 : Int) ≤ 1048576 ∧ (1048576 : Int) ≤ 1048576 := by omega
  by_cases bs0 : 1048576 < ((a.length + nDs a : Nat) : Int)
  · have ES0 := Lib.hid (show szV (a.length + nDs a : Nat) 1048576 = -1 by unfold szV; rw [if_neg (by omega)])
    go_enter Try.func5, Try.ntmps5
    go_wp2_with fail
    refine (szDs_any A_0.out hlf0.1 hlf0.2 ma qa).mono ?_
    rw [ES0.out]
    rintro e s1 ⟨rfl, hb⟩
    have HB_1 := Lib.hid (bt HB_0.out hb)
    have R_1 := Lib.hid (R_0.out.below hb)
    have A_1 := Lib.hid (A_0.out.below hb)
    clear hb
    go_wp2
    go_ret
    exact ⟨rfl, HB_1.out⟩
  obtain ⟨lf1, hlq1⟩ : ∃ x : Int, 1048576 - ((a.length + nDs a : Nat) : Int) = x := ⟨_, rfl⟩
  have ES0 := Lib.hid (show szV (a.length + nDs a : Nat) 1048576 = lf1 by unfold szV; rw [if_pos (by omega)]; omega)
  have hlf1 : 0 ≤ lf1 ∧ lf1 ≤ 1048576 := by omega
  have la : a.length ≤ 1048576 := by omega
  have ra : nDs a ≤ 1048576 := by omega
  clear hlq1 bs0
  obtain ⟨k1, hk1⟩ : ∃ k, kiB P0 Q0 G0 a = k := ⟨_, rfl⟩
  have K1 := Lib.hid hk1
  clear hk1
  go_enter Try.func5, Try.ntmps5
  go_wp2_with fail
  refine (szDs_any A_0.out hlf0.1 hlf0.2 ma qa).mono ?_
  rw [ES0.out]
  rintro e s1 ⟨rfl, hb⟩
  have HB_1 := Lib.hid (bt HB_0.out hb)
  have R_1 := Lib.hid (R_0.out.below hb)
  have A_1 := Lib.hid (A_0.out.below hb)
  clear hb
  obtain ⟨g0, g1, g2⟩ := R_1.out
  go_wp2_with fail
  refine (toGroup_any _ _ _ _).mono ?_
  rintro e u101 ⟨rfl, hb⟩
  have HB_2 := Lib.hid (bt HB_1.out hb)
  have R_2 := Lib.hid (R_1.out.below hb)
  have A_2 := Lib.hid (A_1.out.below hb)
  clear hb HB_1 R_1 A_1
  clear g0 g1 g2
  go_wp2_with fail
  refine (toDs_any A_2.out (by omega) (by omega)).mono ?_
  rintro e u102 ⟨yCA, rfl, ho, hb⟩
  have LRCA := Lib.hid R_2.out.lt
  have LACA := Lib.hid A_2.out.le
  have LBCA := Lib.hid HB_2.out.size
  have HB_3 := Lib.hid (bt HB_2.out hb)
  have R_3 := Lib.hid (R_2.out.below hb)
  have A_3 := Lib.hid (A_2.out.below hb)
  have CA_3 := Lib.hid (ho.toIn)
  clear hb HB_2 R_2 A_2
  clear ho
  go_wp2_with fail
  refine (sIsKeyGenInput_any P0 Q0 G0 (by omega) (by omega) CA_3.out).mono ?_
  rw [K1.out]
  rintro e u103 ⟨rfl, hb⟩
  have HB_4 := Lib.hid (bt HB_3.out hb)
  have R_4 := Lib.hid (R_3.out.below hb)
  have A_4 := Lib.hid (A_3.out.below hb)
  clear hb HB_3 R_3 A_3 CA_3
  go_wp2_with fail
  refine (toDs_any A_4.out (by omega) (by omega)).mono ?_
  rintro e u104 ⟨yXA, rfl, ho, hb⟩
  have LRXA := Lib.hid R_4.out.lt
  have LAXA := Lib.hid A_4.out.le
  have LBXA := Lib.hid HB_4.out.size
  have HB_5 := Lib.hid (bt HB_4.out hb)
  have R_5 := Lib.hid (R_4.out.below hb)
  have A_5 := Lib.hid (A_4.out.below hb)
  have XA_5 := Lib.hid (ho)
  clear hb HB_4 R_4 A_4
  clear ho
  obtain ⟨g0, g1, g2⟩ := R_5.out
  go_wp2_with fail
  refine (toGroup_any _ _ _ _).mono ?_
  rintro e u105 ⟨rfl, hb⟩
  have HB_6 := Lib.hid (bt HB_5.out hb)
  have R_6 := Lib.hid (R_5.out.below hb)
  have A_6 := Lib.hid (A_5.out.below hb)
  have XA_6 := Lib.hid (XA_5.out.below hb)
  clear hb HB_5 R_5 A_5 XA_5
  clear g0 g1 g2
  go_wp2_with fail
  refine (isKeyGenInput_any P0 Q0 G0 (by omega) (by omega) XA_6.out.toIn).mono ?_
  rw [K1.out]
  rintro e u106 ⟨rfl, hb⟩
  have HB_7 := Lib.hid (bt HB_6.out hb)
  have R_7 := Lib.hid (R_6.out.below hb)
  have A_7 := Lib.hid (A_6.out.below hb)
  have XA_7 := Lib.hid (XA_6.out.below hb)
  clear hb HB_6 R_6 A_6 XA_6
  go_wp2_with fail
  refine (toDs_any A_7.out (by omega) (by omega)).mono ?_
  rintro e u107 ⟨yCQA, rfl, ho, hb⟩
  have LRCQA := Lib.hid R_7.out.lt
  have LACQA := Lib.hid A_7.out.le
  have LXACQA := Lib.hid XA_7.out.le
  have LBCQA := Lib.hid HB_7.out.size
  have HB_8 := Lib.hid (bt HB_7.out hb)
  have R_8 := Lib.hid (R_7.out.below hb)
  have A_8 := Lib.hid (A_7.out.below hb)
  have XA_8 := Lib.hid (XA_7.out.below hb)
  have CQA_8 := Lib.hid (ho.toIn)
  clear hb HB_7 R_7 A_7 XA_7
  clear ho
  go_wp2_with fail
  refine (eqDs_any XA_8.out.toIn CQA_8.out (by omega) (by omega)).mono ?_
  rintro e u108 ⟨rfl, hb⟩
  have HB_9 := Lib.hid (bt HB_8.out hb)
  have R_9 := Lib.hid (R_8.out.below hb)
  have A_9 := Lib.hid (A_8.out.below hb)
  have XA_9 := Lib.hid (XA_8.out.below hb)
  clear hb HB_8 R_8 A_8 XA_8 CQA_8
  go_wp2
  go_ret
  exact ⟨rfl, HB_9.out⟩

/-! ### The row's step -/
set_option maxRecDepth 100000 in
theorem lifted (os : Os) (started : os.Started) (H : Type) (enc : TypeId × Value → H) :
    ReturnsInHanded {} Try.checked os 5 .any (Rows.fnExactIsKeyGenInputSpec.pre6 enc Try.prog Try.f5 Rows.fnExactIsKeyGenInputRow.domain false) (Rows.fnExactIsKeyGenInputSpec.post enc Try.prog Try.f5 false true false false) := by
  refine returnsInHanded_of_change (C := Try.checked) own started (by kernel_rfl) Try.func5
    (ChangeSpec.witness6 (enc := enc) (C := Try.checked) false ⟨#[], #[.agg #[.int .i64 0, .int .i64 0, .int .i64 0], .slice none 0 0], []⟩ 8 (by kernel_rfl) (by kernel_rfl) (by kernel_rfl) (by kernel_rfl)) ?_
  intro W base args ds gs before hval0 hW hcnd _
  have hval : ∀ (j : Nat) t v, Try.f5.params[j]? = some t → args[j]? = some v → Value.okWide Try.prog W .any base t v := hval0
  have hW' := hW
  obtain ⟨p, q, hA0, hV, rfl, hfz, hnd⟩ := hW
  have hA : DataW.TrodAll enc Try.prog W 0 (fun _ => true) true Try.f5.params.toList args.toList ds p := hA0
  rw [Try.params5] at hA hval
  obtain ⟨v0, vs0, d0, ds0, p0, q0, hargs, rfl, rfl, h0, r0⟩ := trodAll_cons hA
  obtain ⟨v1, vs1, d1, ds1, p1, q1, rfl, rfl, rfl, h1, r1⟩ := trodAll_cons r0
  obtain ⟨rfl, rfl, rfl⟩ := trodAll_nil r1
  obtain rfl : args = #[v0, v1] := by cases args; simp_all
  obtain ⟨rfl, rfl⟩ := trodVars_none hV
  have k0 := h0
  have lt0 : ∀ x ∈ p0, x.block < W.heap.size := by obtain ⟨m, hm⟩ := k0; exact DataW.trod_lt m _ _ _ hm
  obtain ⟨c0_0, c0_1, c0_2, y0_0, y0_1, y0_2, m0, rfl, rfl, rfl, hy0_0, hy0_1, hy0_2⟩ := open_agg3 Try.underlying47 (by kernel_rfl) (by kernel_rfl) (hval 0 47 v0 rfl rfl) h0
  obtain ⟨P0, e0_0, _, wP0⟩ := DataW.trod_int Try.underlying3 hy0_0
  obtain rfl := (List.cons.inj e0_0).1
  obtain ⟨Q0, e0_1, _, wQ0⟩ := DataW.trod_int Try.underlying3 hy0_1
  obtain rfl := (List.cons.inj e0_1).1
  obtain ⟨G0, e0_2, _, wG0⟩ := DataW.trod_int Try.underlying3 hy0_2
  obtain rfl := (List.cons.inj e0_2).1
  have k1 := h1
  have lt1 : ∀ x ∈ p1, x.block < W.heap.size := by obtain ⟨m, hm⟩ := k1; exact DataW.trod_lt m _ _ _ hm
  obtain ⟨a1, len1, cap1, rfl⟩ := okWide_slice Try.underlying48 (hval 1 48 v1 rfl rfl)
  have w1 := (fun ⟨fuel, hf⟩ => inDs_open (fuel := fuel) hf) h1
  clear hA0 hval0
  refine (walk P0 Q0 G0 _ W wP0 wQ0 wG0 w1).mono fun e W' ⟨he, bel⟩ => ?_
  subst he
  exact ⟨_, rfl, _, _, _, [], _, [], hW', trodAll_mk1 (shut_bool Try.underlying4 _), (trodAll_cons_mk (Below.trod laidOut (by kernel_rfl) (of_decide_eq_true (by kernel_rfl)) k0 bel lt0) (trodAll_cons_mk (Below.trod laidOut (by kernel_rfl) (of_decide_eq_true (by kernel_rfl)) k1 bel lt1) trodAll_mk0)), rfl, bel.frame _, fun h => by cases h⟩

theorem over : Rows.fnExactIsKeyGenInputRow.holds Try.pinned (OpenSpec.ofChange Rows.fnExactIsKeyGenInputSpec) :=
  OpenClaim.holds_of_wide 5 Try.f5 rfl rfl rfl rfl rfl rfl rfl ⟨rfl, rfl, rfl, rfl, rfl⟩ rfl rfl rfl rfl rfl (by kernel_rfl) Try.func5
    (show joinedFacts Try.prog 5 Try.f5 Rows.fnExactIsKeyGenInputSpec Rows.fnExactIsKeyGenInputRow = true by unfold joinedFacts; rw [Head.make, Head.lifts, Head.enters]; kernel_rfl)
    (of_decide_eq_true (by kernel_rfl)) (by unfold Func.isWrapper; first | (rw [if_pos (by decide +kernel)]; kernel_rfl) | (rw [if_neg (by decide +kernel)]; exact ⟨rfl, rfl⟩))
    (fun os started H enc _ => lifted os started H enc)

/-- The statement. -/
theorem proved : Rows.FnExactIsKeyGenInputSaid := over
#print axioms proved
end Go.Proofs.Ytchlnkdlnfjijaa.fnExactIsKeyGenInput
