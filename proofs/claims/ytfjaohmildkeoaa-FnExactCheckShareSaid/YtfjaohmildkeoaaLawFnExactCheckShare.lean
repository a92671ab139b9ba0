/-
For every group and every further argument the law FnExactCheckShare returns true: the program's CheckShare answers as the reference's does, and leaves its arguments as they were.
No condition.
-/
import Derived.Test.YtfjaohmildkeoaaRows
import Derived.WalkKit
import Derived.ProofKit
import Derived.OpenShut
import Derived.ShutString
import Derived.ChangeOld
import Derived.Below
import Derived.Lib.SmallJoins
import Derived.Test.YtfjaohmildkeoaaShB
import Derived.Test.YtfjaohmildkeoaaFacts
namespace Go.Proofs.Ytfjaohmildkeoaa.fnExactCheckShare
open Go.Joins Go.ChangeShapes Go.WideShapes Go.ChangeAt Go.RowKit Go.Deep
open Go.ChangeMaps (open_string shut_string)
set_option linter.unusedVariables false

theorem own : ownKnob Try.prog.godebug = none := by kernel_rfl
theorem laidOut : laidOutB Try.prog = true := by kernel_rfl

/-- What the walk is told of a slice of integers that came in: it is nil; or it leads to a row of 'cap' cells that hold the numbers 'zs'. -/
def IsRow (k : IntKind) (w : World) (a : Option Addr) (len cap : Nat) (zs : List Int) : Prop :=
  (a = none ∧ len = 0 ∧ cap = 0 ∧ zs = []) ∨
  ∃ x, a = some x ∧ len ≤ cap ∧ cap ≤ maxLen ∧ zs.length = cap ∧ (∀ i, i < zs.length → w.cell? (x.add i) = some (.int k (zs.getD i 0))) ∧ ∀ n ∈ zs, (Lit.int k n).wf = true



/-! ### STEP 1: the walk: the Go text returns true and writes nothing that was there -/
set_option maxRecDepth 100000 in
set_option maxHeartbeats 3200000 in
theorem walk (P0 Q0 G0 : Int) (a1 : Option Addr) (len1 cap1 : Nat) (z1 : List Int) (a2 : Int) (a3 : Int) (w : World) (wP0 : (Lit.int .i64 P0).wf = true) (wQ0 : (Lit.int .i64 Q0).wf = true) (wG0 : (Lit.int .i64 G0).wf = true) (w1 : IsRow .i64 w a1 len1 cap1 z1) (w2 : (Lit.int .i64 a2).wf = true) (w3 : (Lit.int .i64 a3).wf = true) :
    Calls Try.prog 8 #[.agg #[.int .i64 P0, .int .i64 Q0, .int .i64 G0], .slice a1 len1 cap1, .int .i64 a2, .int .i64 a3] w fun e w' => e = .returned (.bool true) ∧ Below w.heap.size w w' := by
  obtain ⟨hcs, ncs, mcs⟩ := inI_of_row w1
  generalize z1.take len1 = cs at hcs ncs
  clear w1
  have hal : Below w.heap.size w (w.alloc (.cells #[.int .i64 P0, .int .i64 Q0, .int .i64 G0] 44)) := ba _ _
  have R_0 := Lib.hid (gr_atS w w.heap.size rfl P0 Q0 G0 44)
  have CS_0 := Lib.hid (hcs.below hal)
  have HB_0 := Lib.hid hal
  clear hal hcs
  by_cases b1 : 1048576 < len1
  · have c1 : (1048576 : Int) < (len1 : Int) := by omega
    unfold maxLen at mcs
    go_enter Try.func8, Try.ntmps8
    go_wp2
    go_ret
    exact ⟨rfl, HB_0.out⟩
  have c1 : (len1 : Int) ≤ 1048576 := by omega
  have lcs : cs.length ≤ 1048576 := by omega
  obtain ⟨k1, hk1⟩ : ∃ k, ckV P0 Q0 G0 cs a2 a3 = k := ⟨_, rfl⟩
  have K1 := Lib.hid hk1
  clear hk1
  obtain ⟨k2, hk2⟩ : ∃ k, ckB P0 Q0 G0 cs a2 a3 = k := ⟨_, rfl⟩
  have K2 := Lib.hid hk2
  clear hk2
  go_enter Try.func8, Try.ntmps8
  obtain ⟨g0, g1, g2⟩ := R_0.out
  go_wp2_with fail
  refine (toGroup_any _ _ _ _).mono ?_
  rintro e u1 ⟨rfl, hb⟩
  have HB_1 := Lib.hid (bt HB_0.out hb)
  have R_1 := Lib.hid (R_0.out.below hb)
  have CS_1 := Lib.hid (CS_0.out.below hb)
  clear hb HB_0 R_0 CS_0
  clear g0 g1 g2
  go_wp2_with fail
  refine (toI_any CS_1.out (by omega)).mono ?_
  rintro e u2 ⟨scs, rfl, ho, hb⟩
  have HB_2 := Lib.hid (bt HB_1.out hb)
  have R_2 := Lib.hid (R_1.out.below hb)
  have CS_2 := Lib.hid (CS_1.out.below hb)
  have CCS_2 := Lib.hid (ho.toIn)
  clear hb HB_1 R_1 CS_1
  clear ho
  go_wp2_with fail
  refine (sCheckShare_ans P0 Q0 G0 a2 a3 lcs CCS_2.out).mono ?_
  rw [K1.out, K2.out]
  rintro e u3 ⟨rfl, hb⟩
  have HB_3 := Lib.hid (bt HB_2.out hb)
  have R_3 := Lib.hid (R_2.out.below hb)
  have CS_3 := Lib.hid (CS_2.out.below hb)
  clear hb HB_2 R_2 CS_2 CCS_2
  go_wp2_with fail
  refine (toI_any CS_3.out (by omega)).mono ?_
  rintro e u4 ⟨qcs, rfl, ho, hb⟩
  have HB_4 := Lib.hid (bt HB_3.out hb)
  have R_4 := Lib.hid (R_3.out.below hb)
  have CS_4 := Lib.hid (CS_3.out.below hb)
  have QCS_4 := Lib.hid (ho.toIn)
  clear hb HB_3 R_3 CS_3
  clear ho
  obtain ⟨g0, g1, g2⟩ := R_4.out
  go_wp2_with fail
  refine (toGroup_any _ _ _ _).mono ?_
  rintro e u5 ⟨rfl, hb⟩
  have HB_5 := Lib.hid (bt HB_4.out hb)
  have R_5 := Lib.hid (R_4.out.below hb)
  have CS_5 := Lib.hid (CS_4.out.below hb)
  have QCS_5 := Lib.hid (QCS_4.out.below hb)
  clear hb HB_4 R_4 CS_4 QCS_4
  clear g0 g1 g2
  go_wp2_with fail
  refine (checkShare_ans P0 Q0 G0 a2 a3 lcs QCS_5.out).mono ?_
  rw [K1.out, K2.out]
  rintro e u6 ⟨rfl, hb⟩
  have HB_6 := Lib.hid (bt HB_5.out hb)
  have R_6 := Lib.hid (R_5.out.below hb)
  have CS_6 := Lib.hid (CS_5.out.below hb)
  have QCS_6 := Lib.hid (QCS_5.out.below hb)
  clear hb HB_5 R_5 CS_5 QCS_5
  go_wp2_with fail
  refine (toI_any CS_6.out (by omega)).mono ?_
  rintro e u7 ⟨rcs, rfl, ho, hb⟩
  have HB_7 := Lib.hid (bt HB_6.out hb)
  have R_7 := Lib.hid (R_6.out.below hb)
  have CS_7 := Lib.hid (CS_6.out.below hb)
  have QCS_7 := Lib.hid (QCS_6.out.below hb)
  have CI_7 := Lib.hid (ho.toIn)
  clear hb HB_6 R_6 CS_6 QCS_6
  clear ho
  go_wp2_with fail
  refine (eqI_any QCS_7.out CI_7.out (by omega)).mono ?_
  rintro e u8 ⟨rfl, hb⟩
  have HB_8 := Lib.hid (bt HB_7.out hb)
  have R_8 := Lib.hid (R_7.out.below hb)
  have CS_8 := Lib.hid (CS_7.out.below hb)
  have QCS_8 := Lib.hid (QCS_7.out.below hb)
  clear hb HB_7 R_7 CS_7 QCS_7 CI_7
  go_wp2
  go_ret
  exact ⟨rfl, HB_8.out⟩

/-! ### The row's step -/
set_option maxRecDepth 100000 in
theorem lifted (os : Os) (started : os.Started) (H : Type) (enc : TypeId × Value → H) :
    ReturnsInHanded {} Try.checked os 8 .any (Rows.fnExactCheckShareSpec.pre6 enc Try.prog Try.f8 Rows.fnExactCheckShareRow.domain false) (Rows.fnExactCheckShareSpec.post enc Try.prog Try.f8 false true false false) := by
  refine returnsInHanded_of_change (C := Try.checked) own started (by kernel_rfl) Try.func8
    (ChangeSpec.witness6 (enc := enc) (C := Try.checked) false ⟨#[], #[.agg #[.int .i64 0, .int .i64 0, .int .i64 0], .slice none 0 0, .int .i64 0, .int .i64 0], []⟩ 8 (by kernel_rfl) (by kernel_rfl) (by kernel_rfl) (by kernel_rfl)) ?_
  intro W base args ds gs before hval0 hW hcnd _
  have hval : ∀ (j : Nat) t v, Try.f8.params[j]? = some t → args[j]? = some v → Value.okWide Try.prog W .any base t v := hval0
  have hW' := hW
  obtain ⟨p, q, hA0, hV, rfl, hfz, hnd⟩ := hW
  have hA : DataW.TrodAll enc Try.prog W 0 (fun _ => true) true Try.f8.params.toList args.toList ds p := hA0
  rw [Try.params8] at hA hval
  obtain ⟨v0, vs0, d0, ds0, p0, q0, hargs, rfl, rfl, h0, r0⟩ := trodAll_cons hA
  obtain ⟨v1, vs1, d1, ds1, p1, q1, rfl, rfl, rfl, h1, r1⟩ := trodAll_cons r0
  obtain ⟨v2, vs2, d2, ds2, p2, q2, rfl, rfl, rfl, h2, r2⟩ := trodAll_cons r1
  obtain ⟨v3, vs3, d3, ds3, p3, q3, rfl, rfl, rfl, h3, r3⟩ := trodAll_cons r2
  obtain ⟨rfl, rfl, rfl⟩ := trodAll_nil r3
  obtain rfl : args = #[v0, v1, v2, v3] := by cases args; simp_all
  obtain ⟨rfl, rfl⟩ := trodVars_none hV
  have k0 := h0
  have lt0 : ∀ x ∈ p0, x.block < W.heap.size := by obtain ⟨m, hm⟩ := k0; exact DataW.trod_lt m _ _ _ hm
  obtain ⟨c0_0, c0_1, c0_2, y0_0, y0_1, y0_2, m0, rfl, rfl, rfl, hy0_0, hy0_1, hy0_2⟩ := open_agg3 Try.underlying44 (by kernel_rfl) (by kernel_rfl) (hval 0 44 v0 rfl rfl) h0
  obtain ⟨P0, e0_0, _, wP0⟩ := DataW.trod_int Try.underlying3 hy0_0
  obtain rfl := (List.cons.inj e0_0).1
  obtain ⟨Q0, e0_1, _, wQ0⟩ := DataW.trod_int Try.underlying3 hy0_1
  obtain rfl := (List.cons.inj e0_1).1
  obtain ⟨G0, e0_2, _, wG0⟩ := DataW.trod_int Try.underlying3 hy0_2
  obtain rfl := (List.cons.inj e0_2).1
  have k1 := h1
  have lt1 : ∀ x ∈ p1, x.block < W.heap.size := by obtain ⟨m, hm⟩ := k1; exact DataW.trod_lt m _ _ _ hm
  obtain ⟨a1, len1, cap1, rfl⟩ := okWide_slice Try.underlying25 (hval 1 25 v1 rfl rfl)
  obtain ⟨z1, w1⟩ : ∃ zs, IsRow .i64 W a1 len1 cap1 zs := by
    obtain ⟨fuel, hf⟩ := h1
    rcases open_ints Try.underlying25 Try.underlying3 (by kernel_rfl) hf with ⟨hcs, _⟩ | ⟨x, l, c, zs, hcs, _, hl, hm, hz, _, hcell, hwz⟩
    · simp [Value.cells] at hcs
      obtain ⟨rfl, rfl, rfl⟩ := hcs
      exact ⟨[], .inl ⟨rfl, rfl, rfl, rfl⟩⟩
    · simp [Value.cells] at hcs
      obtain ⟨rfl, rfl, rfl⟩ := hcs
      exact ⟨zs, .inr ⟨_, rfl, hl, hm, by simpa using hz, hcell, hwz⟩⟩
  obtain ⟨a2, rfl, rfl, rfl, w2⟩ := open_int Try.underlying3 (hval 2 3 v2 rfl rfl) h2
  obtain ⟨a3, rfl, rfl, rfl, w3⟩ := open_int Try.underlying3 (hval 3 3 v3 rfl rfl) h3
  clear hA0 hval0
  refine (walk P0 Q0 G0 a1 len1 cap1 z1 a2 a3 W wP0 wQ0 wG0 w1 w2 w3).mono fun e W' ⟨he, bel⟩ => ?_
  subst he
  exact ⟨_, rfl, _, _, _, [], _, [], hW', trodAll_mk1 (shut_bool Try.underlying4 _), (trodAll_cons_mk (Below.trod laidOut (by kernel_rfl) (of_decide_eq_true (by kernel_rfl)) k0 bel lt0) (trodAll_cons_mk (Below.trod laidOut (by kernel_rfl) (of_decide_eq_true (by kernel_rfl)) k1 bel lt1) (trodAll_cons_mk (shut_int Try.underlying3 w2) (trodAll_cons_mk (shut_int Try.underlying3 w3) trodAll_mk0)))), rfl, bel.frame _, fun h => by cases h⟩

theorem over : Rows.fnExactCheckShareRow.holds Try.pinned (OpenSpec.ofChange Rows.fnExactCheckShareSpec) :=
  OpenClaim.holds_of_wide 8 Try.f8 rfl rfl rfl rfl rfl rfl rfl ⟨rfl, rfl, rfl, rfl, rfl⟩ rfl rfl rfl rfl rfl (by kernel_rfl) Try.func8
    (show joinedFacts Try.prog 8 Try.f8 Rows.fnExactCheckShareSpec Rows.fnExactCheckShareRow = true by unfold joinedFacts; rw [Head.make, Head.lifts, Head.enters]; kernel_rfl)
    (of_decide_eq_true (by kernel_rfl)) (by unfold Func.isWrapper; first | (rw [if_pos (by decide +kernel)]; kernel_rfl) | (rw [if_neg (by decide +kernel)]; exact ⟨rfl, rfl⟩))
    (fun os started H enc _ => lifted os started H enc)

/-- The statement. -/
theorem proved : Rows.FnExactCheckShareSaid := over
#print axioms proved
end Go.Proofs.Ytfjaohmildkeoaa.fnExactCheckShare
