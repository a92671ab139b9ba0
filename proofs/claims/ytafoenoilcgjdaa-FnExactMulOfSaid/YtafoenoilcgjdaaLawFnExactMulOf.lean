/-
For every group and every list the law FnExactMulOf returns true: the program's MulOf answers as the reference's does, and leaves its argument as it was.
No condition.
-/
import Derived.Test.YtafoenoilcgjdaaRows
import Derived.WalkKit
import Derived.ProofKit
import Derived.OpenShut
import Derived.ShutString
import Derived.ChangeOld
import Derived.Below
import Derived.Lib.SmallJoins
import Derived.Test.YtafoenoilcgjdaaG3
import Derived.Test.YtafoenoilcgjdaaFacts
namespace Go.Proofs.Ytafoenoilcgjdaa.fnExactMulOf
open Go.Joins Go.ChangeShapes Go.WideShapes Go.ChangeAt Go.RowKit Go.Deep
open Go.ChangeMaps (open_string shut_string)
set_option linter.unusedVariables false

theorem own : ownKnob Try.prog.godebug = none := by kernel_rfl
theorem laidOut : laidOutB Try.prog = true := by kernel_rfl

/-- What the walk is told of a slice of integers that came in: it is nil; or it leads to a row of 'cap' cells that hold the numbers 'zs'. -/
def IsRow (k : IntKind) (w : World) (a : Option Addr) (len cap : Nat) (zs : List Int) : Prop :=
  (a = none ∧ len = 0 ∧ cap = 0 ∧ zs = []) ∨
  ∃ x, a = some x ∧ len ≤ cap ∧ cap ≤ maxLen ∧ zs.length = cap ∧ (∀ i, i < zs.length → w.cell? (x.add i) = some (.int k (zs.getD i 0))) ∧ ∀ n ∈ zs, (Lit.int k n).wf = true



/-! ### STEP 1: the walk: the Go text returns true and writes nothing that was there -/
theorem walk (P0 Q0 G0 : Int) (a1 : Option Addr) (len1 cap1 : Nat) (z1 : List Int) (w : World) (wP0 : (Lit.int .i64 P0).wf = true) (wQ0 : (Lit.int .i64 Q0).wf = true) (wG0 : (Lit.int .i64 G0).wf = true) (w1 : IsRow .i64 w a1 len1 cap1 z1) :
    Calls Try.prog 3 #[.agg #[.int .i64 P0, .int .i64 Q0, .int .i64 G0], .slice a1 len1 cap1] w fun e w' => e = .returned (.bool true) ∧ Below w.heap.size w w' := by
  obtain ⟨hz, hn, hm⟩ := ints_of_row w1
  generalize z1.take len1 = zs at hz hn
  clear w1
  have h0 := gr_new w P0 Q0 G0 23
  have hz0 := fun o => hz.below (ba w o) (Nat.le_refl _)
  by_cases hbig : 1048576 < len1
  · have hbi : (1048576 : Int) < (len1 : Int) := by omega
    unfold maxLen at hm
    go_enter Try.func3, Try.ntmps3
    go_wp2
    go_ret
    exact ⟨rfl, ba _ _⟩
  · have hbi : (len1 : Int) ≤ 1048576 := by omega
    have H0 := Lib.hid h0
    have HN := Lib.hid hn
    have HZ0 := Lib.hid hz0
    clear hn hm h0 hz0
    go_enter Try.func3, Try.ntmps3
    go_wp2_with fail
    refine (toGroup_any _ _ _ _).mono ?_
    rintro e w1 ⟨rfl, hb1⟩
    have HB1 := Lib.hid (bt (ba _ _) hb1)
    have H1 := Lib.hid (H0.out.below hb1)
    clear hb1
    go_wp2_with fail
    refine (toIntS_any _ _ _ zs HN.out (by omega) _ (hz.below HB1.out (Nat.le_refl _))).mono ?_
    rintro e w2 ⟨g2, rfl, hg2, hown2, hb2⟩
    obtain ⟨hz2, hn2, _, _⟩ := ints_of_own hown2
    have HN2 := Lib.hid hn2
    have HZ2 := Lib.hid hz2
    have HB2 := Lib.hid (bt HB1.out hb2)
    have H2 := Lib.hid (H1.out.below hb2)
    clear hn2 hown2 hb2 hz2
    go_wp2_with fail
    refine (sMulOf_any _ _ _ _ _ _ zs HN2.out (by omega) _ HZ2.out).mono ?_
    rintro e w3 ⟨rfl, hb3⟩
    have HB3 := Lib.hid (bt HB2.out hb3)
    have H3 := Lib.hid (H2.out.below hb3)
    clear hb3
    go_wp2_with fail
    refine (toIntS_any _ _ _ zs HN.out (by omega) _ (hz.below HB3.out (Nat.le_refl _))).mono ?_
    rintro e w4 ⟨g4, rfl, hg4, hown4, hb4⟩
    obtain ⟨hz4, hn4, _, _⟩ := ints_of_own hown4
    have HN4 := Lib.hid hn4
    have HZ4 := Lib.hid hz4
    have HB4 := Lib.hid (bt HB3.out hb4)
    have H4 := Lib.hid (H3.out.below hb4)
    obtain ⟨c0, c1, c2⟩ := H4.out
    clear hn4 hown4 hb4 hz4
    go_wp2_with fail
    refine (toGroup_any _ _ _ _).mono ?_
    rintro e w5 ⟨rfl, hb5⟩
    have HB5 := Lib.hid (bt HB4.out hb5)
    have HZ5 := Lib.hid (HZ4.out.below hb5 (Nat.le_refl _))
    clear hb5 c0 c1 c2
    go_wp2_with fail
    refine (mulOf_any _ _ _ _ _ _ zs HN4.out (by omega) _ HZ5.out).mono ?_
    rintro e w6 ⟨rfl, hb6⟩
    have HB6 := Lib.hid (bt HB5.out hb6)
    have HZ6 := Lib.hid (HZ5.out.below hb6 (Nat.le_refl _))
    clear hb6
    go_wp2_with fail
    refine (toIntS_any _ _ _ zs HN.out (by omega) _ (hz.below HB6.out (Nat.le_refl _))).mono ?_
    rintro e w7 ⟨g7, rfl, hg7, hown7, hb7⟩
    obtain ⟨hz7, hn7, _, _⟩ := ints_of_own hown7
    have HN7 := Lib.hid hn7
    have HZ7 := Lib.hid hz7
    have HZ67 := Lib.hid (HZ6.out.below hb7 (Nat.le_refl _))
    have HB7 := Lib.hid (bt HB6.out hb7)
    clear hn7 hown7 hb7 hz7
    go_wp2_with fail
    refine (eqIntS_same _ _ _ _ _ _ zs HN4.out HN7.out (by omega) _ HZ67.out HZ7.out).mono ?_
    rintro e w8 ⟨rfl, hb8⟩
    have HB8 := Lib.hid (bt HB7.out hb8)
    clear hb8
    go_wp2
    go_ret
    exact ⟨rfl, HB8.out⟩

/-! ### The row's step -/
set_option maxRecDepth 100000 in
theorem lifted (os : Os) (started : os.Started) (H : Type) (enc : TypeId × Value → H) :
    ReturnsInHanded {} Try.checked os 3 .any (Rows.fnExactMulOfSpec.pre6 enc Try.prog Try.f3 Rows.fnExactMulOfRow.domain false) (Rows.fnExactMulOfSpec.post enc Try.prog Try.f3 false true false false) := by
  refine returnsInHanded_of_change (C := Try.checked) own started (by kernel_rfl) Try.func3
    (ChangeSpec.witness6 (enc := enc) (C := Try.checked) false ⟨#[], #[.agg #[.int .i64 0, .int .i64 0, .int .i64 0], .slice none 0 0], []⟩ 8 (by kernel_rfl) (by kernel_rfl) (by kernel_rfl) (by kernel_rfl)) ?_
  intro W base args ds gs before hval0 hW hcnd _
  have hval : ∀ (j : Nat) t v, Try.f3.params[j]? = some t → args[j]? = some v → Value.okWide Try.prog W .any base t v := hval0
  have hW' := hW
  obtain ⟨p, q, hA0, hV, rfl, hfz, hnd⟩ := hW
  have hA : DataW.TrodAll enc Try.prog W 0 (fun _ => true) true Try.f3.params.toList args.toList ds p := hA0
  rw [Try.params3] at hA hval
  obtain ⟨v0, vs0, d0, ds0, p0, q0, hargs, rfl, rfl, h0, r0⟩ := trodAll_cons hA
  obtain ⟨v1, vs1, d1, ds1, p1, q1, rfl, rfl, rfl, h1, r1⟩ := trodAll_cons r0
  obtain ⟨rfl, rfl, rfl⟩ := trodAll_nil r1
  obtain rfl : args = #[v0, v1] := by cases args; simp_all
  obtain ⟨rfl, rfl⟩ := trodVars_none hV
  have k0 := h0
  have lt0 : ∀ x ∈ p0, x.block < W.heap.size := by obtain ⟨m, hm⟩ := k0; exact DataW.trod_lt m _ _ _ hm
  obtain ⟨c0_0, c0_1, c0_2, y0_0, y0_1, y0_2, m0, rfl, rfl, rfl, hy0_0, hy0_1, hy0_2⟩ := open_agg3 Try.underlying23 (by kernel_rfl) (by kernel_rfl) (hval 0 23 v0 rfl rfl) h0
  obtain ⟨P0, e0_0, _, wP0⟩ := DataW.trod_int Try.underlying3 hy0_0
  obtain rfl := (List.cons.inj e0_0).1
  obtain ⟨Q0, e0_1, _, wQ0⟩ := DataW.trod_int Try.underlying3 hy0_1
  obtain rfl := (List.cons.inj e0_1).1
  obtain ⟨G0, e0_2, _, wG0⟩ := DataW.trod_int Try.underlying3 hy0_2
  obtain rfl := (List.cons.inj e0_2).1
  have k1 := h1
  have lt1 : ∀ x ∈ p1, x.block < W.heap.size := by obtain ⟨m, hm⟩ := k1; exact DataW.trod_lt m _ _ _ hm
  obtain ⟨a1, len1, cap1, rfl⟩ := okWide_slice Try.underlying24 (hval 1 24 v1 rfl rfl)
  obtain ⟨z1, w1⟩ : ∃ zs, IsRow .i64 W a1 len1 cap1 zs := by
    obtain ⟨fuel, hf⟩ := h1
    rcases open_ints Try.underlying24 Try.underlying3 (by kernel_rfl) hf with ⟨hcs, _⟩ | ⟨x, l, c, zs, hcs, _, hl, hm, hz, _, hcell, hwz⟩
    · simp [Value.cells] at hcs
      obtain ⟨rfl, rfl, rfl⟩ := hcs
      exact ⟨[], .inl ⟨rfl, rfl, rfl, rfl⟩⟩
    · simp [Value.cells] at hcs
      obtain ⟨rfl, rfl, rfl⟩ := hcs
      exact ⟨zs, .inr ⟨_, rfl, hl, hm, by simpa using hz, hcell, hwz⟩⟩
  clear hA0 hval0
  refine (walk P0 Q0 G0 a1 len1 cap1 z1 W wP0 wQ0 wG0 w1).mono fun e W' ⟨he, bel⟩ => ?_
  subst he
  exact ⟨_, rfl, _, _, _, [], _, [], hW', trodAll_mk1 (shut_bool Try.underlying4 _), (trodAll_cons_mk (Below.trod laidOut (by kernel_rfl) (of_decide_eq_true (by kernel_rfl)) k0 bel lt0) (trodAll_cons_mk (Below.trod laidOut (by kernel_rfl) (of_decide_eq_true (by kernel_rfl)) k1 bel lt1) trodAll_mk0)), rfl, bel.frame _, fun h => by cases h⟩

theorem over : Rows.fnExactMulOfRow.holds Try.pinned (OpenSpec.ofChange Rows.fnExactMulOfSpec) :=
  OpenClaim.holds_of_wide 3 Try.f3 rfl rfl rfl rfl rfl rfl rfl ⟨rfl, rfl, rfl, rfl, rfl⟩ rfl rfl rfl rfl rfl (by kernel_rfl) Try.func3
    (show joinedFacts Try.prog 3 Try.f3 Rows.fnExactMulOfSpec Rows.fnExactMulOfRow = true by unfold joinedFacts; rw [Head.make, Head.lifts, Head.enters]; kernel_rfl)
    (of_decide_eq_true (by kernel_rfl)) (by unfold Func.isWrapper; first | (rw [if_pos (by decide +kernel)]; kernel_rfl) | (rw [if_neg (by decide +kernel)]; exact ⟨rfl, rfl⟩))
    (fun os started H enc _ => lifted os started H enc)

/-- The statement. -/
theorem proved : Rows.FnExactMulOfSaid := over
#print axioms proved
end Go.Proofs.Ytafoenoilcgjdaa.fnExactMulOf
