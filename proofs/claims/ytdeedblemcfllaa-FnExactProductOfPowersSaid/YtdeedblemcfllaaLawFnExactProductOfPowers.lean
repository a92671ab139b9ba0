/-
For every group and every two lists the law FnExactProductOfPowers returns true: the program's ProductOfPowers (a deferred function hands the product out) answers as the reference's does, and leaves its arguments as they were.
No condition.
-/
import Derived.Test.YtdeedblemcfllaaRows
import Derived.WalkKit
import Derived.ProofKit
import Derived.OpenShut
import Derived.ShutString
import Derived.ChangeOld
import Derived.Below
import Derived.Lib.SmallJoins
import Derived.Test.YtdeedblemcfllaaG7
import Derived.Test.YtdeedblemcfllaaFacts
namespace Go.Proofs.Ytdeedblemcfllaa.fnExactProductOfPowers
open Go.Joins Go.ChangeShapes Go.WideShapes Go.ChangeAt Go.RowKit Go.Deep
set_option linter.unusedVariables false

theorem own : ownKnob Try.prog.godebug = none := by kernel_rfl
theorem laidOut : laidOutB Try.prog = true := by kernel_rfl

/-- What the walk is told of a slice of integers that came in: it is nil; or it leads to a row of 'cap' cells that hold the numbers 'zs'. -/
def IsRow (k : IntKind) (w : World) (a : Option Addr) (len cap : Nat) (zs : List Int) : Prop :=
  (a = none ∧ len = 0 ∧ cap = 0 ∧ zs = []) ∨
  ∃ x, a = some x ∧ len ≤ cap ∧ cap ≤ maxLen ∧ zs.length = cap ∧ (∀ i, i < zs.length → w.cell? (x.add i) = some (.int k (zs.getD i 0))) ∧ ∀ n ∈ zs, (Lit.int k n).wf = true



/-! ### STEP 1: the walk: the Go text returns true and writes nothing that was there -/
theorem walk (P0 Q0 G0 : Int) (a1 : Option Addr) (len1 cap1 : Nat) (z1 : List Int) (a2 : Option Addr) (len2 cap2 : Nat) (z2 : List Int) (w : World) (wP0 : (Lit.int .i64 P0).wf = true) (wQ0 : (Lit.int .i64 Q0).wf = true) (wG0 : (Lit.int .i64 G0).wf = true) (w1 : IsRow .i64 w a1 len1 cap1 z1) (w2 : IsRow .i64 w a2 len2 cap2 z2) :
    Calls Try.prog 16 #[.agg #[.int .i64 P0, .int .i64 Q0, .int .i64 G0], .slice a1 len1 cap1, .slice a2 len2 cap2] w fun e w' => e = .returned (.bool true) ∧ Below w.heap.size w w' := by
  obtain ⟨hz, hn, hm⟩ := ints_of_row w1
  obtain ⟨hz', hn', hm'⟩ := ints_of_row w2
  generalize z1.take len1 = zs at hz hn
  generalize z2.take len2 = es at hz' hn'
  clear w1 w2
  by_cases hbig : 1048576 < len1
  · have hbi : (1048576 : Int) < (len1 : Int) := by omega
    unfold maxLen at hm
    go_enter Try.func16, Try.ntmps16
    go_wp2
    go_ret
    exact ⟨rfl, ba _ _⟩
  by_cases hbig' : 1048576 < len2
  · have hbi : (len1 : Int) ≤ 1048576 := by omega
    have hbi' : (1048576 : Int) < (len2 : Int) := by omega
    unfold maxLen at hm'
    go_enter Try.func16, Try.ntmps16
    go_wp2
    go_ret
    exact ⟨rfl, ba _ _⟩
  have hbi : (len1 : Int) ≤ 1048576 := by omega
  have hbi' : (len2 : Int) ≤ 1048576 := by omega
  have H0 := Lib.hid (gr_new w P0 Q0 G0 60)
  have HN := Lib.hid hn
  have HN' := Lib.hid hn'
  clear hn hn' hm hm'
  go_enter Try.func16, Try.ntmps16
  go_wp2_with fail
  refine (toGroup_any _ _ _ _).mono ?_
  rintro e v1 ⟨rfl, hb1⟩
  have HB1 := Lib.hid (bt (ba _ _) hb1)
  have H1 := Lib.hid (H0.out.below hb1)
  clear hb1
  go_wp2_with fail
  refine (toIntS_any _ _ _ zs HN.out (by omega) _ (hz.below HB1.out (Nat.le_refl _))).mono ?_
  rintro e v2 ⟨g2, rfl, hg2, hown2, hb2⟩
  obtain ⟨hz2, hn2, _, _⟩ := ints_of_own hown2
  have HN2 := Lib.hid hn2
  have HZ2 := Lib.hid hz2
  have HB2 := Lib.hid (bt HB1.out hb2)
  have H2 := Lib.hid (H1.out.below hb2)
  clear hn2 hown2 hb2 hz2
  go_wp2_with fail
  refine (toIntS_any _ _ _ es HN'.out (by omega) _ (hz'.below HB2.out (Nat.le_refl _))).mono ?_
  rintro e v3 ⟨g3, rfl, hg3, hown3, hb3⟩
  obtain ⟨hz3, hn3, _, _⟩ := ints_of_own hown3
  have HN3 := Lib.hid hn3
  have HZ3 := Lib.hid hz3
  have HZ23 := Lib.hid (HZ2.out.below hb3 (Nat.le_refl _))
  have HB3 := Lib.hid (bt HB2.out hb3)
  have H3 := Lib.hid (H2.out.below hb3)
  clear hn3 hown3 hb3 hz3
  go_wp2_with fail
  refine (sProductOfPowers_any _ _ _ _ _ _ _ _ _ zs es HN2.out HN3.out (by omega) (by omega) _ HZ23.out HZ3.out).mono ?_
  rintro e v4 ⟨rfl, hb4⟩
  have HB4 := Lib.hid (bt HB3.out hb4)
  have H4 := Lib.hid (H3.out.below hb4)
  clear hb4
  go_wp2_with fail
  refine (toIntS_any _ _ _ zs HN.out (by omega) _ (hz.below HB4.out (Nat.le_refl _))).mono ?_
  rintro e v5 ⟨g5, rfl, hg5, hown5, hb5⟩
  obtain ⟨hz5, hn5, _, _⟩ := ints_of_own hown5
  have HN5 := Lib.hid hn5
  have HZ5 := Lib.hid hz5
  have HB5 := Lib.hid (bt HB4.out hb5)
  have H5 := Lib.hid (H4.out.below hb5)
  clear hn5 hown5 hb5 hz5
  go_wp2_with fail
  refine (toIntS_any _ _ _ es HN'.out (by omega) _ (hz'.below HB5.out (Nat.le_refl _))).mono ?_
  rintro e v6 ⟨g6, rfl, hg6, hown6, hb6⟩
  obtain ⟨hz6, hn6, _, _⟩ := ints_of_own hown6
  have HN6 := Lib.hid hn6
  have HZ6 := Lib.hid hz6
  have HZ56 := Lib.hid (HZ5.out.below hb6 (Nat.le_refl _))
  have HB6 := Lib.hid (bt HB5.out hb6)
  have H6 := Lib.hid (H5.out.below hb6)
  obtain ⟨c0, c1, c2⟩ := H6.out
  clear hn6 hown6 hb6 hz6
  go_wp2_with fail
  refine (toGroup_any _ _ _ _).mono ?_
  rintro e v7 ⟨rfl, hb7⟩
  have HB7 := Lib.hid (bt HB6.out hb7)
  have HZ57 := Lib.hid (HZ56.out.below hb7 (Nat.le_refl _))
  have HZ67 := Lib.hid (HZ6.out.below hb7 (Nat.le_refl _))
  clear hb7 c0 c1 c2
  go_wp2_with fail
  refine (productOfPowers_any _ _ _ _ _ _ _ _ _ zs es HN5.out HN6.out (by omega) (by omega) _ HZ57.out HZ67.out).mono ?_
  rintro e v8 ⟨rfl, hb8⟩
  have HB8 := Lib.hid (bt HB7.out hb8)
  have HZ58 := Lib.hid (HZ57.out.below hb8 (Nat.le_refl _))
  have HZ68 := Lib.hid (HZ67.out.below hb8 (Nat.le_refl _))
  clear hb8
  go_wp2_with fail
  refine (toIntS_any _ _ _ zs HN.out (by omega) _ (hz.below HB8.out (Nat.le_refl _))).mono ?_
  rintro e v9 ⟨g9, rfl, hg9, hown9, hb9⟩
  obtain ⟨hz9, hn9, _, _⟩ := ints_of_own hown9
  have HN9 := Lib.hid hn9
  have HZ9 := Lib.hid hz9
  have HZ59 := Lib.hid (HZ58.out.below hb9 (Nat.le_refl _))
  have HZ69 := Lib.hid (HZ68.out.below hb9 (Nat.le_refl _))
  have HB9 := Lib.hid (bt HB8.out hb9)
  clear hn9 hown9 hb9 hz9
  go_wp2_with fail
  refine (eqIntS_same _ _ _ _ _ _ zs HN5.out HN9.out (by omega) _ HZ59.out HZ9.out).mono ?_
  rintro e v10 ⟨rfl, hb10⟩
  have HZ610 := Lib.hid (HZ69.out.below hb10 (Nat.le_refl _))
  have HB10 := Lib.hid (bt HB9.out hb10)
  clear hb10
  go_wp2_with fail
  refine (toIntS_any _ _ _ es HN'.out (by omega) _ (hz'.below HB10.out (Nat.le_refl _))).mono ?_
  rintro e v11 ⟨g11, rfl, hg11, hown11, hb11⟩
  obtain ⟨hz11, hn11, _, _⟩ := ints_of_own hown11
  have HN11 := Lib.hid hn11
  have HZ11 := Lib.hid hz11
  have HZ611 := Lib.hid (HZ610.out.below hb11 (Nat.le_refl _))
  have HB11 := Lib.hid (bt HB10.out hb11)
  clear hn11 hown11 hb11 hz11
  go_wp2_with fail
  refine (eqIntS_same _ _ _ _ _ _ es HN6.out HN11.out (by omega) _ HZ611.out HZ11.out).mono ?_
  rintro e v12 ⟨rfl, hb12⟩
  have HB12 := Lib.hid (bt HB11.out hb12)
  clear hb12
  go_wp2
  go_ret
  exact ⟨rfl, HB12.out⟩

/-! ### The row's step -/
set_option maxRecDepth 100000 in
theorem lifted (os : Os) (started : os.Started) (H : Type) (enc : TypeId × Value → H) :
    ReturnsInHanded {} Try.checked os 16 .any (Rows.fnExactProductOfPowersSpec.pre6 enc Try.prog Try.f16 Rows.fnExactProductOfPowersRow.domain false) (Rows.fnExactProductOfPowersSpec.post enc Try.prog Try.f16 false true false false) := by
  refine returnsInHanded_of_change (C := Try.checked) own started (by kernel_rfl) Try.func16
    (ChangeSpec.witness6 (enc := enc) (C := Try.checked) false ⟨#[], #[.agg #[.int .i64 0, .int .i64 0, .int .i64 0], .slice none 0 0, .slice none 0 0], []⟩ 8 (by kernel_rfl) (by kernel_rfl) (by kernel_rfl) (by kernel_rfl)) ?_
  intro W base args ds gs before hval0 hW hcnd _
  have hval : ∀ (j : Nat) t v, Try.f16.params[j]? = some t → args[j]? = some v → Value.okWide Try.prog W .any base t v := hval0
  have hW' := hW
  obtain ⟨p, q, hA0, hV, rfl, hfz, hnd⟩ := hW
  have hA : DataW.TrodAll enc Try.prog W 0 (fun _ => true) true Try.f16.params.toList args.toList ds p := hA0
  rw [Try.params16] at hA hval
  obtain ⟨v0, vs0, d0, ds0, p0, q0, hargs, rfl, rfl, h0, r0⟩ := trodAll_cons hA
  obtain ⟨v1, vs1, d1, ds1, p1, q1, rfl, rfl, rfl, h1, r1⟩ := trodAll_cons r0
  obtain ⟨v2, vs2, d2, ds2, p2, q2, rfl, rfl, rfl, h2, r2⟩ := trodAll_cons r1
  obtain ⟨rfl, rfl, rfl⟩ := trodAll_nil r2
  obtain rfl : args = #[v0, v1, v2] := by cases args; simp_all
  obtain ⟨rfl, rfl⟩ := trodVars_none hV
  have k0 := h0
  have lt0 : ∀ x ∈ p0, x.block < W.heap.size := by obtain ⟨m, hm⟩ := k0; exact DataW.trod_lt m _ _ _ hm
  obtain ⟨c0_0, c0_1, c0_2, y0_0, y0_1, y0_2, m0, rfl, rfl, rfl, hy0_0, hy0_1, hy0_2⟩ := open_agg3 Try.underlying60 (by kernel_rfl) (by kernel_rfl) (hval 0 60 v0 rfl rfl) h0
  obtain ⟨P0, e0_0, _, wP0⟩ := DataW.trod_int Try.underlying3 hy0_0
  obtain rfl := (List.cons.inj e0_0).1
  obtain ⟨Q0, e0_1, _, wQ0⟩ := DataW.trod_int Try.underlying3 hy0_1
  obtain rfl := (List.cons.inj e0_1).1
  obtain ⟨G0, e0_2, _, wG0⟩ := DataW.trod_int Try.underlying3 hy0_2
  obtain rfl := (List.cons.inj e0_2).1
  have k1 := h1
  have lt1 : ∀ x ∈ p1, x.block < W.heap.size := by obtain ⟨m, hm⟩ := k1; exact DataW.trod_lt m _ _ _ hm
  obtain ⟨a1, len1, cap1, rfl⟩ := okWide_slice Try.underlying46 (hval 1 46 v1 rfl rfl)
  obtain ⟨z1, w1⟩ : ∃ zs, IsRow .i64 W a1 len1 cap1 zs := by
    obtain ⟨fuel, hf⟩ := h1
    rcases open_ints Try.underlying46 Try.underlying3 (by kernel_rfl) hf with ⟨hcs, _⟩ | ⟨x, l, c, zs, hcs, _, hl, hm, hz, _, hcell, hwz⟩
    · simp [Value.cells] at hcs
      obtain ⟨rfl, rfl, rfl⟩ := hcs
      exact ⟨[], .inl ⟨rfl, rfl, rfl, rfl⟩⟩
    · simp [Value.cells] at hcs
      obtain ⟨rfl, rfl, rfl⟩ := hcs
      exact ⟨zs, .inr ⟨_, rfl, hl, hm, by simpa using hz, hcell, hwz⟩⟩
  have k2 := h2
  have lt2 : ∀ x ∈ p2, x.block < W.heap.size := by obtain ⟨m, hm⟩ := k2; exact DataW.trod_lt m _ _ _ hm
  obtain ⟨a2, len2, cap2, rfl⟩ := okWide_slice Try.underlying46 (hval 2 46 v2 rfl rfl)
  obtain ⟨z2, w2⟩ : ∃ zs, IsRow .i64 W a2 len2 cap2 zs := by
    obtain ⟨fuel, hf⟩ := h2
    rcases open_ints Try.underlying46 Try.underlying3 (by kernel_rfl) hf with ⟨hcs, _⟩ | ⟨x, l, c, zs, hcs, _, hl, hm, hz, _, hcell, hwz⟩
    · simp [Value.cells] at hcs
      obtain ⟨rfl, rfl, rfl⟩ := hcs
      exact ⟨[], .inl ⟨rfl, rfl, rfl, rfl⟩⟩
    · simp [Value.cells] at hcs
      obtain ⟨rfl, rfl, rfl⟩ := hcs
      exact ⟨zs, .inr ⟨_, rfl, hl, hm, by simpa using hz, hcell, hwz⟩⟩
  clear hA0 hval0
  refine (walk P0 Q0 G0 a1 len1 cap1 z1 a2 len2 cap2 z2 W wP0 wQ0 wG0 w1 w2).mono fun e W' ⟨he, bel⟩ => ?_
  subst he
  exact ⟨_, rfl, _, _, _, [], _, [], hW', trodAll_mk1 (shut_bool Try.underlying4 _), (trodAll_cons_mk (Below.trod laidOut (by kernel_rfl) (of_decide_eq_true (by kernel_rfl)) k0 bel lt0) (trodAll_cons_mk (Below.trod laidOut (by kernel_rfl) (of_decide_eq_true (by kernel_rfl)) k1 bel lt1) (trodAll_cons_mk (Below.trod laidOut (by kernel_rfl) (of_decide_eq_true (by kernel_rfl)) k2 bel lt2) trodAll_mk0))), rfl, bel.frame _, fun h => by cases h⟩

theorem over : Rows.fnExactProductOfPowersRow.holds Try.pinned (OpenSpec.ofChange Rows.fnExactProductOfPowersSpec) :=
  OpenClaim.holds_of_wide 16 Try.f16 rfl rfl rfl rfl rfl rfl rfl ⟨rfl, rfl, rfl, rfl, rfl⟩ rfl rfl rfl rfl rfl (by kernel_rfl) Try.func16
    (show joinedFacts Try.prog 16 Try.f16 Rows.fnExactProductOfPowersSpec Rows.fnExactProductOfPowersRow = true by unfold joinedFacts; rw [Head.make, Head.lifts, Head.enters]; kernel_rfl)
    (of_decide_eq_true (by kernel_rfl)) (by unfold Func.isWrapper; first | (rw [if_pos (by decide +kernel)]; kernel_rfl) | (rw [if_neg (by decide +kernel)]; exact ⟨rfl, rfl⟩))
    (fun os started H enc _ => lifted os started H enc)

/-- The statement. -/
theorem proved : Rows.FnExactProductOfPowersSaid := over
#print axioms proved
end Go.Proofs.Ytdeedblemcfllaa.fnExactProductOfPowers
