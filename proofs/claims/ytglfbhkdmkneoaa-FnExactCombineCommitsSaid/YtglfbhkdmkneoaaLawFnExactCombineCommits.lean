/-
For every group and every further argument the law FnExactCombineCommits returns true: the program's CombineCommits answers as the reference's does, and leaves its arguments as they were.
No condition.
-/
import Derived.Test.YtglfbhkdmkneoaaRows
import Derived.WalkKit
import Derived.ProofKit
import Derived.OpenShut
import Derived.ShutString
import Derived.ChangeOld
import Derived.Below
import Derived.Lib.SmallJoins
import Derived.Test.YtglfbhkdmkneoaaComC
import Derived.Test.YtglfbhkdmkneoaaFacts
namespace Go.Proofs.Ytglfbhkdmkneoaa.fnExactCombineCommits
open Go.Joins Go.ChangeShapes Go.WideShapes Go.ChangeAt Go.RowKit Go.Deep
open Go.ChangeMaps (open_string shut_string)
set_option linter.unusedVariables false

theorem own : ownKnob Try.prog.godebug = none := by kernel_rfl
theorem laidOut : laidOutB Try.prog = true := by kernel_rfl

/-- What the walk is told of a slice of integers that came in: it is nil; or it leads to a row of 'cap' cells that hold the numbers 'zs'. -/
def IsRow (k : IntKind) (w : World) (a : Option Addr) (len cap : Nat) (zs : List Int) : Prop :=
  (a = none ∧ len = 0 ∧ cap = 0 ∧ zs = []) ∨
  ∃ x, a = some x ∧ len ≤ cap ∧ cap ≤ maxLen ∧ zs.length = cap ∧ (∀ i, i < zs.length → w.cell? (x.add i) = some (.int k (zs.getD i 0))) ∧ ∀ n ∈ zs, (Lit.int k n).wf = true



/-! ### STEP 1: the walk: the Go text returns true and writes nothing that was there -/
set_option maxRecDepth 100000 in
set_option maxHeartbeats 3200000 in
theorem walk (P0 Q0 G0 : Int) (a1 : Option Addr) (len1 cap1 : Nat) (z1 : List Int) (a2 : Option Addr) (len2 cap2 : Nat) (z2 : List Int) (w : World) (wP0 : (Lit.int .i64 P0).wf = true) (wQ0 : (Lit.int .i64 Q0).wf = true) (wG0 : (Lit.int .i64 G0).wf = true) (w1 : IsRow .i64 w a1 len1 cap1 z1) (w2 : IsRow .i64 w a2 len2 cap2 z2) :
    Calls Try.prog 9 #[.agg #[.int .i64 P0, .int .i64 Q0, .int .i64 G0], .slice a1 len1 cap1, .slice a2 len2 cap2] w fun e w' => e = .returned (.bool true) ∧ Below w.heap.size w w' := by
  obtain ⟨hus, nus, mus⟩ := inI_of_row w1
  generalize z1.take len1 = us at hus nus
  clear w1
  obtain ⟨hes, nes, mes⟩ := inI_of_row w2
  generalize z2.take len2 = es at hes nes
  clear w2
  have hal : Below w.heap.size w (w.alloc (.cells #[.int .i64 P0, .int .i64 Q0, .int .i64 G0] 23)) := ba _ _
  have R_0 := Lib.hid (gr_at w w.heap.size rfl P0 Q0 G0 23)
  have US_0 := Lib.hid (hus.below hal)
  have ES_0 := Lib.hid (hes.below hal)
  have HB_0 := Lib.hid hal
  clear hal hus hes
  by_cases b1 : 1048576 < len1
  · have c1 : (1048576 : Int) < (len1 : Int) := by omega
    unfold maxLen at mus
    go_enter Try.func9, Try.ntmps9
    go_wp2
    go_ret
    exact ⟨rfl, HB_0.out⟩
  have c1 : (len1 : Int) ≤ 1048576 := by omega
  have lus : us.length ≤ 1048576 := by omega
  by_cases b2 : 1048576 < len2
  · have c2 : (1048576 : Int) < (len2 : Int) := by omega
    unfold maxLen at mes
    go_enter Try.func9, Try.ntmps9
    go_wp2
    go_ret
    exact ⟨rfl, HB_0.out⟩
  have c2 : (len2 : Int) ≤ 1048576 := by omega
  have les : es.length ≤ 1048576 := by omega
  obtain ⟨k1, hk1⟩ : ∃ k, ccV P0 Q0 G0 us es = k := ⟨_, rfl⟩
  have K1 := Lib.hid hk1
  clear hk1
  obtain ⟨k2, hk2⟩ : ∃ k, ccB P0 Q0 G0 us es = k := ⟨_, rfl⟩
  have K2 := Lib.hid hk2
  clear hk2
  go_enter Try.func9, Try.ntmps9
  obtain ⟨g0, g1, g2⟩ := R_0.out
  go_wp2_with fail
  refine (toGroup_any _ _ _ _).mono ?_
  rintro e u1 ⟨rfl, hb⟩
  have HB_1 := Lib.hid (bt HB_0.out hb)
  have R_1 := Lib.hid (R_0.out.below hb)
  have US_1 := Lib.hid (US_0.out.below hb)
  have ES_1 := Lib.hid (ES_0.out.below hb)
  clear hb HB_0 R_0 US_0 ES_0
  clear g0 g1 g2
  go_wp2_with fail
  refine (toI_any US_1.out (by omega)).mono ?_
  rintro e u2 ⟨sus, rfl, ho, hb⟩
  have HB_2 := Lib.hid (bt HB_1.out hb)
  have R_2 := Lib.hid (R_1.out.below hb)
  have US_2 := Lib.hid (US_1.out.below hb)
  have ES_2 := Lib.hid (ES_1.out.below hb)
  have CUS_2 := Lib.hid (ho.toIn)
  clear hb HB_1 R_1 US_1 ES_1
  clear ho
  go_wp2_with fail
  refine (toI_any ES_2.out (by omega)).mono ?_
  rintro e u3 ⟨ses, rfl, ho, hb⟩
  have HB_3 := Lib.hid (bt HB_2.out hb)
  have R_3 := Lib.hid (R_2.out.below hb)
  have US_3 := Lib.hid (US_2.out.below hb)
  have ES_3 := Lib.hid (ES_2.out.below hb)
  have CUS_3 := Lib.hid (CUS_2.out.below hb)
  have CES_3 := Lib.hid (ho.toIn)
  clear hb HB_2 R_2 US_2 ES_2 CUS_2
  clear ho
  go_wp2_with fail
  refine (sCombineCommits_any P0 Q0 G0 lus les CUS_3.out CES_3.out).mono ?_
  rw [K1.out, K2.out]
  rintro e u4 ⟨rfl, hb⟩
  have HB_4 := Lib.hid (bt HB_3.out hb)
  have R_4 := Lib.hid (R_3.out.below hb)
  have US_4 := Lib.hid (US_3.out.below hb)
  have ES_4 := Lib.hid (ES_3.out.below hb)
  clear hb HB_3 R_3 US_3 ES_3 CUS_3 CES_3
  go_wp2_with fail
  refine (toI_any US_4.out (by omega)).mono ?_
  rintro e u5 ⟨qus, rfl, ho, hb⟩
  have HB_5 := Lib.hid (bt HB_4.out hb)
  have R_5 := Lib.hid (R_4.out.below hb)
  have US_5 := Lib.hid (US_4.out.below hb)
  have ES_5 := Lib.hid (ES_4.out.below hb)
  have QUS_5 := Lib.hid (ho.toIn)
  clear hb HB_4 R_4 US_4 ES_4
  clear ho
  go_wp2_with fail
  refine (toI_any ES_5.out (by omega)).mono ?_
  rintro e u6 ⟨qes, rfl, ho, hb⟩
  have HB_6 := Lib.hid (bt HB_5.out hb)
  have R_6 := Lib.hid (R_5.out.below hb)
  have US_6 := Lib.hid (US_5.out.below hb)
  have ES_6 := Lib.hid (ES_5.out.below hb)
  have QUS_6 := Lib.hid (QUS_5.out.below hb)
  have QES_6 := Lib.hid (ho.toIn)
  clear hb HB_5 R_5 US_5 ES_5 QUS_5
  clear ho
  obtain ⟨g0, g1, g2⟩ := R_6.out
  go_wp2_with fail
  refine (toGroup_any _ _ _ _).mono ?_
  rintro e u7 ⟨rfl, hb⟩
  have HB_7 := Lib.hid (bt HB_6.out hb)
  have R_7 := Lib.hid (R_6.out.below hb)
  have US_7 := Lib.hid (US_6.out.below hb)
  have ES_7 := Lib.hid (ES_6.out.below hb)
  have QUS_7 := Lib.hid (QUS_6.out.below hb)
  have QES_7 := Lib.hid (QES_6.out.below hb)
  clear hb HB_6 R_6 US_6 ES_6 QUS_6 QES_6
  clear g0 g1 g2
  go_wp2_with fail
  refine (combineCommits_any P0 Q0 G0 lus les QUS_7.out QES_7.out).mono ?_
  rw [K1.out, K2.out]
  rintro e u8 ⟨rfl, hb⟩
  have HB_8 := Lib.hid (bt HB_7.out hb)
  have R_8 := Lib.hid (R_7.out.below hb)
  have US_8 := Lib.hid (US_7.out.below hb)
  have ES_8 := Lib.hid (ES_7.out.below hb)
  have QUS_8 := Lib.hid (QUS_7.out.below hb)
  have QES_8 := Lib.hid (QES_7.out.below hb)
  clear hb HB_7 R_7 US_7 ES_7 QUS_7 QES_7
  go_wp2_with fail
  refine (toI_any US_8.out (by omega)).mono ?_
  rintro e u9 ⟨rus, rfl, ho, hb⟩
  have HB_9 := Lib.hid (bt HB_8.out hb)
  have R_9 := Lib.hid (R_8.out.below hb)
  have US_9 := Lib.hid (US_8.out.below hb)
  have ES_9 := Lib.hid (ES_8.out.below hb)
  have QUS_9 := Lib.hid (QUS_8.out.below hb)
  have QES_9 := Lib.hid (QES_8.out.below hb)
  have CI_9 := Lib.hid (ho.toIn)
  clear hb HB_8 R_8 US_8 ES_8 QUS_8 QES_8
  clear ho
  go_wp2_with fail
  refine (eqI_any QUS_9.out CI_9.out (by omega)).mono ?_
  rintro e u10 ⟨rfl, hb⟩
  have HB_10 := Lib.hid (bt HB_9.out hb)
  have R_10 := Lib.hid (R_9.out.below hb)
  have US_10 := Lib.hid (US_9.out.below hb)
  have ES_10 := Lib.hid (ES_9.out.below hb)
  have QUS_10 := Lib.hid (QUS_9.out.below hb)
  have QES_10 := Lib.hid (QES_9.out.below hb)
  clear hb HB_9 R_9 US_9 ES_9 QUS_9 QES_9 CI_9
  go_wp2_with fail
  refine (toI_any ES_10.out (by omega)).mono ?_
  rintro e u11 ⟨res, rfl, ho, hb⟩
  have HB_11 := Lib.hid (bt HB_10.out hb)
  have R_11 := Lib.hid (R_10.out.below hb)
  have US_11 := Lib.hid (US_10.out.below hb)
  have ES_11 := Lib.hid (ES_10.out.below hb)
  have QUS_11 := Lib.hid (QUS_10.out.below hb)
  have QES_11 := Lib.hid (QES_10.out.below hb)
  have CI_11 := Lib.hid (ho.toIn)
  clear hb HB_10 R_10 US_10 ES_10 QUS_10 QES_10
  clear ho
  go_wp2_with fail
  refine (eqI_any QES_11.out CI_11.out (by omega)).mono ?_
  rintro e u12 ⟨rfl, hb⟩
  have HB_12 := Lib.hid (bt HB_11.out hb)
  have R_12 := Lib.hid (R_11.out.below hb)
  have US_12 := Lib.hid (US_11.out.below hb)
  have ES_12 := Lib.hid (ES_11.out.below hb)
  have QUS_12 := Lib.hid (QUS_11.out.below hb)
  have QES_12 := Lib.hid (QES_11.out.below hb)
  clear hb HB_11 R_11 US_11 ES_11 QUS_11 QES_11 CI_11
  go_wp2
  go_ret
  exact ⟨rfl, HB_12.out⟩

/-! ### The row's step -/
set_option maxRecDepth 100000 in
theorem lifted (os : Os) (started : os.Started) (H : Type) (enc : TypeId × Value → H) :
    ReturnsInHanded {} Try.checked os 9 .any (Rows.fnExactCombineCommitsSpec.pre6 enc Try.prog Try.f9 Rows.fnExactCombineCommitsRow.domain false) (Rows.fnExactCombineCommitsSpec.post enc Try.prog Try.f9 false true false false) := by
  refine returnsInHanded_of_change (C := Try.checked) own started (by kernel_rfl) Try.func9
    (ChangeSpec.witness6 (enc := enc) (C := Try.checked) false ⟨#[], #[.agg #[.int .i64 0, .int .i64 0, .int .i64 0], .slice none 0 0, .slice none 0 0], []⟩ 8 (by kernel_rfl) (by kernel_rfl) (by kernel_rfl) (by kernel_rfl)) ?_
  intro W base args ds gs before hval0 hW hcnd _
  have hval : ∀ (j : Nat) t v, Try.f9.params[j]? = some t → args[j]? = some v → Value.okWide Try.prog W .any base t v := hval0
  have hW' := hW
  obtain ⟨p, q, hA0, hV, rfl, hfz, hnd⟩ := hW
  have hA : DataW.TrodAll enc Try.prog W 0 (fun _ => true) true Try.f9.params.toList args.toList ds p := hA0
  rw [Try.params9] at hA hval
  obtain ⟨v0, vs0, d0, ds0, p0, q0, hargs, rfl, rfl, h0, r0⟩ := trodAll_cons hA
  obtain ⟨v1, vs1, d1, ds1, p1, q1, rfl, rfl, rfl, h1, r1⟩ := trodAll_cons r0
  obtain ⟨v2, vs2, d2, ds2, p2, q2, rfl, rfl, rfl, h2, r2⟩ := trodAll_cons r1
  obtain ⟨rfl, rfl, rfl⟩ := trodAll_nil r2
  obtain rfl : args = #[v0, v1, v2] := by cases args; simp_all
  obtain ⟨rfl, rfl⟩ := trodVars_none hV
  have k0 := h0
  have lt0 : ∀ x ∈ p0, x.block < W.heap.size := by obtain ⟨m, hm⟩ := k0; exact DataW.trod_lt m _ _ _ hm
  obtain ⟨c0_0, c0_1, c0_2, y0_0, y0_1, y0_2, m0, rfl, rfl, rfl, hy0_0, hy0_1, hy0_2⟩ := open_agg3 Try.underlying23 (by kernel_rfl) (by kernel_rfl) (hval 0 23 v0 rfl rfl) h0
  obtain ⟨P0, e0_0, _, wP0⟩ := DataW.trod_int Try.underlying3 hy0_0
  obtain rfl := (List.cons.inj e0_0).1
  obtain ⟨Q0, e0_1, _, wQ0⟩ := DataW.trod_int Try.underlying3 hy0_1
  obtain rfl := (List.cons.inj e0_1).1
  obtain ⟨G0, e0_2, _, wG0⟩ := DataW.trod_int Try.underlying3 hy0_2
  obtain rfl := (List.cons.inj e0_2).1
  have k1 := h1
  have lt1 : ∀ x ∈ p1, x.block < W.heap.size := by obtain ⟨m, hm⟩ := k1; exact DataW.trod_lt m _ _ _ hm
  obtain ⟨a1, len1, cap1, rfl⟩ := okWide_slice Try.underlying24 (hval 1 24 v1 rfl rfl)
  obtain ⟨z1, w1⟩ : ∃ zs, IsRow .i64 W a1 len1 cap1 zs := by
    obtain ⟨fuel, hf⟩ := h1
    rcases open_ints Try.underlying24 Try.underlying3 (by kernel_rfl) hf with ⟨hcs, _⟩ | ⟨x, l, c, zs, hcs, _, hl, hm, hz, _, hcell, hwz⟩
    · simp [Value.cells] at hcs
      obtain ⟨rfl, rfl, rfl⟩ := hcs
      exact ⟨[], .inl ⟨rfl, rfl, rfl, rfl⟩⟩
    · simp [Value.cells] at hcs
      obtain ⟨rfl, rfl, rfl⟩ := hcs
      exact ⟨zs, .inr ⟨_, rfl, hl, hm, by simpa using hz, hcell, hwz⟩⟩
  have k2 := h2
  have lt2 : ∀ x ∈ p2, x.block < W.heap.size := by obtain ⟨m, hm⟩ := k2; exact DataW.trod_lt m _ _ _ hm
  obtain ⟨a2, len2, cap2, rfl⟩ := okWide_slice Try.underlying24 (hval 2 24 v2 rfl rfl)
  obtain ⟨z2, w2⟩ : ∃ zs, IsRow .i64 W a2 len2 cap2 zs := by
    obtain ⟨fuel, hf⟩ := h2
    rcases open_ints Try.underlying24 Try.underlying3 (by kernel_rfl) hf with ⟨hcs, _⟩ | ⟨x, l, c, zs, hcs, _, hl, hm, hz, _, hcell, hwz⟩
    · simp [Value.cells] at hcs
      obtain ⟨rfl, rfl, rfl⟩ := hcs
      exact ⟨[], .inl ⟨rfl, rfl, rfl, rfl⟩⟩
    · simp [Value.cells] at hcs
      obtain ⟨rfl, rfl, rfl⟩ := hcs
      exact ⟨zs, .inr ⟨_, rfl, hl, hm, by simpa using hz, hcell, hwz⟩⟩
  clear hA0 hval0
  refine (walk P0 Q0 G0 a1 len1 cap1 z1 a2 len2 cap2 z2 W wP0 wQ0 wG0 w1 w2).mono fun e W' ⟨he, bel⟩ => ?_
  subst he
  exact ⟨_, rfl, _, _, _, [], _, [], hW', trodAll_mk1 (shut_bool Try.underlying4 _), (trodAll_cons_mk (Below.trod laidOut (by kernel_rfl) (of_decide_eq_true (by kernel_rfl)) k0 bel lt0) (trodAll_cons_mk (Below.trod laidOut (by kernel_rfl) (of_decide_eq_true (by kernel_rfl)) k1 bel lt1) (trodAll_cons_mk (Below.trod laidOut (by kernel_rfl) (of_decide_eq_true (by kernel_rfl)) k2 bel lt2) trodAll_mk0))), rfl, bel.frame _, fun h => by cases h⟩

theorem over : Rows.fnExactCombineCommitsRow.holds Try.pinned (OpenSpec.ofChange Rows.fnExactCombineCommitsSpec) :=
  OpenClaim.holds_of_wide 9 Try.f9 rfl rfl rfl rfl rfl rfl rfl ⟨rfl, rfl, rfl, rfl, rfl⟩ rfl rfl rfl rfl rfl (by kernel_rfl) Try.func9
    (show joinedFacts Try.prog 9 Try.f9 Rows.fnExactCombineCommitsSpec Rows.fnExactCombineCommitsRow = true by unfold joinedFacts; rw [Head.make, Head.lifts, Head.enters]; kernel_rfl)
    (of_decide_eq_true (by kernel_rfl)) (by unfold Func.isWrapper; first | (rw [if_pos (by decide +kernel)]; kernel_rfl) | (rw [if_neg (by decide +kernel)]; exact ⟨rfl, rfl⟩))
    (fun os started H enc _ => lifted os started H enc)

/-- The statement. -/
theorem proved : Rows.FnExactCombineCommitsSaid := over
#print axioms proved
end Go.Proofs.Ytglfbhkdmkneoaa.fnExactCombineCommits
