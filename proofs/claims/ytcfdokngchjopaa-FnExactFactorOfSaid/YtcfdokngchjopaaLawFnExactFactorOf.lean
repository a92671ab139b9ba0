/-
For every n the law FnExactFactorOf returns true: the program's FactorOf answers as the reference's does, and its answer owns its memory.
No condition.
-/
import Derived.Test.YtcfdokngchjopaaRows
import Derived.WalkKit
import Derived.ProofKit
import Derived.OpenShut
import Derived.Below
import Derived.Test.YtcfdokngchjopaaPairs
namespace Go.Proofs.Ytcfdokngchjopaa.fnExactFactorOf
open Go.ChangeShapes Go.WideShapes Go.ChangeAt Go.RowKit
set_option linter.unusedVariables false      -- a walk need not use every 'w<i>' (that an integer argument fits its kind)

theorem own : ownKnob Try.prog.godebug = none := by kernel_rfl



/-! ### STEP 1: THE WALK: the Go text returns true. 'Grown w w'': the world has at most new blocks (Derived/RowKit3.lean). Part the cases AHEAD of 'go_enter' where a test parts the walk; take each callee by a contract of your own. -/
theorem walk (a0 : Int) (w0 : (Lit.int .i64 a0).wf = true) (w : World) :
    Calls Try.prog 11 #[.int .i64 a0] w fun e w' => e = .returned (.bool true) ∧ Below w.heap.size w w' := by
  go_enter Try.func11, Try.ntmps11
  go_wp2_with fail
  refine (sFactorOf_any _ _).mono ?_
  rintro e w1 ⟨ar, nr, cr, rfl, hownr, hlr, hb1⟩
  obtain ⟨hzr, hnr, hbr⟩ := ints_of_pairs hownr
  have HNr := Lib.hid hnr
  have HBr := Lib.hid hbr
  have HB1 := Lib.hid hb1
  clear hnr hbr hb1 hownr
  go_wp2_with fail
  refine (factorOf_any _ _).mono ?_
  rintro e w2 ⟨ag, ng, cg, rfl, howng, hlg, hb2⟩
  obtain ⟨hzg, hng, hbg⟩ := ints_of_pairs howng
  have hzr2 := hzr.below hb2 (Nat.le_refl _)
  have HNg := Lib.hid hng
  have HBg := Lib.hid hbg
  have HOg := Lib.hid howng
  have HB2 := Lib.hid (HB1.out.trans (hb2.mono HB1.out.size))
  clear hng hbg hb2 howng hzr
  go_wp2_with fail
  refine (eqPairs_same _ _ _ _ _ _ (facRes a0) HNg.out HNr.out (by omega) _ hzg hzr2).mono ?_
  rintro e w3 ⟨rfl, hb3⟩
  have hzr3 := hzr2.below hb3 (Nat.le_refl _)
  have HOg3 := Lib.hid (own_below HOg.out hb3)
  have HB3 := Lib.hid (HB2.out.trans (hb3.mono HB2.out.size))
  clear hzr2 hzg hb3 HOg
  go_wp2_with fail
  refine (markPairs_any _ _ _ _ (facRes a0) _ (by omega) (by omega) (by omega) _ HOg3.out).mono ?_
  rintro e w4 ⟨rfl, hown4, hgr4⟩
  obtain ⟨hzg4, _, _⟩ := ints_of_pairs hown4
  have hzr4 := hzr3.grown hgr4 (ne_up (p := w1.heap.size) (fun a h => (HBr.out a h).2) (fun a h => (HBg.out a h).1))
  have HB4 := Lib.hid (below_mark HB3.out hgr4 (fun a h => Nat.le_trans HB1.out.size (HBg.out a h).1))
  clear hzr3 HOg3 hown4 hgr4
  go_wp2_with fail
  refine (heldPairs_any _ _ _ _ (by omega) (by omega) (by omega) _ hzg4).mono ?_
  rintro e w' ⟨rfl, rfl⟩
  go_wp2_with fail
  refine (factorOf_any _ _).mono ?_
  rintro e w5 ⟨ah, nh, ch, rfl, hownh, hlh, hb5⟩
  obtain ⟨hzh, hnh, _⟩ := ints_of_pairs hownh
  have hzr5 := hzr4.below hb5 (Nat.le_refl _)
  have hzg5 := hzg4.below hb5 (Nat.le_refl _)
  have HNh := Lib.hid hnh
  have HB5 := Lib.hid (HB4.out.trans (hb5.mono HB4.out.size))
  clear hnh hb5 hownh hzr4 hzg4
  go_wp2_with fail
  refine (eqPairs_same _ _ _ _ _ _ (facRes a0) HNh.out HNr.out (by omega) _ hzh hzr5).mono ?_
  rintro e w6 ⟨rfl, hb6⟩
  have hzg6 := hzg5.below hb6 (Nat.le_refl _)
  have HB6 := Lib.hid (HB5.out.trans (hb6.mono HB5.out.size))
  clear hzr5 hzh hzg5 hb6
  go_wp2_with fail
  refine (heldPairs_any _ _ _ _ (by omega) (by omega) (by omega) _ hzg6).mono ?_
  rintro e w' ⟨rfl, rfl⟩
  go_wp2
  go_ret
  exact ⟨rfl, HB6.out⟩

/-! ### THE ROW's STEP: WRITTEN OUT: LEAVE IT -/
set_option maxRecDepth 100000 in
theorem lifted (os : Os) (started : os.Started) (H : Type) (enc : TypeId × Value → H) :
    ReturnsInHanded {} Try.checked os 11 .any (Rows.fnExactFactorOfSpec.pre6 enc Try.prog Try.f11 Rows.fnExactFactorOfRow.domain false) (Rows.fnExactFactorOfSpec.post enc Try.prog Try.f11 false true false false) := by
  refine returnsInHanded_of_change (C := Try.checked) own started (by kernel_rfl) Try.func11
    (ChangeSpec.witness6 (enc := enc) (C := Try.checked) false ⟨#[], #[.int .i64 0], []⟩ 8 (by kernel_rfl) (by kernel_rfl) (by kernel_rfl) (by kernel_rfl)) ?_
  intro W base args ds gs before hval0 hW hcnd _
  have hval : ∀ (j : Nat) t v, Try.f11.params[j]? = some t → args[j]? = some v → Value.okWide Try.prog W .any base t v := hval0
  have hW' := hW
  obtain ⟨p, q, hA0, hV, rfl, hfz, hnd⟩ := hW
  have hA : DataW.TrodAll enc Try.prog W 0 (fun _ => true) true Try.f11.params.toList args.toList ds p := hA0
  rw [Try.params11] at hA hval
  obtain ⟨v0, vs0, d0, ds0, p0, q0, hargs, rfl, rfl, h0, r0⟩ := trodAll_cons hA
  obtain ⟨rfl, rfl, rfl⟩ := trodAll_nil r0
  obtain rfl : args = #[v0] := by cases args; simp_all
  obtain ⟨rfl, rfl⟩ := trodVars_none hV
  obtain ⟨a0, rfl, rfl, rfl, w0⟩ := open_int Try.underlying3 (hval 0 3 v0 rfl rfl) h0
  clear hA0 hval0
  simp only [List.append_nil] at hW'
  refine (walk a0 w0 W).mono fun e W' ⟨he, hg⟩ => ?_
  subst he
  exact ⟨_, rfl, _, _, _, [], _, [], hW', (trodAll_cons_mk (shut_bool Try.underlying4 _) trodAll_mk0), (trodAll_cons_mk (shut_int Try.underlying3 w0) trodAll_mk0), rfl, hg.frame _, fun h => by cases h⟩

theorem over : Rows.fnExactFactorOfRow.holds Try.pinned (OpenSpec.ofChange Rows.fnExactFactorOfSpec) :=
  OpenClaim.holds_of_wide 11 Try.f11 rfl rfl rfl rfl rfl rfl rfl ⟨rfl, rfl, rfl, rfl, rfl⟩ rfl rfl rfl rfl rfl (by kernel_rfl) Try.func11 (by kernel_rfl)
    (of_decide_eq_true (by kernel_rfl)) (by unfold Func.isWrapper; first | (rw [if_pos (by decide +kernel)]; kernel_rfl) | (rw [if_neg (by decide +kernel)]; exact ⟨rfl, rfl⟩))
    (fun os started H enc _ => lifted os started H enc)

/-- ████ THE STATEMENT ████ -/
theorem proved : Rows.FnExactFactorOfSaid :=
  over
#print axioms proved
end Go.Proofs.Ytcfdokngchjopaa.fnExactFactorOf
