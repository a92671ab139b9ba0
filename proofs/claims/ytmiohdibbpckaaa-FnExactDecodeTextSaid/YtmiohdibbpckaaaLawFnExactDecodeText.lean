/-
For every list the law FnExactDecodeText returns true: the program's DecodeText answers as the reference's does, and leaves its argument as it was.
No condition.
-/
import Derived.Test.YtmiohdibbpckaaaRows
import Derived.WalkKit
import Derived.ProofKit
import Derived.OpenShut
import Derived.ShutString
import Derived.ChangeOld
import Derived.Below
import Derived.Test.YtmiohdibbpckaaaRecF
import Derived.Test.YtmiohdibbpckaaaFacts
namespace Go.Proofs.Ytmiohdibbpckaaa.fnExactDecodeText
open Go.ChangeShapes Go.WideShapes Go.ChangeAt Go.RowKit
open Go.ChangeMaps (open_string shut_string)
set_option linter.unusedVariables false

theorem own : ownKnob Try.prog.godebug = none := by kernel_rfl
theorem laidOut : laidOutB Try.prog = true := by kernel_rfl

/-- WHAT THE WALK IS TOLD OF A SLICE OF INTEGERS THAT CAME IN: it is nil; or it leads to a row of 'cap' cells, the numbers 'zs' (the first 'len' are its elements, the rest its spare room), each fitting its kind. -/
def IsRow (k : IntKind) (w : World) (a : Option Addr) (len cap : Nat) (zs : List Int) : Prop :=
  (a = none ∧ len = 0 ∧ cap = 0 ∧ zs = []) ∨
  ∃ x, a = some x ∧ len ≤ cap ∧ cap ≤ maxLen ∧ zs.length = cap ∧ (∀ i, i < zs.length → w.cell? (x.add i) = some (.int k (zs.getD i 0))) ∧ ∀ n ∈ zs, (Lit.int k n).wf = true



/-! ### STEP 1: THE WALK: the Go text returns true, AND WRITES NOTHING THAT WAS THERE: 'Below w.heap.size w w'' (Derived/Below.lean: '.refl', '.alloc', '.drew', '.setCell' at a new block, '.trans'). Open each 'IsRow' by 'rcases' AHEAD of 'go_enter'; part every test ahead of the walk. -/
theorem walk (a0 : Option Addr) (len0 cap0 : Nat) (z0 : List Int) (w : World) (w0 : IsRow .i64 w a0 len0 cap0 z0) :
    Calls Try.prog 8 #[.slice a0 len0 cap0] w fun e w' => e = .returned (.bool true) ∧ Below w.heap.size w w' := by
  obtain ⟨hz, hn, hm⟩ := inI_of_row w0
  generalize z0.take len0 = zs at hz hn
  clear w0
  by_cases hbig : 1048576 < len0
  · have hbi : (1048576 : Int) < (len0 : Int) := by omega
    unfold maxLen at hm
    go_enter Try.func8, Try.ntmps8
    go_wp2
    go_ret
    exact ⟨rfl, Below.refl _ _⟩
  have hbi : (len0 : Int) ≤ 1048576 := by omega
  have hzl : zs.length ≤ 1048576 := by omega
  have Ha_0 := Lib.hid hz
  clear hz hn hm hbig
  go_enter Try.func8, Try.ntmps8
  go_wp2_with fail
  refine (toI_any Ha_0.out (by omega)).mono ?_
  rintro e v1 ⟨ua, rfl, ho, hb⟩
  have Ha_1 := Lib.hid (Ha_0.out.below hb)
  have HB_1 := Lib.hid (hb)
  have HCa_1 := Lib.hid ho.toIn
  clear hb Ha_0
  clear ho
  go_wp2_with fail
  refine (sDecodeText_any HCa_1.out (by omega)).mono ?_
  rintro e v2 ⟨rfl, hb⟩
  have Ha_2 := Lib.hid (Ha_1.out.below hb)
  have HB_2 := Lib.hid (bt HB_1.out hb)
  clear hb Ha_1 HB_1
  go_wp2_with fail
  refine (toI_any Ha_2.out (by omega)).mono ?_
  rintro e v3 ⟨xa, rfl, ho, hb⟩
  have LBa := Lib.hid HB_2.out.size
  have Ha_3 := Lib.hid (Ha_2.out.below hb)
  have HB_3 := Lib.hid (bt HB_2.out hb)
  have HXa_3 := Lib.hid ho
  clear hb Ha_2 HB_2
  clear ho
  go_wp2_with fail
  refine (decodeText_any HXa_3.out.toIn (by omega)).mono ?_
  rintro e v4 ⟨rfl, hb⟩
  have Ha_4 := Lib.hid (Ha_3.out.below hb)
  have HXa_4 := Lib.hid (HXa_3.out.below hb)
  have HB_4 := Lib.hid (bt HB_3.out hb)
  clear hb Ha_3 HXa_3 HB_3
  go_wp2_with fail
  refine (toI_any Ha_4.out (by omega)).mono ?_
  rintro e v5 ⟨ua, rfl, ho, hb⟩
  have Ha_5 := Lib.hid (Ha_4.out.below hb)
  have HXa_5 := Lib.hid (HXa_4.out.below hb)
  have HB_5 := Lib.hid (bt HB_4.out hb)
  have HC_5 := Lib.hid ho.toIn
  clear hb Ha_4 HXa_4 HB_4
  clear ho
  go_wp2_with fail
  refine (eqI_any HXa_5.out.toIn HC_5.out (by omega)).mono ?_
  rintro e v6 ⟨rfl, hb⟩
  have Ha_6 := Lib.hid (Ha_5.out.below hb)
  have HXa_6 := Lib.hid (HXa_5.out.below hb)
  have HB_6 := Lib.hid (bt HB_5.out hb)
  clear hb Ha_5 HXa_5 HB_5
  clear HC_5
  go_wp2
  go_ret
  exact ⟨rfl, HB_6.out⟩

/-! ### THE ROW's STEP: WRITTEN OUT: LEAVE IT -/
set_option maxRecDepth 100000 in
theorem lifted (os : Os) (started : os.Started) (H : Type) (enc : TypeId × Value → H) :
    ReturnsInHanded {} Try.checked os 8 .any (Rows.fnExactDecodeTextSpec.pre6 enc Try.prog Try.f8 Rows.fnExactDecodeTextRow.domain false) (Rows.fnExactDecodeTextSpec.post enc Try.prog Try.f8 false true false false) := by
  refine returnsInHanded_of_change (C := Try.checked) own started (by kernel_rfl) Try.func8
    (ChangeSpec.witness6 (enc := enc) (C := Try.checked) false ⟨#[], #[.slice none 0 0], []⟩ 8 (by kernel_rfl) (by kernel_rfl) (by kernel_rfl) (by kernel_rfl)) ?_
  intro W base args ds gs before hval0 hW hcnd _
  have hval : ∀ (j : Nat) t v, Try.f8.params[j]? = some t → args[j]? = some v → Value.okWide Try.prog W .any base t v := hval0
  have hW' := hW
  obtain ⟨p, q, hA0, hV, rfl, hfz, hnd⟩ := hW
  have hA : DataW.TrodAll enc Try.prog W 0 (fun _ => true) true Try.f8.params.toList args.toList ds p := hA0
  rw [Try.params8] at hA hval
  obtain ⟨v0, vs0, d0, ds0, p0, q0, hargs, rfl, rfl, h0, r0⟩ := trodAll_cons hA
  obtain ⟨rfl, rfl, rfl⟩ := trodAll_nil r0
  obtain rfl : args = #[v0] := by cases args; simp_all
  obtain ⟨rfl, rfl⟩ := trodVars_none hV
  obtain ⟨a0, len0, cap0, rfl⟩ := okWide_slice Try.underlying22 (hval 0 22 v0 rfl rfl)
  have k0 := h0
  have lt0 : ∀ x ∈ p0, x.block < W.heap.size := by obtain ⟨m, hm⟩ := k0; exact DataW.trod_lt m _ _ _ hm
  obtain ⟨z0, w0⟩ : ∃ zs, IsRow .i64 W a0 len0 cap0 zs := by
    obtain ⟨fuel, hf⟩ := h0
    rcases open_ints Try.underlying22 Try.underlying3 (by kernel_rfl) hf with ⟨hcs, _⟩ | ⟨x, l, c, zs, hcs, _, hl, hm, hz, _, hcell, hwz⟩
    · simp [Value.cells] at hcs
      obtain ⟨rfl, rfl, rfl⟩ := hcs
      exact ⟨[], .inl ⟨rfl, rfl, rfl, rfl⟩⟩
    · simp [Value.cells] at hcs
      obtain ⟨rfl, rfl, rfl⟩ := hcs
      exact ⟨zs, .inr ⟨_, rfl, hl, hm, by simpa using hz, hcell, hwz⟩⟩
  clear hA0 hval0
  refine (walk a0 len0 cap0 z0 W w0).mono fun e W' ⟨he, bel⟩ => ?_
  subst he
  exact ⟨_, rfl, _, _, _, [], _, [], hW', trodAll_mk1 (shut_bool Try.underlying4 _), (trodAll_cons_mk (Below.trod laidOut (by kernel_rfl) (of_decide_eq_true (by kernel_rfl)) k0 bel lt0) trodAll_mk0), rfl, bel.frame _, fun h => by cases h⟩

theorem over : Rows.fnExactDecodeTextRow.holds Try.pinned (OpenSpec.ofChange Rows.fnExactDecodeTextSpec) :=
  OpenClaim.holds_of_wide 8 Try.f8 rfl rfl rfl rfl rfl rfl rfl ⟨rfl, rfl, rfl, rfl, rfl⟩ rfl rfl rfl rfl rfl (by kernel_rfl) Try.func8
    (show joinedFacts Try.prog 8 Try.f8 Rows.fnExactDecodeTextSpec Rows.fnExactDecodeTextRow = true by unfold joinedFacts; rw [Head.make, Head.lifts, Head.enters]; kernel_rfl)
    (of_decide_eq_true (by kernel_rfl)) (by unfold Func.isWrapper; first | (rw [if_pos (by decide +kernel)]; kernel_rfl) | (rw [if_neg (by decide +kernel)]; exact ⟨rfl, rfl⟩))
    (fun os started H enc _ => lifted os started H enc)

/-- ████ THE STATEMENT ████ -/
theorem proved : Rows.FnExactDecodeTextSaid := over
#print axioms proved
end Go.Proofs.Ytmiohdibbpckaaa.fnExactDecodeText
