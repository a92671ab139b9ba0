/-
For every group, label and n the law FnExactDeriveElements returns true: the program's DeriveElements answers as the reference's does, and its answer owns its memory.
No condition.
-/
import Derived.Test.YtkpfmpndaenclaaRows
import Derived.WalkKit
import Derived.ProofKit
import Derived.OpenShut
import Derived.ShutString
import Derived.ChangeOld
import Derived.Below
import Derived.Lib.SmallJoins
import Derived.Test.YtkpfmpndaenclaaHshI
import Derived.Test.YtkpfmpndaenclaaFacts
namespace Go.Proofs.Ytkpfmpndaenclaa.fnExactDeriveElements
open Go.Joins Go.ChangeShapes Go.WideShapes Go.ChangeAt Go.RowKit Go.Deep
open Go.ChangeMaps (open_string shut_string)
set_option linter.unusedVariables false

theorem own : ownKnob Try.prog.godebug = none := by kernel_rfl
theorem laidOut : laidOutB Try.prog = true := by kernel_rfl

/-- What the walk is told of a slice of integers that came in: it is nil; or it leads to a row of 'cap' cells that hold the numbers 'zs'. -/
def IsRow (k : IntKind) (w : World) (a : Option Addr) (len cap : Nat) (zs : List Int) : Prop :=
  (a = none ∧ len = 0 ∧ cap = 0 ∧ zs = []) ∨
  ∃ x, a = some x ∧ len ≤ cap ∧ cap ≤ maxLen ∧ zs.length = cap ∧ (∀ i, i < zs.length → w.cell? (x.add i) = some (.int k (zs.getD i 0))) ∧ ∀ n ∈ zs, (Lit.int k n).wf = true



/-! ### STEP 1: the walk: the Go text returns true and writes nothing that was there -/
theorem walk (P0 Q0 G0 : Int) (a1 : ByteArray) (a2 : Int) (w : World) (wP0 : (Lit.int .i64 P0).wf = true) (wQ0 : (Lit.int .i64 Q0).wf = true) (wG0 : (Lit.int .i64 G0).wf = true) (w1 : a1.size ≤ maxLen) (w2 : (Lit.int .i64 a2).wf = true) :
    Calls Try.prog 11 #[.agg #[.int .i64 P0, .int .i64 Q0, .int .i64 G0], .string a1, .int .i64 a2] w fun e w' => e = .returned (.bool true) ∧ Below w.heap.size w w' := by
  have H0 := Lib.hid (gr_new w P0 Q0 G0 54)
  by_cases hsb : 1048576 < a1.size
  · have hsi : (1048576 : Int) < (a1.size : Int) := by omega
    unfold maxLen at w1
    go_enter Try.func11, Try.ntmps11
    go_wp2
    go_ret
    exact ⟨rfl, ba _ _⟩
  have hsi : (a1.size : Int) ≤ 1048576 := by omega
  have hs : a1.size ≤ 1048576 := by omega
  clear w1 hsb
  generalize hR : dsV P0 Q0 G0 a1 a2 = res
  have hRl : res.length ≤ 2000 := by rw [← hR]; exact Nat.le_trans dsV_length (by decide)
  have HRes := Lib.hid hR
  have HL := Lib.hid hRl
  clear hR hRl
  go_enter Try.func11, Try.ntmps11
  -- w0 := the reference
  go_wp2_with fail
  refine (toGroup_any _ _ _ _).mono ?_
  rintro e w1 ⟨rfl, hb1⟩
  have HB1 := Lib.hid (bt (ba _ _) hb1)
  have H1 := Lib.hid (H0.out.below hb1)
  clear hb1
  go_wp2_with fail
  refine (sDeriveElements_any P0 Q0 G0 a1 hs a2 _).mono ?_
  rw [HRes.out]
  rintro e w2 ⟨ar, nr, cr, rfl, hownr, hb2⟩
  obtain ⟨hzr, hnr, hbr⟩ := ints_of_own_any hownr
  have HNr := Lib.hid hnr
  have HBr := Lib.hid hbr
  have HB2 := Lib.hid (bt HB1.out hb2)
  have H2 := Lib.hid (H1.out.below hb2)
  obtain ⟨c0, c1, c2⟩ := H2.out
  clear hnr hownr hb2 hbr
  -- g0 := the program
  go_wp2_with fail
  refine (toGroup_any _ _ _ _).mono ?_
  rintro e w3 ⟨rfl, hb3⟩
  have hzr3 := hzr.below hb3 (Nat.le_refl _)
  have HS3 := Lib.hid hb3.size
  have HB3 := Lib.hid (bt HB2.out hb3)
  have H3 := Lib.hid (H2.out.below hb3)
  clear hb3 hzr c0 c1 c2
  go_wp2_with fail
  refine (deriveElements_any P0 Q0 G0 a1 hs a2 _).mono ?_
  rw [HRes.out]
  rintro e w4 ⟨ag, ng, cg, rfl, howng, hb4⟩
  obtain ⟨hzg, hng, hbg⟩ := ints_of_own_any howng
  have hzr4 := hzr3.below hb4 (Nat.le_refl _)
  have HNg := Lib.hid hng
  have HBg := Lib.hid hbg
  have HOg := Lib.hid howng
  have HB4 := Lib.hid (bt HB3.out hb4)
  have H4 := Lib.hid (H3.out.below hb4)
  clear hng hbg howng hb4 hzr3
  -- g0 is w0
  go_wp2_with fail
  refine (eqIntS_same _ _ _ _ _ _ res HNg.out HNr.out (by have := HL.out; have := HNg.out; omega) _ hzg hzr4).mono ?_
  rintro e w5 ⟨rfl, hb5⟩
  have hzr5 := hzr4.below hb5 (Nat.le_refl _)
  have HOg5 := Lib.hid (own_below HOg.out hb5)
  have HB5 := Lib.hid (bt HB4.out hb5)
  have H5 := Lib.hid (H4.out.below hb5)
  clear hzg hzr4 HOg hb5
  -- marks in the answer
  go_wp2_with fail
  refine (markIntS_any _ _ _ _ res _ (by omega) (by omega) (by have := HL.out; have := HNg.out; omega) _ HOg5.out).mono ?_
  rintro e w6 ⟨rfl, hown6, hgr6⟩
  obtain ⟨hzg6, _, _⟩ := ints_of_own_any hown6
  have hzr6 := hzr5.grown hgr6 (ne_up (p := w3.heap.size) (fun a h => Nat.lt_of_lt_of_le (HBr.out a h).2 HS3.out) (fun a h => (HBg.out a h).1))
  have HB6 := Lib.hid (below_mark HB5.out hgr6 (fun a h => Nat.le_trans HB3.out.size (HBg.out a h).1))
  have H6 := Lib.hid (show GR w6 w.heap.size P0 Q0 G0 from by
    obtain ⟨x0, x1, x2⟩ := H5.out
    have hne : some w.heap.size ≠ (Value.slice ag ng cg).ownBlock := by
      cases ag with
      | none => simp [Value.ownBlock]
      | some b =>
        have h1 := (HBg.out b rfl).1
        have h2 := H3.out.lt
        simp only [Value.ownBlock, ne_eq, Option.some.injEq]
        omega
    exact ⟨hgr6.cell (a := ⟨w.heap.size, 0, none⟩) x0 hne, hgr6.cell (a := ⟨w.heap.size, 1, none⟩) x1 hne, hgr6.cell (a := ⟨w.heap.size, 2, none⟩) x2 hne⟩)
  clear hzr5 HOg5 hown6 hgr6
  go_wp2_with fail
  refine (heldIntS_any _ _ _ _ (by omega) (by omega) (by have := HL.out; have := HNg.out; omega) _ hzg6).mono ?_
  rintro e w' ⟨rfl, rfl⟩
  have hngi : (ng : Int) ≤ 2000 := by have := HL.out; have := HNg.out; omega
  obtain ⟨d0, d1, d2⟩ := H6.out
  -- a second answer
  go_wp2_with fail
  refine (toGroup_any _ _ _ _).mono ?_
  rintro e w7 ⟨rfl, hb7⟩
  have hzg7 := hzg6.below hb7 (Nat.le_refl _)
  have hzr7 := hzr6.below hb7 (Nat.le_refl _)
  have HB7 := Lib.hid (bt HB6.out hb7)
  clear hb7 d0 d1 d2 hzg6 hzr6
  go_wp2_with fail
  refine (deriveElements_any P0 Q0 G0 a1 hs a2 _).mono ?_
  rw [HRes.out]
  rintro e w8 ⟨ah, nh, ch, rfl, hownh, hb8⟩
  obtain ⟨hzh, hnh, _⟩ := ints_of_own_any hownh
  have hzg8 := hzg7.below hb8 (Nat.le_refl _)
  have hzr8 := hzr7.below hb8 (Nat.le_refl _)
  have HNh := Lib.hid hnh
  have HB8 := Lib.hid (bt HB7.out hb8)
  clear hzg7 hzr7 hb8 hnh hownh
  go_wp2_with fail
  refine (eqIntS_same _ _ _ _ _ _ res HNh.out HNr.out (by have := HL.out; have := HNh.out; omega) _ hzh hzr8).mono ?_
  rintro e w9 ⟨rfl, hb9⟩
  have hzg9 := hzg8.below hb9 (Nat.le_refl _)
  have HB9 := Lib.hid (bt HB8.out hb9)
  clear hzg8 hzr8 hzh hb9
  go_wp2_with fail
  refine (heldIntS_any _ _ _ _ (by omega) (by omega) (by omega) _ hzg9).mono ?_
  rintro e w' ⟨rfl, rfl⟩
  go_wp2
  go_ret
  exact ⟨rfl, HB9.out⟩

/-! ### The row's step -/
set_option maxRecDepth 100000 in
theorem lifted (os : Os) (started : os.Started) (H : Type) (enc : TypeId × Value → H) :
    ReturnsInHanded {} Try.checked os 11 .any (Rows.fnExactDeriveElementsSpec.pre6 enc Try.prog Try.f11 Rows.fnExactDeriveElementsRow.domain false) (Rows.fnExactDeriveElementsSpec.post enc Try.prog Try.f11 false true false false) := by
  refine returnsInHanded_of_change (C := Try.checked) own started (by kernel_rfl) Try.func11
    (ChangeSpec.witness6 (enc := enc) (C := Try.checked) false ⟨#[], #[.agg #[.int .i64 0, .int .i64 0, .int .i64 0], .string ByteArray.empty, .int .i64 0], []⟩ 8 (by kernel_rfl) (by kernel_rfl) (by kernel_rfl) (by kernel_rfl)) ?_
  intro W base args ds gs before hval0 hW hcnd _
  have hval : ∀ (j : Nat) t v, Try.f11.params[j]? = some t → args[j]? = some v → Value.okWide Try.prog W .any base t v := hval0
  have hW' := hW
  obtain ⟨p, q, hA0, hV, rfl, hfz, hnd⟩ := hW
  have hA : DataW.TrodAll enc Try.prog W 0 (fun _ => true) true Try.f11.params.toList args.toList ds p := hA0
  rw [Try.params11] at hA hval
  obtain ⟨v0, vs0, d0, ds0, p0, q0, hargs, rfl, rfl, h0, r0⟩ := trodAll_cons hA
  obtain ⟨v1, vs1, d1, ds1, p1, q1, rfl, rfl, rfl, h1, r1⟩ := trodAll_cons r0
  obtain ⟨v2, vs2, d2, ds2, p2, q2, rfl, rfl, rfl, h2, r2⟩ := trodAll_cons r1
  obtain ⟨rfl, rfl, rfl⟩ := trodAll_nil r2
  obtain rfl : args = #[v0, v1, v2] := by cases args; simp_all
  obtain ⟨rfl, rfl⟩ := trodVars_none hV
  have k0 := h0
  have lt0 : ∀ x ∈ p0, x.block < W.heap.size := by obtain ⟨m, hm⟩ := k0; exact DataW.trod_lt m _ _ _ hm
  obtain ⟨c0_0, c0_1, c0_2, y0_0, y0_1, y0_2, m0, rfl, rfl, rfl, hy0_0, hy0_1, hy0_2⟩ := open_agg3 Try.underlying54 (by kernel_rfl) (by kernel_rfl) (hval 0 54 v0 rfl rfl) h0
  obtain ⟨P0, e0_0, _, wP0⟩ := DataW.trod_int Try.underlying3 hy0_0
  obtain rfl := (List.cons.inj e0_0).1
  obtain ⟨Q0, e0_1, _, wQ0⟩ := DataW.trod_int Try.underlying3 hy0_1
  obtain rfl := (List.cons.inj e0_1).1
  obtain ⟨G0, e0_2, _, wG0⟩ := DataW.trod_int Try.underlying3 hy0_2
  obtain rfl := (List.cons.inj e0_2).1
  obtain ⟨a1, rfl, rfl, rfl, w1⟩ := open_string Try.underlying9 (hval 1 9 v1 rfl rfl) h1
  obtain ⟨a2, rfl, rfl, rfl, w2⟩ := open_int Try.underlying3 (hval 2 3 v2 rfl rfl) h2
  clear hA0 hval0
  refine (walk P0 Q0 G0 a1 a2 W wP0 wQ0 wG0 w1 w2).mono fun e W' ⟨he, bel⟩ => ?_
  subst he
  exact ⟨_, rfl, _, _, _, [], _, [], hW', trodAll_mk1 (shut_bool Try.underlying4 _), (trodAll_cons_mk (Below.trod laidOut (by kernel_rfl) (of_decide_eq_true (by kernel_rfl)) k0 bel lt0) (trodAll_cons_mk (shut_string Try.underlying9 w1) (trodAll_cons_mk (shut_int Try.underlying3 w2) trodAll_mk0))), rfl, bel.frame _, fun h => by cases h⟩

theorem over : Rows.fnExactDeriveElementsRow.holds Try.pinned (OpenSpec.ofChange Rows.fnExactDeriveElementsSpec) :=
  OpenClaim.holds_of_wide 11 Try.f11 rfl rfl rfl rfl rfl rfl rfl ⟨rfl, rfl, rfl, rfl, rfl⟩ rfl rfl rfl rfl rfl (by kernel_rfl) Try.func11
    (show joinedFacts Try.prog 11 Try.f11 Rows.fnExactDeriveElementsSpec Rows.fnExactDeriveElementsRow = true by unfold joinedFacts; rw [Head.make, Head.lifts, Head.enters]; kernel_rfl)
    (of_decide_eq_true (by kernel_rfl)) (by unfold Func.isWrapper; first | (rw [if_pos (by decide +kernel)]; kernel_rfl) | (rw [if_neg (by decide +kernel)]; exact ⟨rfl, rfl⟩))
    (fun os started H enc _ => lifted os started H enc)

/-- The statement. -/
theorem proved : Rows.FnExactDeriveElementsSaid := over
#print axioms proved
end Go.Proofs.Ytkpfmpndaenclaa.fnExactDeriveElements
