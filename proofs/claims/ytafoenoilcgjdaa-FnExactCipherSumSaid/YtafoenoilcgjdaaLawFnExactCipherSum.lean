/-
For every group and every further argument the law FnExactCipherSum returns true: the program's CipherSum answers as the reference's does, and leaves its arguments as they were.
No condition.
-/
import Derived.Test.YtafoenoilcgjdaaRows
import Derived.WalkKit
import Derived.ProofKit
import Derived.OpenShut
import Derived.ShutString
import Derived.ChangeOld
import Derived.Below
import Derived.Lib.SmallJoins
import Derived.Test.YtafoenoilcgjdaaElP
import Derived.Test.YtafoenoilcgjdaaFacts
namespace Go.Proofs.Ytafoenoilcgjdaa.fnExactCipherSum
open Go.Joins Go.ChangeShapes Go.WideShapes Go.ChangeAt Go.RowKit Go.Deep
open Go.ChangeMaps (open_string shut_string)
set_option linter.unusedVariables false

theorem own : ownKnob Try.prog.godebug = none := by kernel_rfl
theorem laidOut : laidOutB Try.prog = true := by kernel_rfl

/-- What the walk is told of a slice of integers that came in: it is nil; or it leads to a row of 'cap' cells that hold the numbers 'zs'. -/
def IsRow (k : IntKind) (w : World) (a : Option Addr) (len cap : Nat) (zs : List Int) : Prop :=
  (a = none ∧ len = 0 ∧ cap = 0 ∧ zs = []) ∨
  ∃ x, a = some x ∧ len ≤ cap ∧ cap ≤ maxLen ∧ zs.length = cap ∧ (∀ i, i < zs.length → w.cell? (x.add i) = some (.int k (zs.getD i 0))) ∧ ∀ n ∈ zs, (Lit.int k n).wf = true



/-! ### STEP 1: the walk: the Go text returns true and writes nothing that was there -/
theorem walk (P0 Q0 G0 : Int) (a1 : Value) (w : World) (wP0 : (Lit.int .i64 P0).wf = true) (wQ0 : (Lit.int .i64 Q0).wf = true) (wG0 : (Lit.int .i64 G0).wf = true) (w1 : ∃ zs, InC w.heap.size w a1 zs ∧ zs.length ≤ 2 * maxLen) :
    Calls Try.prog 10 #[.agg #[.int .i64 P0, .int .i64 Q0, .int .i64 G0], a1] w fun e w' => e = .returned (.bool true) ∧ Below w.heap.size w w' := by
  obtain ⟨zs, hz, hm⟩ := w1
  by_cases hbig : 1048576 < zs.length / 2
  · have e1 : szV (zs.length / 2) 1048576 = -1 := by unfold szV; rw [if_neg (by omega)]
    have E1 := Lib.hid e1
    clear e1
    go_enter Try.func10, Try.ntmps10
    go_wp2_with fail
    refine (szC_any (hz.below (ba w (.cells #[.int .i64 P0, .int .i64 Q0, .int .i64 G0] 23))) (by omega) (by omega) hm).mono ?_
    rw [E1.out]
    rintro e w' ⟨rfl, rfl⟩
    go_wp2
    go_ret
    exact ⟨rfl, ba _ _⟩
  have e1 : szV (zs.length / 2) 1048576 = 1048576 - ((zs.length / 2 : Nat) : Int) := by unfold szV; rw [if_pos (by omega)]
  have E1 := Lib.hid e1
  have hzl : zs.length ≤ 2097153 := by omega
  clear e1
  have Ha := hz
  have HR_0 := Lib.hid (gr_new w P0 Q0 G0 23)
  have HB_0 := Lib.hid (ba w (.cells #[.int .i64 P0, .int .i64 Q0, .int .i64 G0] 23))
  have Ha_0 := Lib.hid (Ha.below (ba w (.cells #[.int .i64 P0, .int .i64 Q0, .int .i64 G0] 23)))
  clear Ha hz
  go_enter Try.func10, Try.ntmps10
  go_wp2_with fail
  refine (szC_any Ha_0.out (by omega) (by omega) hm).mono ?_
  rw [E1.out]
  rintro e w' ⟨rfl, rfl⟩
  obtain ⟨g0, g1, g2⟩ := HR_0.out
  go_wp2_with fail
  refine (toGroup_any _ _ _ _).mono ?_
  rintro e v1 ⟨rfl, hb⟩
  have HR_1 := Lib.hid (HR_0.out.below hb)
  have Ha_1 := Lib.hid (Ha_0.out.below hb)
  have HB_1 := Lib.hid (bt HB_0.out hb)
  clear HR_0 Ha_0 HB_0
  clear hb
  clear g0 g1 g2
  go_wp2_with fail
  refine (toC_any Ha_1.out (by omega)).mono ?_
  rintro e v2 ⟨ua, rfl, ho, hb⟩
  have HR_2 := Lib.hid (HR_1.out.below hb)
  have Ha_2 := Lib.hid (Ha_1.out.below hb)
  have HB_2 := Lib.hid (bt HB_1.out hb)
  clear HR_1 Ha_1 HB_1
  clear hb
  have HCa_2 := Lib.hid (ho.toIn)
  clear ho
  go_wp2_with fail
  refine (sCipherSum_in P0 Q0 G0 HCa_2.out (by omega)).mono ?_
  rintro e v3 ⟨rfl, hb⟩
  have HR_3 := Lib.hid (HR_2.out.below hb)
  have Ha_3 := Lib.hid (Ha_2.out.below hb)
  have HCa_3 := Lib.hid (HCa_2.out.below hb)
  have HB_3 := Lib.hid (bt HB_2.out hb)
  clear HR_2 Ha_2 HCa_2 HB_2
  clear hb
  have hal := ba v3 (.cells #[.int .i64 (suA P0 Q0 G0 zs), .int .i64 (suM P0 Q0 G0 zs)] 61)
  have HR_4 := Lib.hid (HR_3.out.below hal)
  have Ha_4 := Lib.hid (Ha_3.out.below hal)
  have HB_4 := Lib.hid (bt HB_3.out hal)
  clear HR_3 Ha_3 HB_3
  have HW_4 := Lib.hid (c2_new v3 (suA P0 Q0 G0 zs) (suM P0 Q0 G0 zs) 61)
  clear hal
  go_wp2_with fail
  refine (toC_any Ha_4.out (by omega)).mono ?_
  rintro e v5 ⟨xa, rfl, ho, hb⟩
  have HR_5 := Lib.hid (HR_4.out.below hb)
  have Ha_5 := Lib.hid (Ha_4.out.below hb)
  have HW_5 := Lib.hid (HW_4.out.below hb)
  have HB_5 := Lib.hid (bt HB_4.out hb)
  clear HR_4 Ha_4 HW_4 HB_4
  clear hb
  have HXa_5 := Lib.hid (ho.toIn)
  clear ho
  obtain ⟨g0, g1, g2⟩ := HR_5.out
  go_wp2_with fail
  refine (toGroup_any _ _ _ _).mono ?_
  rintro e v6 ⟨rfl, hb⟩
  have HR_6 := Lib.hid (HR_5.out.below hb)
  have Ha_6 := Lib.hid (Ha_5.out.below hb)
  have HW_6 := Lib.hid (HW_5.out.below hb)
  have HXa_6 := Lib.hid (HXa_5.out.below hb)
  have HB_6 := Lib.hid (bt HB_5.out hb)
  clear HR_5 Ha_5 HW_5 HXa_5 HB_5
  clear hb
  clear g0 g1 g2
  go_wp2_with fail
  refine (iCipherSum_in P0 Q0 G0 HXa_6.out (by omega)).mono ?_
  rintro e v7 ⟨rfl, hb⟩
  have HR_7 := Lib.hid (HR_6.out.below hb)
  have Ha_7 := Lib.hid (Ha_6.out.below hb)
  have HW_7 := Lib.hid (HW_6.out.below hb)
  have HXa_7 := Lib.hid (HXa_6.out.below hb)
  have HB_7 := Lib.hid (bt HB_6.out hb)
  clear HR_6 Ha_6 HW_6 HXa_6 HB_6
  clear hb
  have hal := ba v7 (.cells #[.int .i64 (suA P0 Q0 G0 zs), .int .i64 (suM P0 Q0 G0 zs)] 61)
  have HR_8 := Lib.hid (HR_7.out.below hal)
  have Ha_8 := Lib.hid (Ha_7.out.below hal)
  have HW_8 := Lib.hid (HW_7.out.below hal)
  have HXa_8 := Lib.hid (HXa_7.out.below hal)
  have HB_8 := Lib.hid (bt HB_7.out hal)
  clear HR_7 Ha_7 HW_7 HXa_7 HB_7
  have HG_8 := Lib.hid (c2_new v7 (suA P0 Q0 G0 zs) (suM P0 Q0 G0 zs) 61)
  clear hal
  obtain ⟨c0, c1, _⟩ := HW_8.out
  obtain ⟨d0, d1, _⟩ := HG_8.out
  go_wp2_with fail
  refine (eqCip_same _ _ _).mono ?_
  rintro e v9 ⟨rfl, q1, q2, rfl⟩
  clear c0 c1 d0 d1
  have HR_9 := Lib.hid (HR_8.out.below (bt (ba _ (.cells q1 61)) (ba _ (.cells q2 61))))
  have Ha_9 := Lib.hid (Ha_8.out.below (bt (ba _ (.cells q1 61)) (ba _ (.cells q2 61))))
  have HXa_9 := Lib.hid (HXa_8.out.below (bt (ba _ (.cells q1 61)) (ba _ (.cells q2 61))))
  have HB_9 := Lib.hid (bt (bt HB_8.out (ba _ (.cells q1 61))) (ba _ (.cells q2 61)))
  clear HR_8 Ha_8 HXa_8 HB_8
  go_wp2_with fail
  refine (toC_any Ha_9.out (by omega)).mono ?_
  rintro e v10 ⟨ua, rfl, ho, hb⟩
  have HR_10 := Lib.hid (HR_9.out.below hb)
  have Ha_10 := Lib.hid (Ha_9.out.below hb)
  have HXa_10 := Lib.hid (HXa_9.out.below hb)
  have HB_10 := Lib.hid (bt HB_9.out hb)
  clear HR_9 Ha_9 HXa_9 HB_9
  clear hb
  have HC_10 := Lib.hid (ho.toIn)
  clear ho
  go_wp2_with fail
  refine (eqC_any HXa_10.out HC_10.out (by omega)).mono ?_
  rintro e v11 ⟨rfl, hb⟩
  have HR_11 := Lib.hid (HR_10.out.below hb)
  have Ha_11 := Lib.hid (Ha_10.out.below hb)
  have HXa_11 := Lib.hid (HXa_10.out.below hb)
  have HC_11 := Lib.hid (HC_10.out.below hb)
  have HB_11 := Lib.hid (bt HB_10.out hb)
  clear HR_10 Ha_10 HXa_10 HC_10 HB_10
  clear hb
  go_wp2
  go_ret
  exact ⟨rfl, HB_11.out⟩

/-! ### The row's step -/
set_option maxRecDepth 100000 in
theorem lifted (os : Os) (started : os.Started) (H : Type) (enc : TypeId × Value → H) :
    ReturnsInHanded {} Try.checked os 10 .any (Rows.fnExactCipherSumSpec.pre6 enc Try.prog Try.f10 Rows.fnExactCipherSumRow.domain false) (Rows.fnExactCipherSumSpec.post enc Try.prog Try.f10 false true false false) := by
  refine returnsInHanded_of_change (C := Try.checked) own started (by kernel_rfl) Try.func10
    (ChangeSpec.witness6 (enc := enc) (C := Try.checked) false ⟨#[], #[.agg #[.int .i64 0, .int .i64 0, .int .i64 0], .slice none 0 0], []⟩ 8 (by kernel_rfl) (by kernel_rfl) (by kernel_rfl) (by kernel_rfl)) ?_
  intro W base args ds gs before hval0 hW hcnd _
  have hval : ∀ (j : Nat) t v, Try.f10.params[j]? = some t → args[j]? = some v → Value.okWide Try.prog W .any base t v := hval0
  have hW' := hW
  obtain ⟨p, q, hA0, hV, rfl, hfz, hnd⟩ := hW
  have hA : DataW.TrodAll enc Try.prog W 0 (fun _ => true) true Try.f10.params.toList args.toList ds p := hA0
  rw [Try.params10] at hA hval
  obtain ⟨v0, vs0, d0, ds0, p0, q0, hargs, rfl, rfl, h0, r0⟩ := trodAll_cons hA
  obtain ⟨v1, vs1, d1, ds1, p1, q1, rfl, rfl, rfl, h1, r1⟩ := trodAll_cons r0
  obtain ⟨rfl, rfl, rfl⟩ := trodAll_nil r1
  obtain rfl : args = #[v0, v1] := by cases args; simp_all
  obtain ⟨rfl, rfl⟩ := trodVars_none hV
  have k0 := h0
  have lt0 : ∀ x ∈ p0, x.block < W.heap.size := by obtain ⟨m, hm⟩ := k0; exact DataW.trod_lt m _ _ _ hm
  obtain ⟨c0_0, c0_1, c0_2, y0_0, y0_1, y0_2, m0, rfl, rfl, rfl, hy0_0, hy0_1, hy0_2⟩ := open_agg3 Try.underlying23 (by kernel_rfl) (by kernel_rfl) (hval 0 23 v0 rfl rfl) h0
  obtain ⟨P0, e0_0, _, wP0⟩ := DataW.trod_int Try.underlying3 hy0_0
  obtain rfl := (List.cons.inj e0_0).1
  obtain ⟨Q0, e0_1, _, wQ0⟩ := DataW.trod_int Try.underlying3 hy0_1
  obtain rfl := (List.cons.inj e0_1).1
  obtain ⟨G0, e0_2, _, wG0⟩ := DataW.trod_int Try.underlying3 hy0_2
  obtain rfl := (List.cons.inj e0_2).1
  have k1 := h1
  have lt1 : ∀ x ∈ p1, x.block < W.heap.size := by obtain ⟨m, hm⟩ := k1; exact DataW.trod_lt m _ _ _ hm
  obtain ⟨a1, len1, cap1, rfl⟩ := okWide_slice Try.underlying50 (hval 1 50 v1 rfl rfl)
  have w1 := (fun ⟨fuel, hf⟩ => inC_open (fuel := fuel) hf) h1
  clear hA0 hval0
  refine (walk P0 Q0 G0 _ W wP0 wQ0 wG0 w1).mono fun e W' ⟨he, bel⟩ => ?_
  subst he
  exact ⟨_, rfl, _, _, _, [], _, [], hW', trodAll_mk1 (shut_bool Try.underlying4 _), (trodAll_cons_mk (Below.trod laidOut (by kernel_rfl) (of_decide_eq_true (by kernel_rfl)) k0 bel lt0) (trodAll_cons_mk (Below.trod laidOut (by kernel_rfl) (of_decide_eq_true (by kernel_rfl)) k1 bel lt1) trodAll_mk0)), rfl, bel.frame _, fun h => by cases h⟩

theorem over : Rows.fnExactCipherSumRow.holds Try.pinned (OpenSpec.ofChange Rows.fnExactCipherSumSpec) :=
  OpenClaim.holds_of_wide 10 Try.f10 rfl rfl rfl rfl rfl rfl rfl ⟨rfl, rfl, rfl, rfl, rfl⟩ rfl rfl rfl rfl rfl (by kernel_rfl) Try.func10
    (show joinedFacts Try.prog 10 Try.f10 Rows.fnExactCipherSumSpec Rows.fnExactCipherSumRow = true by unfold joinedFacts; rw [Head.make, Head.lifts, Head.enters]; kernel_rfl)
    (of_decide_eq_true (by kernel_rfl)) (by unfold Func.isWrapper; first | (rw [if_pos (by decide +kernel)]; kernel_rfl) | (rw [if_neg (by decide +kernel)]; exact ⟨rfl, rfl⟩))
    (fun os started H enc _ => lifted os started H enc)

/-- The statement. -/
theorem proved : Rows.FnExactCipherSumSaid := over
#print axioms proved
end Go.Proofs.Ytafoenoilcgjdaa.fnExactCipherSum
