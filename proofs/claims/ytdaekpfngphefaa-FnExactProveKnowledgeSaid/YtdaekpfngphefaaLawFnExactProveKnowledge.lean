/-
For every group and every further argument the law FnExactProveKnowledge returns true: the program's ProveKnowledge answers as the reference's does, leaves its arguments as they were, and its answer owns its memory.
No condition.
-/
import Derived.Test.YtdaekpfngphefaaRows
import Derived.WalkKit
import Derived.ProofKit
import Derived.OpenShut
import Derived.ShutString
import Derived.ChangeOld
import Derived.Below
import Derived.Lib.SmallJoins
import Derived.Test.YtdaekpfngphefaaSigN
import Derived.Test.YtdaekpfngphefaaFacts
namespace Go.Proofs.Ytdaekpfngphefaa.fnExactProveKnowledge
open Go.Joins Go.ChangeShapes Go.WideShapes Go.ChangeAt Go.RowKit Go.Deep
open Go.ChangeMaps (open_string shut_string)
set_option linter.unusedVariables false

theorem own : ownKnob Try.prog.godebug = none := by kernel_rfl
theorem laidOut : laidOutB Try.prog = true := by kernel_rfl

/-- What the walk is told of a slice of integers that came in: it is nil; or it leads to a row of 'cap' cells that hold the numbers 'zs'. -/
def IsRow (k : IntKind) (w : World) (a : Option Addr) (len cap : Nat) (zs : List Int) : Prop :=
  (a = none ∧ len = 0 ∧ cap = 0 ∧ zs = []) ∨
  ∃ x, a = some x ∧ len ≤ cap ∧ cap ≤ maxLen ∧ zs.length = cap ∧ (∀ i, i < zs.length → w.cell? (x.add i) = some (.int k (zs.getD i 0))) ∧ ∀ n ∈ zs, (Lit.int k n).wf = true

theorem gr_mid {w w' : World} {b A B : Nat} {P Q G : Int} (h : GR w b P Q G) (hm : Mid A B w w') (hb : b < A) : GR w' b P Q G := by
  have hl := h.lt
  have he := hm.block b hl (.inl hb)
  obtain ⟨c0, c1, c2⟩ := h
  refine ⟨?_, ?_, ?_⟩
  · rw [World.cell?_of_block (a := ⟨b, 0, none⟩) he]; exact c0
  · rw [World.cell?_of_block (a := ⟨b, 1, none⟩) he]; exact c1
  · rw [World.cell?_of_block (a := ⟨b, 2, none⟩) he]; exact c2

/-! ### STEP 1: the walk: the Go text returns true and writes nothing that was there -/
set_option maxRecDepth 100000 in
set_option maxHeartbeats 3200000 in
theorem walk (P0 Q0 G0 : Int) (a1 : ByteArray) (a2 : Int) (a3 : Int) (a4 : Int) (w : World) (wP0 : (Lit.int .i64 P0).wf = true) (wQ0 : (Lit.int .i64 Q0).wf = true) (wG0 : (Lit.int .i64 G0).wf = true) (w1 : a1.size ≤ maxLen) (w2 : (Lit.int .i64 a2).wf = true) (w3 : (Lit.int .i64 a3).wf = true) (w4 : (Lit.int .i64 a4).wf = true) :
    Calls Try.prog 8 #[.agg #[.int .i64 P0, .int .i64 Q0, .int .i64 G0], .string a1, .int .i64 a2, .int .i64 a3, .int .i64 a4] w fun e w' => e = .returned (.bool true) ∧ Below w.heap.size w w' := by
  by_cases b1 : 1048576 < a1.size
  · have c1 : (1048576 : Int) < (a1.size : Int) := by omega
    unfold maxLen at w1
    go_enter Try.func8, Try.ntmps8
    go_wp2
    go_ret
    exact ⟨rfl, ba _ _⟩
  have c1 : (a1.size : Int) ≤ 1048576 := by omega
  have d1 : a1.size ≤ 1048576 := by omega
  have HR_0 := Lib.hid (gr_new w P0 Q0 G0 23)
  have HB_0 := Lib.hid (ba w (.cells #[.int .i64 P0, .int .i64 Q0, .int .i64 G0] 23))
  have HVL := Lib.hid (pl_n P0 Q0 G0 a1 [[a2]] [a3] [a4])
  generalize hV : plV P0 Q0 G0 a1 [[a2]] [a3] [a4] = res at HVL
  generalize hK : plB P0 Q0 G0 a1 [[a2]] [a3] [a4] = ok
  have HV := Lib.hid hV
  have HK := Lib.hid hK
  have hrl : res.n ≤ 24 := HVL.out
  clear hV hK
  go_enter Try.func8, Try.ntmps8
  obtain ⟨g0, g1, g2⟩ := HR_0.out
  go_wp2_with fail
  refine (toGroup_any _ _ _ _).mono ?_
  rintro e v1 ⟨rfl, hb⟩
  have HR_1 := Lib.hid (HR_0.out.below hb)
  have HB_1 := Lib.hid (bt HB_0.out hb)
  clear HR_0 HB_0
  clear hb
  clear g0 g1 g2
  go_wp2_with fail
  refine (sProvK_any P0 Q0 G0 a2 a3 a4 a1 d1 _).mono ?_
  rw [HV.out, HK.out]
  rintro e v2 ⟨wa, wb, wc, rfl, ho, hb1⟩
  obtain ⟨wa1, wa2, wb1, wb2, wc1, wc2, hsh⟩ := inP_shapeQ (OwP.toIn ho)
  simp only [Value.agg.injEq, Array.mk.injEq, List.cons.injEq, and_true] at hsh
  obtain ⟨rfl, rfl, rfl⟩ := hsh
  have hba := ba v2 (.cells #[.slice wa1 res.c.length wa2, .slice wb1 res.h.length wb2, .slice wc1 res.r.length wc2] 36)
  have hb := bt hb1 hba
  have HR_2 := Lib.hid (HR_1.out.below hb)
  have HB_2 := Lib.hid (bt HB_1.out hb)
  clear HR_1 HB_1
  have HW_2 := Lib.hid (InP.below (OwP.toIn ho) hba)
  have HV_2 := Lib.hid (b3_new v2 (.slice wa1 res.c.length wa2) (.slice wb1 res.h.length wb2) (.slice wc1 res.r.length wc2) 36)
  clear hb ho hb1 hba
  obtain ⟨g0, g1, g2⟩ := HR_2.out
  go_wp2_with fail
  refine (toGroup_any _ _ _ _).mono ?_
  rintro e v3 ⟨rfl, hb⟩
  have HR_3 := Lib.hid (HR_2.out.below hb)
  have HW_3 := Lib.hid (HW_2.out.below hb)
  have HV_3 := Lib.hid (HV_2.out.below hb)
  have HB_3 := Lib.hid (bt HB_2.out hb)
  clear HR_2 HW_2 HV_2 HB_2
  clear hb
  clear g0 g1 g2
  go_wp2_with fail
  refine (provK_any P0 Q0 G0 a2 a3 a4 a1 d1 _).mono ?_
  rw [HV.out, HK.out]
  rintro e v4 ⟨ga, gb, gc, rfl, ho, hb1⟩
  obtain ⟨ga1, ga2, gb1, gb2, gc1, gc2, hsh⟩ := inP_shapeQ (OwQ.toIn ho)
  simp only [Value.agg.injEq, Array.mk.injEq, List.cons.injEq, and_true] at hsh
  obtain ⟨rfl, rfl, rfl⟩ := hsh
  have LWG := Lib.hid HW_3.out.le
  have LVG := Lib.hid HV_3.out.lt
  have LBG := Lib.hid HB_3.out.size
  have LRG := Lib.hid HR_3.out.lt
  have hba := ba v4 (.cells #[.slice ga1 res.c.length ga2, .slice gb1 res.h.length gb2, .slice gc1 res.r.length gc2] 36)
  have hb := bt hb1 hba
  have HR_4 := Lib.hid (HR_3.out.below hb)
  have HW_4 := Lib.hid (HW_3.out.below hb)
  have HV_4 := Lib.hid (HV_3.out.below hb)
  have HB_4 := Lib.hid (bt HB_3.out hb)
  clear HR_3 HW_3 HV_3 HB_3
  have HG_4 := Lib.hid (ho.below hba)
  have HU_4 := Lib.hid (b3_new v4 (.slice ga1 res.c.length ga2) (.slice gb1 res.h.length gb2) (.slice gc1 res.r.length gc2) 36)
  clear hb ho hb1 hba
  obtain ⟨x0, x1, x2, _⟩ := HV_4.out
  obtain ⟨y0, y1, y2, _⟩ := HU_4.out
  go_wp2_with fail
  refine (eqP_any HG_4.out.toIn HW_4.out (by omega)).mono ?_
  rintro e v5 ⟨rfl, hb⟩
  clear x0 x1 x2 y0 y1 y2
  have HR_5 := Lib.hid (HR_4.out.below hb)
  have HW_5 := Lib.hid (HW_4.out.below hb)
  have HV_5 := Lib.hid (HV_4.out.below hb)
  have HG_5 := Lib.hid (HG_4.out.below hb)
  have HU_5 := Lib.hid (HU_4.out.below hb)
  have HB_5 := Lib.hid (bt HB_4.out hb)
  clear HR_4 HW_4 HV_4 HG_4 HU_4 HB_4
  clear hb
  obtain ⟨y0, y1, y2, _⟩ := HU_5.out
  go_wp2_with fail
  refine (markQ_any HG_5.out (by omega) (by omega) (by omega)).mono ?_
  rintro e v6 ⟨rfl, ho, hmi⟩
  clear y0 y1 y2
  have HR_6 := Lib.hid (gr_mid HR_5.out hmi LRG.out)
  have HW_6 := Lib.hid (HW_5.out.mid hmi LWG.out)
  have HV_6 := Lib.hid (HV_5.out.mid hmi (.inl LVG.out))
  have HU_6 := Lib.hid (HU_5.out.mid hmi (.inr (Nat.le_refl _)))
  have HB_6 := Lib.hid (HB_5.out.trans (hmi.toBelow LBG.out HB_5.out.size))
  clear HR_5 HW_5 HV_5 HU_5 HB_5
  clear hmi
  have HG_6 := Lib.hid ho.toIn
  clear ho
  obtain ⟨y0, y1, y2, _⟩ := HU_6.out
  go_wp2_with fail
  refine (heldP_any HG_6.out (by omega) (by omega) (by omega)).mono ?_
  rintro e v7 ⟨rfl, hb⟩
  clear y0 y1 y2
  have HR_7 := Lib.hid (HR_6.out.below hb)
  have HW_7 := Lib.hid (HW_6.out.below hb)
  have HV_7 := Lib.hid (HV_6.out.below hb)
  have HU_7 := Lib.hid (HU_6.out.below hb)
  have HG_7 := Lib.hid (HG_6.out.below hb)
  have HB_7 := Lib.hid (bt HB_6.out hb)
  clear HR_6 HW_6 HV_6 HU_6 HG_6 HB_6
  clear hb
  obtain ⟨g0, g1, g2⟩ := HR_7.out
  go_wp2_with fail
  refine (toGroup_any _ _ _ _).mono ?_
  rintro e v8 ⟨rfl, hb⟩
  have HR_8 := Lib.hid (HR_7.out.below hb)
  have HW_8 := Lib.hid (HW_7.out.below hb)
  have HV_8 := Lib.hid (HV_7.out.below hb)
  have HU_8 := Lib.hid (HU_7.out.below hb)
  have HG_8 := Lib.hid (HG_7.out.below hb)
  have HB_8 := Lib.hid (bt HB_7.out hb)
  clear HR_7 HW_7 HV_7 HU_7 HG_7 HB_7
  clear hb
  clear g0 g1 g2
  go_wp2_with fail
  refine (provK_any P0 Q0 G0 a2 a3 a4 a1 d1 _).mono ?_
  rw [HV.out, HK.out]
  rintro e v9 ⟨ka, kb, kc, rfl, ho, hb1⟩
  obtain ⟨ka1, ka2, kb1, kb2, kc1, kc2, hsh⟩ := inP_shapeQ (OwQ.toIn ho)
  simp only [Value.agg.injEq, Array.mk.injEq, List.cons.injEq, and_true] at hsh
  obtain ⟨rfl, rfl, rfl⟩ := hsh
  have hba := ba v9 (.cells #[.slice ka1 res.c.length ka2, .slice kb1 res.h.length kb2, .slice kc1 res.r.length kc2] 36)
  have hb := bt hb1 hba
  have HR_9 := Lib.hid (HR_8.out.below hb)
  have HW_9 := Lib.hid (HW_8.out.below hb)
  have HV_9 := Lib.hid (HV_8.out.below hb)
  have HU_9 := Lib.hid (HU_8.out.below hb)
  have HG_9 := Lib.hid (HG_8.out.below hb)
  have HB_9 := Lib.hid (bt HB_8.out hb)
  clear HR_8 HW_8 HV_8 HU_8 HG_8 HB_8
  have HH_9 := Lib.hid (InP.below (OwQ.toIn ho) hba)
  have HZ_9 := Lib.hid (b3_new v9 (.slice ka1 res.c.length ka2) (.slice kb1 res.h.length kb2) (.slice kc1 res.r.length kc2) 36)
  clear hb ho hb1 hba
  obtain ⟨x0, x1, x2, _⟩ := HV_9.out
  obtain ⟨y0, y1, y2, _⟩ := HZ_9.out
  go_wp2_with fail
  refine (eqP_any HH_9.out HW_9.out (by omega)).mono ?_
  rintro e v10 ⟨rfl, hb⟩
  clear x0 x1 x2 y0 y1 y2
  have HR_10 := Lib.hid (HR_9.out.below hb)
  have HW_10 := Lib.hid (HW_9.out.below hb)
  have HV_10 := Lib.hid (HV_9.out.below hb)
  have HU_10 := Lib.hid (HU_9.out.below hb)
  have HG_10 := Lib.hid (HG_9.out.below hb)
  have HH_10 := Lib.hid (HH_9.out.below hb)
  have HZ_10 := Lib.hid (HZ_9.out.below hb)
  have HB_10 := Lib.hid (bt HB_9.out hb)
  clear HR_9 HW_9 HV_9 HU_9 HG_9 HH_9 HZ_9 HB_9
  clear hb
  obtain ⟨y0, y1, y2, _⟩ := HU_10.out
  go_wp2_with fail
  refine (heldP_any HG_10.out (by omega) (by omega) (by omega)).mono ?_
  rintro e v11 ⟨rfl, hb⟩
  clear y0 y1 y2
  have HR_11 := Lib.hid (HR_10.out.below hb)
  have HW_11 := Lib.hid (HW_10.out.below hb)
  have HV_11 := Lib.hid (HV_10.out.below hb)
  have HU_11 := Lib.hid (HU_10.out.below hb)
  have HG_11 := Lib.hid (HG_10.out.below hb)
  have HH_11 := Lib.hid (HH_10.out.below hb)
  have HZ_11 := Lib.hid (HZ_10.out.below hb)
  have HB_11 := Lib.hid (bt HB_10.out hb)
  clear HR_10 HW_10 HV_10 HU_10 HG_10 HH_10 HZ_10 HB_10
  clear hb
  go_wp2
  go_ret
  exact ⟨rfl, HB_11.out⟩

/-! ### The row's step -/
set_option maxRecDepth 100000 in
theorem lifted (os : Os) (started : os.Started) (H : Type) (enc : TypeId × Value → H) :
    ReturnsInHanded {} Try.checked os 8 .any (Rows.fnExactProveKnowledgeSpec.pre6 enc Try.prog Try.f8 Rows.fnExactProveKnowledgeRow.domain false) (Rows.fnExactProveKnowledgeSpec.post enc Try.prog Try.f8 false true false false) := by
  refine returnsInHanded_of_change (C := Try.checked) own started (by kernel_rfl) Try.func8
    (ChangeSpec.witness6 (enc := enc) (C := Try.checked) false ⟨#[], #[.agg #[.int .i64 0, .int .i64 0, .int .i64 0], .string ByteArray.empty, .int .i64 0, .int .i64 0, .int .i64 0], []⟩ 8 (by kernel_rfl) (by kernel_rfl) (by kernel_rfl) (by kernel_rfl)) ?_
  intro W base args ds gs before hval0 hW hcnd _
  have hval : ∀ (j : Nat) t v, Try.f8.params[j]? = some t → args[j]? = some v → Value.okWide Try.prog W .any base t v := hval0
  have hW' := hW
  obtain ⟨p, q, hA0, hV, rfl, hfz, hnd⟩ := hW
  have hA : DataW.TrodAll enc Try.prog W 0 (fun _ => true) true Try.f8.params.toList args.toList ds p := hA0
  rw [Try.params8] at hA hval
  obtain ⟨v0, vs0, d0, ds0, p0, q0, hargs, rfl, rfl, h0, r0⟩ := trodAll_cons hA
  obtain ⟨v1, vs1, d1, ds1, p1, q1, rfl, rfl, rfl, h1, r1⟩ := trodAll_cons r0
  obtain ⟨v2, vs2, d2, ds2, p2, q2, rfl, rfl, rfl, h2, r2⟩ := trodAll_cons r1
  obtain ⟨v3, vs3, d3, ds3, p3, q3, rfl, rfl, rfl, h3, r3⟩ := trodAll_cons r2
  obtain ⟨v4, vs4, d4, ds4, p4, q4, rfl, rfl, rfl, h4, r4⟩ := trodAll_cons r3
  obtain ⟨rfl, rfl, rfl⟩ := trodAll_nil r4
  obtain rfl : args = #[v0, v1, v2, v3, v4] := by cases args; simp_all
  obtain ⟨rfl, rfl⟩ := trodVars_none hV
  have k0 := h0
  have lt0 : ∀ x ∈ p0, x.block < W.heap.size := by obtain ⟨m, hm⟩ := k0; exact DataW.trod_lt m _ _ _ hm
  obtain ⟨c0_0, c0_1, c0_2, y0_0, y0_1, y0_2, m0, rfl, rfl, rfl, hy0_0, hy0_1, hy0_2⟩ := open_agg3 Try.underlying23 (by kernel_rfl) (by kernel_rfl) (hval 0 23 v0 rfl rfl) h0
  obtain ⟨P0, e0_0, _, wP0⟩ := DataW.trod_int Try.underlying3 hy0_0
  obtain rfl := (List.cons.inj e0_0).1
  obtain ⟨Q0, e0_1, _, wQ0⟩ := DataW.trod_int Try.underlying3 hy0_1
  obtain rfl := (List.cons.inj e0_1).1
  obtain ⟨G0, e0_2, _, wG0⟩ := DataW.trod_int Try.underlying3 hy0_2
  obtain rfl := (List.cons.inj e0_2).1
  obtain ⟨a1, rfl, rfl, rfl, w1⟩ := open_string Try.underlying9 (hval 1 9 v1 rfl rfl) h1
  obtain ⟨a2, rfl, rfl, rfl, w2⟩ := open_int Try.underlying3 (hval 2 3 v2 rfl rfl) h2
  obtain ⟨a3, rfl, rfl, rfl, w3⟩ := open_int Try.underlying3 (hval 3 3 v3 rfl rfl) h3
  obtain ⟨a4, rfl, rfl, rfl, w4⟩ := open_int Try.underlying3 (hval 4 3 v4 rfl rfl) h4
  clear hA0 hval0
  refine (walk P0 Q0 G0 a1 a2 a3 a4 W wP0 wQ0 wG0 w1 w2 w3 w4).mono fun e W' ⟨he, bel⟩ => ?_
  subst he
  exact ⟨_, rfl, _, _, _, [], _, [], hW', trodAll_mk1 (shut_bool Try.underlying4 _), (trodAll_cons_mk (Below.trod laidOut (by kernel_rfl) (of_decide_eq_true (by kernel_rfl)) k0 bel lt0) (trodAll_cons_mk (shut_string Try.underlying9 w1) (trodAll_cons_mk (shut_int Try.underlying3 w2) (trodAll_cons_mk (shut_int Try.underlying3 w3) (trodAll_cons_mk (shut_int Try.underlying3 w4) trodAll_mk0))))), rfl, bel.frame _, fun h => by cases h⟩

theorem over : Rows.fnExactProveKnowledgeRow.holds Try.pinned (OpenSpec.ofChange Rows.fnExactProveKnowledgeSpec) :=
  OpenClaim.holds_of_wide 8 Try.f8 rfl rfl rfl rfl rfl rfl rfl ⟨rfl, rfl, rfl, rfl, rfl⟩ rfl rfl rfl rfl rfl (by kernel_rfl) Try.func8
    (show joinedFacts Try.prog 8 Try.f8 Rows.fnExactProveKnowledgeSpec Rows.fnExactProveKnowledgeRow = true by unfold joinedFacts; rw [Head.make, Head.lifts, Head.enters]; kernel_rfl)
    (of_decide_eq_true (by kernel_rfl)) (by unfold Func.isWrapper; first | (rw [if_pos (by decide +kernel)]; kernel_rfl) | (rw [if_neg (by decide +kernel)]; exact ⟨rfl, rfl⟩))
    (fun os started H enc _ => lifted os started H enc)

/-- The statement. -/
theorem proved : Rows.FnExactProveKnowledgeSaid := over
#print axioms proved
end Go.Proofs.Ytdaekpfngphefaa.fnExactProveKnowledge
