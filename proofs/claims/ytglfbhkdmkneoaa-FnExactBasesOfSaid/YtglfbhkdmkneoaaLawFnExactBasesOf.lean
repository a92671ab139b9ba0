/-
For every group and every number the law FnExactBasesOf returns true: the program's BasesOf answers as the reference's does, and its answer owns its memory.
No condition.
-/
import Derived.Test.YtglfbhkdmkneoaaRows
import Derived.WalkKit
import Derived.ProofKit
import Derived.OpenShut
import Derived.ShutString
import Derived.ChangeOld
import Derived.Below
import Derived.Lib.SmallJoins
import Derived.Test.YtglfbhkdmkneoaaComC
import Derived.Test.YtglfbhkdmkneoaaFacts
namespace Go.Proofs.Ytglfbhkdmkneoaa.fnExactBasesOf
open Go.Joins Go.ChangeShapes Go.WideShapes Go.ChangeAt Go.RowKit Go.Deep
open Go.ChangeMaps (open_string shut_string)
set_option linter.unusedVariables false

theorem own : ownKnob Try.prog.godebug = none := by kernel_rfl
theorem laidOut : laidOutB Try.prog = true := by kernel_rfl

/-- What the walk is told of a slice of integers that came in: it is nil; or it leads to a row of 'cap' cells that hold the numbers 'zs'. -/
def IsRow (k : IntKind) (w : World) (a : Option Addr) (len cap : Nat) (zs : List Int) : Prop :=
  (a = none ∧ len = 0 ∧ cap = 0 ∧ zs = []) ∨
  ∃ x, a = some x ∧ len ≤ cap ∧ cap ≤ maxLen ∧ zs.length = cap ∧ (∀ i, i < zs.length → w.cell? (x.add i) = some (.int k (zs.getD i 0))) ∧ ∀ n ∈ zs, (Lit.int k n).wf = true



/-! ### STEP 1: the walk: the Go text returns true and writes nothing that was there -/
set_option maxRecDepth 100000 in
set_option maxHeartbeats 3200000 in
theorem walk (P0 Q0 G0 : Int) (a1 : Int) (w : World) (wP0 : (Lit.int .i64 P0).wf = true) (wQ0 : (Lit.int .i64 Q0).wf = true) (wG0 : (Lit.int .i64 G0).wf = true) (w1 : (Lit.int .i64 a1).wf = true) :
    Calls Try.prog 3 #[.agg #[.int .i64 P0, .int .i64 Q0, .int .i64 G0], .int .i64 a1] w fun e w' => e = .returned (.bool true) ∧ Below w.heap.size w w' := by
  have hll := bof_len P0 Q0 G0 a1
  obtain ⟨hv, hhv⟩ : ∃ v, bofH P0 Q0 G0 a1 = v := ⟨_, rfl⟩
  obtain ⟨lv, hlv⟩ : ∃ v, bofL P0 Q0 G0 a1 = v := ⟨_, rfl⟩
  obtain ⟨kv, hkv⟩ : ∃ v, bofB P0 Q0 G0 a1 = v := ⟨_, rfl⟩
  rw [hlv] at hll
  have HV := Lib.hid hhv
  have LV := Lib.hid hlv
  have KV := Lib.hid hkv
  clear hhv hlv hkv
  have R_0 := Lib.hid (gr_at w w.heap.size rfl P0 Q0 G0 23)
  have HB_0 := Lib.hid (ba w (.cells #[.int .i64 P0, .int .i64 Q0, .int .i64 G0] 23))
  go_enter Try.func3, Try.ntmps3
  obtain ⟨g0, g1, g2⟩ := R_0.out
  go_wp2_with fail
  refine (toGroup_any _ _ _ _).mono ?_
  rintro e u1 ⟨rfl, hb⟩
  have HB_1 := Lib.hid (bt HB_0.out hb)
  have R_1 := Lib.hid (R_0.out.below hb)
  clear hb HB_0 R_0
  clear g0 g1 g2
  go_wp2_with fail
  refine (sBasesOf_any P0 Q0 G0 a1 _).mono ?_
  rw [HV.out, LV.out, KV.out]
  rintro e u2 ⟨yw, rfl, ho, hb1⟩
  obtain ⟨wa, wc, rfl⟩ := ho.toIn.shape
  have hba := ba u2 (.cells #[.int .i64 hv, .slice wa lv.length wc] 26)
  have hb := bt hb1 hba
  have HB_2 := Lib.hid (bt HB_1.out hb)
  have R_2 := Lib.hid (R_1.out.below hb)
  have W_2 := Lib.hid (InI.below ho.toIn hba)
  have U_2 := Lib.hid (d2_at u2 u2.heap.size rfl (.int .i64 hv) (.slice wa lv.length wc) 26)
  clear hb HB_1 R_1
  clear ho hb1 hba
  obtain ⟨g0, g1, g2⟩ := R_2.out
  go_wp2_with fail
  refine (toGroup_any _ _ _ _).mono ?_
  rintro e u3 ⟨rfl, hb⟩
  have HB_3 := Lib.hid (bt HB_2.out hb)
  have R_3 := Lib.hid (R_2.out.below hb)
  have W_3 := Lib.hid (W_2.out.below hb)
  have U_3 := Lib.hid (U_2.out.below hb)
  clear hb HB_2 R_2 W_2 U_2
  clear g0 g1 g2
  have LW := Lib.hid W_3.out.le
  have LU := Lib.hid U_3.out.lt
  have LR := Lib.hid R_3.out.lt
  have LB := Lib.hid HB_3.out.size
  go_wp2_with fail
  refine (basesOf_any P0 Q0 G0 a1 _).mono ?_
  rw [HV.out, LV.out, KV.out]
  rintro e u4 ⟨yg, rfl, ho, hb1⟩
  obtain ⟨ga, gc, rfl⟩ := ho.toIn.shape
  have hba := ba u4 (.cells #[.int .i64 hv, .slice ga lv.length gc] 26)
  have hb := bt hb1 hba
  have HB_4 := Lib.hid (bt HB_3.out hb)
  have R_4 := Lib.hid (R_3.out.below hb)
  have W_4 := Lib.hid (W_3.out.below hb)
  have U_4 := Lib.hid (U_3.out.below hb)
  have G_4 := Lib.hid (ho.below hba)
  have V_4 := Lib.hid (d2_at u4 u4.heap.size rfl (.int .i64 hv) (.slice ga lv.length gc) 26)
  clear hb HB_3 R_3 W_3 U_3
  clear ho hb1 hba
  obtain ⟨v0, v1⟩ := V_4.out
  obtain ⟨u0, u1⟩ := U_4.out
  go_wp2_with fail
  refine (eqBas_any G_4.out.toIn W_4.out (by omega)).mono ?_
  rintro e u5 ⟨rfl, hb⟩
  have HB_5 := Lib.hid (bt HB_4.out hb)
  have R_5 := Lib.hid (R_4.out.below hb)
  have W_5 := Lib.hid (W_4.out.below hb)
  have U_5 := Lib.hid (U_4.out.below hb)
  have G_5 := Lib.hid (G_4.out.below hb)
  have V_5 := Lib.hid (V_4.out.below hb)
  clear hb HB_4 R_4 W_4 U_4 G_4 V_4
  clear v0 v1
  clear u0 u1
  obtain ⟨v0, v1⟩ := V_5.out
  go_wp2_with fail
  refine (markBas_any G_5.out (by omega) (by omega) (by omega)).mono ?_
  rintro e u6 ⟨rfl, ho, hmi⟩
  clear v0 v1
  have R_6 := Lib.hid (gr_midc R_5.out hmi (.inl LR.out))
  have W_6 := Lib.hid (W_5.out.mid hmi LW.out)
  have U_6 := Lib.hid (d2_mid U_5.out hmi (.inl LU.out))
  have V_6 := Lib.hid (d2_mid V_5.out hmi (.inr (Nat.le_refl _)))
  have HB_6 := Lib.hid (HB_5.out.trans (hmi.toBelow LB.out HB_5.out.size))
  have G_6 := Lib.hid ho.toIn
  clear ho hmi HB_5 R_5 W_5 U_5 V_5 G_5 LR LW LU LB
  obtain ⟨v0, v1⟩ := V_6.out
  go_wp2_with fail
  refine (heldBas_any G_6.out (by omega) (by omega) (by omega)).mono ?_
  rintro e u7 ⟨rfl, hb⟩
  have HB_7 := Lib.hid (bt HB_6.out hb)
  have R_7 := Lib.hid (R_6.out.below hb)
  have W_7 := Lib.hid (W_6.out.below hb)
  have U_7 := Lib.hid (U_6.out.below hb)
  have G_7 := Lib.hid (G_6.out.below hb)
  have V_7 := Lib.hid (V_6.out.below hb)
  clear hb HB_6 R_6 W_6 U_6 G_6 V_6
  clear v0 v1
  obtain ⟨g0, g1, g2⟩ := R_7.out
  go_wp2_with fail
  refine (toGroup_any _ _ _ _).mono ?_
  rintro e u8 ⟨rfl, hb⟩
  have HB_8 := Lib.hid (bt HB_7.out hb)
  have R_8 := Lib.hid (R_7.out.below hb)
  have W_8 := Lib.hid (W_7.out.below hb)
  have U_8 := Lib.hid (U_7.out.below hb)
  have G_8 := Lib.hid (G_7.out.below hb)
  have V_8 := Lib.hid (V_7.out.below hb)
  clear hb HB_7 R_7 W_7 U_7 G_7 V_7
  clear g0 g1 g2
  go_wp2_with fail
  refine (basesOf_any P0 Q0 G0 a1 _).mono ?_
  rw [HV.out, LV.out, KV.out]
  rintro e u9 ⟨yk, rfl, ho, hb1⟩
  obtain ⟨ka, kc, rfl⟩ := ho.toIn.shape
  have hba := ba u9 (.cells #[.int .i64 hv, .slice ka lv.length kc] 26)
  have hb := bt hb1 hba
  have HB_9 := Lib.hid (bt HB_8.out hb)
  have R_9 := Lib.hid (R_8.out.below hb)
  have W_9 := Lib.hid (W_8.out.below hb)
  have U_9 := Lib.hid (U_8.out.below hb)
  have G_9 := Lib.hid (G_8.out.below hb)
  have V_9 := Lib.hid (V_8.out.below hb)
  have H_9 := Lib.hid (InI.below ho.toIn hba)
  have Z_9 := Lib.hid (d2_at u9 u9.heap.size rfl (.int .i64 hv) (.slice ka lv.length kc) 26)
  clear hb HB_8 R_8 W_8 U_8 G_8 V_8
  clear ho hb1 hba
  obtain ⟨z0, z1⟩ := Z_9.out
  obtain ⟨u0, u1⟩ := U_9.out
  go_wp2_with fail
  refine (eqBas_any H_9.out W_9.out (by omega)).mono ?_
  rintro e u10 ⟨rfl, hb⟩
  have HB_10 := Lib.hid (bt HB_9.out hb)
  have R_10 := Lib.hid (R_9.out.below hb)
  have W_10 := Lib.hid (W_9.out.below hb)
  have U_10 := Lib.hid (U_9.out.below hb)
  have G_10 := Lib.hid (G_9.out.below hb)
  have V_10 := Lib.hid (V_9.out.below hb)
  have H_10 := Lib.hid (H_9.out.below hb)
  have Z_10 := Lib.hid (Z_9.out.below hb)
  clear hb HB_9 R_9 W_9 U_9 G_9 V_9 H_9 Z_9
  clear z0 z1
  clear u0 u1
  obtain ⟨v0, v1⟩ := V_10.out
  go_wp2_with fail
  refine (heldBas_any G_10.out (by omega) (by omega) (by omega)).mono ?_
  rintro e u11 ⟨rfl, hb⟩
  have HB_11 := Lib.hid (bt HB_10.out hb)
  have R_11 := Lib.hid (R_10.out.below hb)
  have W_11 := Lib.hid (W_10.out.below hb)
  have U_11 := Lib.hid (U_10.out.below hb)
  have G_11 := Lib.hid (G_10.out.below hb)
  have V_11 := Lib.hid (V_10.out.below hb)
  have H_11 := Lib.hid (H_10.out.below hb)
  have Z_11 := Lib.hid (Z_10.out.below hb)
  clear hb HB_10 R_10 W_10 U_10 G_10 V_10 H_10 Z_10
  clear v0 v1
  go_wp2
  go_ret
  exact ⟨rfl, HB_11.out⟩

/-! ### The row's step -/
set_option maxRecDepth 100000 in
theorem lifted (os : Os) (started : os.Started) (H : Type) (enc : TypeId × Value → H) :
    ReturnsInHanded {} Try.checked os 3 .any (Rows.fnExactBasesOfSpec.pre6 enc Try.prog Try.f3 Rows.fnExactBasesOfRow.domain false) (Rows.fnExactBasesOfSpec.post enc Try.prog Try.f3 false true false false) := by
  refine returnsInHanded_of_change (C := Try.checked) own started (by kernel_rfl) Try.func3
    (ChangeSpec.witness6 (enc := enc) (C := Try.checked) false ⟨#[], #[.agg #[.int .i64 0, .int .i64 0, .int .i64 0], .int .i64 0], []⟩ 8 (by kernel_rfl) (by kernel_rfl) (by kernel_rfl) (by kernel_rfl)) ?_
  intro W base args ds gs before hval0 hW hcnd _
  have hval : ∀ (j : Nat) t v, Try.f3.params[j]? = some t → args[j]? = some v → Value.okWide Try.prog W .any base t v := hval0
  have hW' := hW
  obtain ⟨p, q, hA0, hV, rfl, hfz, hnd⟩ := hW
  have hA : DataW.TrodAll enc Try.prog W 0 (fun _ => true) true Try.f3.params.toList args.toList ds p := hA0
  rw [Try.params3] at hA hval
  obtain ⟨v0, vs0, d0, ds0, p0, q0, hargs, rfl, rfl, h0, r0⟩ := trodAll_cons hA
  obtain ⟨v1, vs1, d1, ds1, p1, q1, rfl, rfl, rfl, h1, r1⟩ := trodAll_cons r0
  obtain ⟨rfl, rfl, rfl⟩ := trodAll_nil r1
  obtain rfl : args = #[v0, v1] := by cases args; simp_all
  obtain ⟨rfl, rfl⟩ := trodVars_none hV
  have k0 := h0
  have lt0 : ∀ x ∈ p0, x.block < W.heap.size := by obtain ⟨m, hm⟩ := k0; exact DataW.trod_lt m _ _ _ hm
  obtain ⟨c0_0, c0_1, c0_2, y0_0, y0_1, y0_2, m0, rfl, rfl, rfl, hy0_0, hy0_1, hy0_2⟩ := open_agg3 Try.underlying23 (by kernel_rfl) (by kernel_rfl) (hval 0 23 v0 rfl rfl) h0
  obtain ⟨P0, e0_0, _, wP0⟩ := DataW.trod_int Try.underlying3 hy0_0
  obtain rfl := (List.cons.inj e0_0).1
  obtain ⟨Q0, e0_1, _, wQ0⟩ := DataW.trod_int Try.underlying3 hy0_1
  obtain rfl := (List.cons.inj e0_1).1
  obtain ⟨G0, e0_2, _, wG0⟩ := DataW.trod_int Try.underlying3 hy0_2
  obtain rfl := (List.cons.inj e0_2).1
  obtain ⟨a1, rfl, rfl, rfl, w1⟩ := open_int Try.underlying3 (hval 1 3 v1 rfl rfl) h1
  clear hA0 hval0
  refine (walk P0 Q0 G0 a1 W wP0 wQ0 wG0 w1).mono fun e W' ⟨he, bel⟩ => ?_
  subst he
  exact ⟨_, rfl, _, _, _, [], _, [], hW', trodAll_mk1 (shut_bool Try.underlying4 _), (trodAll_cons_mk (Below.trod laidOut (by kernel_rfl) (of_decide_eq_true (by kernel_rfl)) k0 bel lt0) (trodAll_cons_mk (shut_int Try.underlying3 w1) trodAll_mk0)), rfl, bel.frame _, fun h => by cases h⟩

theorem over : Rows.fnExactBasesOfRow.holds Try.pinned (OpenSpec.ofChange Rows.fnExactBasesOfSpec) :=
  OpenClaim.holds_of_wide 3 Try.f3 rfl rfl rfl rfl rfl rfl rfl ⟨rfl, rfl, rfl, rfl, rfl⟩ rfl rfl rfl rfl rfl (by kernel_rfl) Try.func3
    (show joinedFacts Try.prog 3 Try.f3 Rows.fnExactBasesOfSpec Rows.fnExactBasesOfRow = true by unfold joinedFacts; rw [Head.make, Head.lifts, Head.enters]; kernel_rfl)
    (of_decide_eq_true (by kernel_rfl)) (by unfold Func.isWrapper; first | (rw [if_pos (by decide +kernel)]; kernel_rfl) | (rw [if_neg (by decide +kernel)]; exact ⟨rfl, rfl⟩))
    (fun os started H enc _ => lifted os started H enc)

/-- The statement. -/
theorem proved : Rows.FnExactBasesOfSaid := over
#print axioms proved
end Go.Proofs.Ytglfbhkdmkneoaa.fnExactBasesOf
