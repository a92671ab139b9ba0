/-
For every group and every further argument the law FnExactDealShares returns true: the program's DealShares answers as the reference's does, leaves its arguments as they were, and its answer owns its memory.
No condition.
-/
import Derived.Test.YtfjaohmildkeoaaRows
import Derived.WalkKit
import Derived.ProofKit
import Derived.OpenShut
import Derived.ShutString
import Derived.ChangeOld
import Derived.Below
import Derived.Lib.SmallJoins
import Derived.Test.YtfjaohmildkeoaaShE
import Derived.Test.YtfjaohmildkeoaaFacts
namespace Go.Proofs.Ytfjaohmildkeoaa.fnExactDealShares
open Go.Joins Go.ChangeShapes Go.WideShapes Go.ChangeAt Go.RowKit Go.Deep
open Go.ChangeMaps (open_string shut_string)
set_option linter.unusedVariables false

theorem own : ownKnob Try.prog.godebug = none := by kernel_rfl
theorem laidOut : laidOutB Try.prog = true := by kernel_rfl

/-- What the walk is told of a slice of integers that came in: it is nil; or it leads to a row of 'cap' cells that hold the numbers 'zs'. -/
def IsRow (k : IntKind) (w : World) (a : Option Addr) (len cap : Nat) (zs : List Int) : Prop :=
  (a = none ∧ len = 0 ∧ cap = 0 ∧ zs = []) ∨
  ∃ x, a = some x ∧ len ≤ cap ∧ cap ≤ maxLen ∧ zs.length = cap ∧ (∀ i, i < zs.length → w.cell? (x.add i) = some (.int k (zs.getD i 0))) ∧ ∀ n ∈ zs, (Lit.int k n).wf = true

set_option linter.unusedSimpArgs false

/-! ### STEP 1: the walk: the Go text returns true and writes nothing that was there -/
set_option maxRecDepth 100000 in
set_option maxHeartbeats 25600000 in
theorem walk (P0 Q0 G0 : Int) (a1 : Option Addr) (len1 cap1 : Nat) (z1 : List Int) (a2 : Int) (w : World) (wP0 : (Lit.int .i64 P0).wf = true) (wQ0 : (Lit.int .i64 Q0).wf = true) (wG0 : (Lit.int .i64 G0).wf = true) (w1 : IsRow .i64 w a1 len1 cap1 z1) (w2 : (Lit.int .i64 a2).wf = true) :
    Calls Try.prog 5 #[.agg #[.int .i64 P0, .int .i64 Q0, .int .i64 G0], .slice a1 len1 cap1, .int .i64 a2] w fun e w' => e = .returned (.bool true) ∧ Below w.heap.size w w' := by
  obtain ⟨hxs, nxs, mxs⟩ := inI_of_row w1
  generalize z1.take len1 = xs at hxs nxs
  clear w1
  have hal : Below w.heap.size w (w.alloc (.cells #[.int .i64 P0, .int .i64 Q0, .int .i64 G0] 44)) := ba _ _
  have R_0 := Lib.hid (gr_atS w w.heap.size rfl P0 Q0 G0 44)
  have A_0 := Lib.hid (hxs.below hal)
  have HB_0 := Lib.hid hal
  clear hal hxs
  by_cases b1 : 1048576 < len1
  · have c1 : (1048576 : Int) < (len1 : Int) := by omega
    unfold maxLen at mxs
    go_enter Try.func5, Try.ntmps5
    go_wp2
    go_ret
    exact ⟨rfl, HB_0.out⟩
  have c1 : (len1 : Int) ≤ 1048576 := by omega
  have lxs : xs.length ≤ 1048576 := by omega
  have hlr := dsR_bound P0 Q0 G0 xs a2
  generalize hR : dsR P0 Q0 G0 xs a2 = res at hlr
  generalize hK : dsB P0 Q0 G0 xs a2 = ok
  have HR := Lib.hid hR
  have HK := Lib.hid hK
  clear hR hK
  have hrl : res.n ≤ 14 := hlr
  go_enter Try.func5, Try.ntmps5
  obtain ⟨g0, g1, g2⟩ := R_0.out
  go_wp2_with fail
  refine (toGroup_any _ _ _ _).mono ?_
  rintro e u1 ⟨rfl, hb⟩
  have HB_1 := Lib.hid (bt HB_0.out hb)
  have R_1 := Lib.hid (R_0.out.below hb)
  have A_1 := Lib.hid (A_0.out.below hb)
  clear hb HB_0 R_0 A_0
  clear g0 g1 g2
  go_wp2_with fail
  refine (toI_any A_1.out (by omega)).mono ?_
  rintro e u2 ⟨yC, rfl, ho, hb⟩
  have HB_2 := Lib.hid (bt HB_1.out hb)
  have R_2 := Lib.hid (R_1.out.below hb)
  have A_2 := Lib.hid (A_1.out.below hb)
  have C_2 := Lib.hid (ho.toIn)
  clear hb HB_1 R_1 A_1
  clear ho
  go_wp2_with fail
  refine (sDealShares_ans P0 Q0 G0 a2 (by omega) C_2.out).mono ?_
  rw [HR.out]
  rw [HK.out]
  rintro e u3 ⟨owv, rfl, ho, hb1⟩
  obtain ⟨owa1, owa2, owb1, owb2, hsh, _, _⟩ := InD.shape (OwD.toIn ho)
  subst hsh
  have hba := ba u3 (.cells #[.slice owa1 res.c.length owa2, .slice owb1 res.s.length owb2] 34)
  have hb := bt hb1 hba
  have HB_3 := Lib.hid (bt HB_2.out hb)
  have R_3 := Lib.hid (R_2.out.below hb)
  have A_3 := Lib.hid (A_2.out.below hb)
  have W_3 := Lib.hid (InD.below (OwD.toIn ho) hba)
  have V_3 := Lib.hid (v2_at u3 u3.heap.size rfl (.slice owa1 res.c.length owa2) (.slice owb1 res.s.length owb2) 34)
  clear hb HB_2 R_2 A_2 C_2
  clear ho hb1 hba
  go_wp2_with fail
  refine (toI_any A_3.out (by omega)).mono ?_
  rintro e u4 ⟨yX, rfl, ho, hb⟩
  have LWx := Lib.hid W_3.out.le
  have LVx := Lib.hid V_3.out.lt
  have LRx := Lib.hid R_3.out.lt
  have LBx := Lib.hid HB_3.out.size
  have HB_4 := Lib.hid (bt HB_3.out hb)
  have R_4 := Lib.hid (R_3.out.below hb)
  have A_4 := Lib.hid (A_3.out.below hb)
  have W_4 := Lib.hid (W_3.out.below hb)
  have V_4 := Lib.hid (V_3.out.below hb)
  have X_4 := Lib.hid (ho)
  clear hb HB_3 R_3 A_3 W_3 V_3
  clear ho
  obtain ⟨g0, g1, g2⟩ := R_4.out
  go_wp2_with fail
  refine (toGroup_any _ _ _ _).mono ?_
  rintro e u5 ⟨rfl, hb⟩
  have HB_5 := Lib.hid (bt HB_4.out hb)
  have R_5 := Lib.hid (R_4.out.below hb)
  have A_5 := Lib.hid (A_4.out.below hb)
  have W_5 := Lib.hid (W_4.out.below hb)
  have V_5 := Lib.hid (V_4.out.below hb)
  have X_5 := Lib.hid (X_4.out.below hb)
  clear hb HB_4 R_4 A_4 W_4 V_4 X_4
  clear g0 g1 g2
  go_wp2_with fail
  refine (dealShares_ans P0 Q0 G0 a2 (by omega) X_5.out.toIn).mono ?_
  rw [HR.out]
  rw [HK.out]
  rintro e u6 ⟨ogv, rfl, ho, hb1⟩
  obtain ⟨oga1, oga2, ogb1, ogb2, hsh, _, _⟩ := InD.shape (OwD.toIn ho)
  subst hsh
  have LWG := Lib.hid W_5.out.le
  have LVG := Lib.hid V_5.out.lt
  have LRG := Lib.hid R_5.out.lt
  have LXG := Lib.hid X_5.out.le
  have LBG := Lib.hid HB_5.out.size
  have LXU := Lib.hid (Nat.le_trans X_5.out.le hb1.size)
  have hba := ba u6 (.cells #[.slice oga1 res.c.length oga2, .slice ogb1 res.s.length ogb2] 34)
  have hb := bt hb1 hba
  have HB_6 := Lib.hid (bt HB_5.out hb)
  have R_6 := Lib.hid (R_5.out.below hb)
  have A_6 := Lib.hid (A_5.out.below hb)
  have W_6 := Lib.hid (W_5.out.below hb)
  have V_6 := Lib.hid (V_5.out.below hb)
  have X_6 := Lib.hid (X_5.out.below hb)
  have G_6 := Lib.hid (ho.below hba)
  have U_6 := Lib.hid (v2_at u6 u6.heap.size rfl (.slice oga1 res.c.length oga2) (.slice ogb1 res.s.length ogb2) 34)
  clear hb HB_5 R_5 A_5 W_5 V_5 X_5
  clear ho hb1 hba
  obtain ⟨v0, v1, _⟩ := V_6.out
  obtain ⟨u0, u1, _⟩ := U_6.out
  go_wp2_with fail
  refine (eqD_any G_6.out.toIn W_6.out (by omega)).mono ?_
  rintro e u7 ⟨rfl, hb⟩
  have HB_7 := Lib.hid (bt HB_6.out hb)
  have R_7 := Lib.hid (R_6.out.below hb)
  have A_7 := Lib.hid (A_6.out.below hb)
  have W_7 := Lib.hid (W_6.out.below hb)
  have V_7 := Lib.hid (V_6.out.below hb)
  have X_7 := Lib.hid (X_6.out.below hb)
  have G_7 := Lib.hid (G_6.out.below hb)
  have U_7 := Lib.hid (U_6.out.below hb)
  clear hb HB_6 R_6 A_6 W_6 V_6 X_6 G_6 U_6
  clear v0 v1
  clear u0 u1
  go_wp2_with fail
  refine (toI_any A_7.out (by omega)).mono ?_
  rintro e u8 ⟨yC, rfl, ho, hb⟩
  have HB_8 := Lib.hid (bt HB_7.out hb)
  have R_8 := Lib.hid (R_7.out.below hb)
  have A_8 := Lib.hid (A_7.out.below hb)
  have W_8 := Lib.hid (W_7.out.below hb)
  have V_8 := Lib.hid (V_7.out.below hb)
  have X_8 := Lib.hid (X_7.out.below hb)
  have G_8 := Lib.hid (G_7.out.below hb)
  have U_8 := Lib.hid (U_7.out.below hb)
  have C_8 := Lib.hid (ho.toIn)
  clear hb HB_7 R_7 A_7 W_7 V_7 X_7 G_7 U_7
  clear ho
  go_wp2_with fail
  refine (eqI_any X_8.out.toIn C_8.out (by omega)).mono ?_
  rintro e u9 ⟨rfl, hb⟩
  have HB_9 := Lib.hid (bt HB_8.out hb)
  have R_9 := Lib.hid (R_8.out.below hb)
  have A_9 := Lib.hid (A_8.out.below hb)
  have W_9 := Lib.hid (W_8.out.below hb)
  have V_9 := Lib.hid (V_8.out.below hb)
  have X_9 := Lib.hid (X_8.out.below hb)
  have G_9 := Lib.hid (G_8.out.below hb)
  have U_9 := Lib.hid (U_8.out.below hb)
  clear hb HB_8 R_8 A_8 W_8 V_8 X_8 G_8 U_8 C_8
  go_wp2_with fail
  refine (markI_any X_9.out (by omega) (by omega) (by omega)).mono ?_
  rintro e u10 ⟨rfl, ho, hm⟩
  clear ho
  have R_10 := Lib.hid (gr_mid7 R_9.out hm LRx.out)
  have A_10 := Lib.hid (A_9.out.mid hm LBx.out)
  have W_10 := Lib.hid (W_9.out.mid hm LWx.out)
  have V_10 := Lib.hid (V_9.out.mid hm (.inl LVx.out))
  have G_10 := Lib.hid (G_9.out.mid hm (.inr LXG.out))
  have U_10 := Lib.hid (U_9.out.mid hm (.inr LXU.out))
  have HB_10 := Lib.hid (HB_9.out.trans (hm.toBelow LBx.out HB_9.out.size))
  clear hm HB_9 R_9 A_9 W_9 V_9 X_9 G_9 U_9
  obtain ⟨v0, v1, _⟩ := V_10.out
  obtain ⟨u0, u1, _⟩ := U_10.out
  go_wp2_with fail
  refine (eqD_any G_10.out.toIn W_10.out (by omega)).mono ?_
  rintro e u11 ⟨rfl, hb⟩
  have HB_11 := Lib.hid (bt HB_10.out hb)
  have R_11 := Lib.hid (R_10.out.below hb)
  have A_11 := Lib.hid (A_10.out.below hb)
  have W_11 := Lib.hid (W_10.out.below hb)
  have V_11 := Lib.hid (V_10.out.below hb)
  have G_11 := Lib.hid (G_10.out.below hb)
  have U_11 := Lib.hid (U_10.out.below hb)
  clear hb HB_10 R_10 A_10 W_10 V_10 G_10 U_10
  clear v0 v1
  clear u0 u1
  obtain ⟨u0, u1, _⟩ := U_11.out
  go_wp2_with fail
  refine (markD_any G_11.out (by omega) (by omega) (by omega)).mono ?_
  rintro e u12 ⟨rfl, ho, hm⟩
  clear u0 u1
  have R_12 := Lib.hid (gr_mid7 R_11.out hm LRG.out)
  have A_12 := Lib.hid (A_11.out.mid hm LBG.out)
  have W_12 := Lib.hid (W_11.out.mid hm LWG.out)
  have V_12 := Lib.hid (V_11.out.mid hm (.inl LVG.out))
  have U_12 := Lib.hid (U_11.out.mid hm (.inr (Nat.le_refl _)))
  have HB_12 := Lib.hid (HB_11.out.trans (hm.toBelow LBG.out HB_11.out.size))
  clear hm HB_11 R_11 A_11 W_11 V_11 G_11 U_11
  have G_12 := Lib.hid ho.toIn
  clear ho
  obtain ⟨u0, u1, _⟩ := U_12.out
  go_wp2_with fail
  refine (heldD_any G_12.out (by omega) (by omega) (by omega)).mono ?_
  rintro e u13 ⟨rfl, hb⟩
  have HB_13 := Lib.hid (bt HB_12.out hb)
  have R_13 := Lib.hid (R_12.out.below hb)
  have A_13 := Lib.hid (A_12.out.below hb)
  have W_13 := Lib.hid (W_12.out.below hb)
  have V_13 := Lib.hid (V_12.out.below hb)
  have U_13 := Lib.hid (U_12.out.below hb)
  have G_13 := Lib.hid (G_12.out.below hb)
  clear hb HB_12 R_12 A_12 W_12 V_12 U_12 G_12
  clear u0 u1
  obtain ⟨g0, g1, g2⟩ := R_13.out
  go_wp2_with fail
  refine (toGroup_any _ _ _ _).mono ?_
  rintro e u14 ⟨rfl, hb⟩
  have HB_14 := Lib.hid (bt HB_13.out hb)
  have R_14 := Lib.hid (R_13.out.below hb)
  have A_14 := Lib.hid (A_13.out.below hb)
  have W_14 := Lib.hid (W_13.out.below hb)
  have V_14 := Lib.hid (V_13.out.below hb)
  have U_14 := Lib.hid (U_13.out.below hb)
  have G_14 := Lib.hid (G_13.out.below hb)
  clear hb HB_13 R_13 A_13 W_13 V_13 U_13 G_13
  clear g0 g1 g2
  go_wp2_with fail
  refine (toI_any A_14.out (by omega)).mono ?_
  rintro e u15 ⟨yC, rfl, ho, hb⟩
  have HB_15 := Lib.hid (bt HB_14.out hb)
  have R_15 := Lib.hid (R_14.out.below hb)
  have A_15 := Lib.hid (A_14.out.below hb)
  have W_15 := Lib.hid (W_14.out.below hb)
  have V_15 := Lib.hid (V_14.out.below hb)
  have U_15 := Lib.hid (U_14.out.below hb)
  have G_15 := Lib.hid (G_14.out.below hb)
  have C_15 := Lib.hid (ho.toIn)
  clear hb HB_14 R_14 A_14 W_14 V_14 U_14 G_14
  clear ho
  go_wp2_with fail
  refine (dealShares_ans P0 Q0 G0 a2 (by omega) C_15.out).mono ?_
  rw [HR.out]
  rw [HK.out]
  rintro e u16 ⟨ohv, rfl, ho, hb1⟩
  obtain ⟨oha1, oha2, ohb1, ohb2, hsh, _, _⟩ := InD.shape (OwD.toIn ho)
  subst hsh
  have hba := ba u16 (.cells #[.slice oha1 res.c.length oha2, .slice ohb1 res.s.length ohb2] 34)
  have hb := bt hb1 hba
  have HB_16 := Lib.hid (bt HB_15.out hb)
  have R_16 := Lib.hid (R_15.out.below hb)
  have A_16 := Lib.hid (A_15.out.below hb)
  have W_16 := Lib.hid (W_15.out.below hb)
  have V_16 := Lib.hid (V_15.out.below hb)
  have U_16 := Lib.hid (U_15.out.below hb)
  have G_16 := Lib.hid (G_15.out.below hb)
  have H_16 := Lib.hid (InD.below (OwD.toIn ho) hba)
  have Z_16 := Lib.hid (v2_at u16 u16.heap.size rfl (.slice oha1 res.c.length oha2) (.slice ohb1 res.s.length ohb2) 34)
  clear hb HB_15 R_15 A_15 W_15 V_15 U_15 G_15 C_15
  clear ho hb1 hba
  obtain ⟨v0, v1, _⟩ := V_16.out
  obtain ⟨z0, z1, _⟩ := Z_16.out
  go_wp2_with fail
  refine (eqD_any H_16.out W_16.out (by omega)).mono ?_
  rintro e u17 ⟨rfl, hb⟩
  have HB_17 := Lib.hid (bt HB_16.out hb)
  have R_17 := Lib.hid (R_16.out.below hb)
  have A_17 := Lib.hid (A_16.out.below hb)
  have W_17 := Lib.hid (W_16.out.below hb)
  have V_17 := Lib.hid (V_16.out.below hb)
  have U_17 := Lib.hid (U_16.out.below hb)
  have G_17 := Lib.hid (G_16.out.below hb)
  have H_17 := Lib.hid (H_16.out.below hb)
  have Z_17 := Lib.hid (Z_16.out.below hb)
  clear hb HB_16 R_16 A_16 W_16 V_16 U_16 G_16 H_16 Z_16
  clear v0 v1
  clear z0 z1
  obtain ⟨u0, u1, _⟩ := U_17.out
  go_wp2_with fail
  refine (heldD_any G_17.out (by omega) (by omega) (by omega)).mono ?_
  rintro e u18 ⟨rfl, hb⟩
  have HB_18 := Lib.hid (bt HB_17.out hb)
  have R_18 := Lib.hid (R_17.out.below hb)
  have A_18 := Lib.hid (A_17.out.below hb)
  have W_18 := Lib.hid (W_17.out.below hb)
  have V_18 := Lib.hid (V_17.out.below hb)
  have U_18 := Lib.hid (U_17.out.below hb)
  have G_18 := Lib.hid (G_17.out.below hb)
  have H_18 := Lib.hid (H_17.out.below hb)
  have Z_18 := Lib.hid (Z_17.out.below hb)
  clear hb HB_17 R_17 A_17 W_17 V_17 U_17 G_17 H_17 Z_17
  clear u0 u1
  go_wp2
  go_ret
  exact ⟨rfl, HB_18.out⟩

/-! ### The row's step -/
set_option maxRecDepth 100000 in
theorem lifted (os : Os) (started : os.Started) (H : Type) (enc : TypeId × Value → H) :
    ReturnsInHanded {} Try.checked os 5 .any (Rows.fnExactDealSharesSpec.pre6 enc Try.prog Try.f5 Rows.fnExactDealSharesRow.domain false) (Rows.fnExactDealSharesSpec.post enc Try.prog Try.f5 false true false false) := by
  refine returnsInHanded_of_change (C := Try.checked) own started (by kernel_rfl) Try.func5
    (ChangeSpec.witness6 (enc := enc) (C := Try.checked) false ⟨#[], #[.agg #[.int .i64 0, .int .i64 0, .int .i64 0], .slice none 0 0, .int .i64 0], []⟩ 8 (by kernel_rfl) (by kernel_rfl) (by kernel_rfl) (by kernel_rfl)) ?_
  intro W base args ds gs before hval0 hW hcnd _
  have hval : ∀ (j : Nat) t v, Try.f5.params[j]? = some t → args[j]? = some v → Value.okWide Try.prog W .any base t v := hval0
  have hW' := hW
  obtain ⟨p, q, hA0, hV, rfl, hfz, hnd⟩ := hW
  have hA : DataW.TrodAll enc Try.prog W 0 (fun _ => true) true Try.f5.params.toList args.toList ds p := hA0
  rw [Try.params5] at hA hval
  obtain ⟨v0, vs0, d0, ds0, p0, q0, hargs, rfl, rfl, h0, r0⟩ := trodAll_cons hA
  obtain ⟨v1, vs1, d1, ds1, p1, q1, rfl, rfl, rfl, h1, r1⟩ := trodAll_cons r0
  obtain ⟨v2, vs2, d2, ds2, p2, q2, rfl, rfl, rfl, h2, r2⟩ := trodAll_cons r1
  obtain ⟨rfl, rfl, rfl⟩ := trodAll_nil r2
  obtain rfl : args = #[v0, v1, v2] := by cases args; simp_all
  obtain ⟨rfl, rfl⟩ := trodVars_none hV
  have k0 := h0
  have lt0 : ∀ x ∈ p0, x.block < W.heap.size := by obtain ⟨m, hm⟩ := k0; exact DataW.trod_lt m _ _ _ hm
  obtain ⟨c0_0, c0_1, c0_2, y0_0, y0_1, y0_2, m0, rfl, rfl, rfl, hy0_0, hy0_1, hy0_2⟩ := open_agg3 Try.underlying44 (by kernel_rfl) (by kernel_rfl) (hval 0 44 v0 rfl rfl) h0
  obtain ⟨P0, e0_0, _, wP0⟩ := DataW.trod_int Try.underlying3 hy0_0
  obtain rfl := (List.cons.inj e0_0).1
  obtain ⟨Q0, e0_1, _, wQ0⟩ := DataW.trod_int Try.underlying3 hy0_1
  obtain rfl := (List.cons.inj e0_1).1
  obtain ⟨G0, e0_2, _, wG0⟩ := DataW.trod_int Try.underlying3 hy0_2
  obtain rfl := (List.cons.inj e0_2).1
  have k1 := h1
  have lt1 : ∀ x ∈ p1, x.block < W.heap.size := by obtain ⟨m, hm⟩ := k1; exact DataW.trod_lt m _ _ _ hm
  obtain ⟨a1, len1, cap1, rfl⟩ := okWide_slice Try.underlying25 (hval 1 25 v1 rfl rfl)
  obtain ⟨z1, w1⟩ : ∃ zs, IsRow .i64 W a1 len1 cap1 zs := by
    obtain ⟨fuel, hf⟩ := h1
    rcases open_ints Try.underlying25 Try.underlying3 (by kernel_rfl) hf with ⟨hcs, _⟩ | ⟨x, l, c, zs, hcs, _, hl, hm, hz, _, hcell, hwz⟩
    · simp [Value.cells] at hcs
      obtain ⟨rfl, rfl, rfl⟩ := hcs
      exact ⟨[], .inl ⟨rfl, rfl, rfl, rfl⟩⟩
    · simp [Value.cells] at hcs
      obtain ⟨rfl, rfl, rfl⟩ := hcs
      exact ⟨zs, .inr ⟨_, rfl, hl, hm, by simpa using hz, hcell, hwz⟩⟩
  obtain ⟨a2, rfl, rfl, rfl, w2⟩ := open_int Try.underlying3 (hval 2 3 v2 rfl rfl) h2
  clear hA0 hval0
  refine (walk P0 Q0 G0 a1 len1 cap1 z1 a2 W wP0 wQ0 wG0 w1 w2).mono fun e W' ⟨he, bel⟩ => ?_
  subst he
  exact ⟨_, rfl, _, _, _, [], _, [], hW', trodAll_mk1 (shut_bool Try.underlying4 _), (trodAll_cons_mk (Below.trod laidOut (by kernel_rfl) (of_decide_eq_true (by kernel_rfl)) k0 bel lt0) (trodAll_cons_mk (Below.trod laidOut (by kernel_rfl) (of_decide_eq_true (by kernel_rfl)) k1 bel lt1) (trodAll_cons_mk (shut_int Try.underlying3 w2) trodAll_mk0))), rfl, bel.frame _, fun h => by cases h⟩

theorem over : Rows.fnExactDealSharesRow.holds Try.pinned (OpenSpec.ofChange Rows.fnExactDealSharesSpec) :=
  OpenClaim.holds_of_wide 5 Try.f5 rfl rfl rfl rfl rfl rfl rfl ⟨rfl, rfl, rfl, rfl, rfl⟩ rfl rfl rfl rfl rfl (by kernel_rfl) Try.func5
    (show joinedFacts Try.prog 5 Try.f5 Rows.fnExactDealSharesSpec Rows.fnExactDealSharesRow = true by unfold joinedFacts; rw [Head.make, Head.lifts, Head.enters]; kernel_rfl)
    (of_decide_eq_true (by kernel_rfl)) (by unfold Func.isWrapper; first | (rw [if_pos (by decide +kernel)]; kernel_rfl) | (rw [if_neg (by decide +kernel)]; exact ⟨rfl, rfl⟩))
    (fun os started H enc _ => lifted os started H enc)

/-- The statement. -/
theorem proved : Rows.FnExactDealSharesSaid := over
#print axioms proved
end Go.Proofs.Ytfjaohmildkeoaa.fnExactDealShares
