/-
For every proof the law FnExactEncodeProof returns true: the program's EncodeProof answers as the reference's does, leaves its argument as it was, and its answer owns its memory.
No condition.
-/
import Derived.Test.YtmiohdibbpckaaaRows
import Derived.WalkKit
import Derived.ProofKit
import Derived.OpenShut
import Derived.ShutString
import Derived.ChangeOld
import Derived.Below
import Derived.Lib.SmallJoins
import Derived.Test.YtmiohdibbpckaaaRecC
import Derived.Test.YtmiohdibbpckaaaOpP
import Derived.Deep.RegionHeld3
import Derived.Test.YtmiohdibbpckaaaFacts
namespace Go.Proofs.Ytmiohdibbpckaaa.fnExactEncodeProof
open Go.Joins Go.ChangeShapes Go.WideShapes Go.ChangeAt Go.RowKit Go.Deep
open Go.ChangeMaps (open_string shut_string)
set_option linter.unusedVariables false

theorem own : ownKnob Try.prog.godebug = none := by kernel_rfl
theorem laidOut : laidOutB Try.prog = true := by kernel_rfl

/-- What the walk is told of a slice of integers that came in: it is nil; or it leads to a row of 'cap' cells that hold the numbers 'zs'. -/
def IsRow (k : IntKind) (w : World) (a : Option Addr) (len cap : Nat) (zs : List Int) : Prop :=
  (a = none ∧ len = 0 ∧ cap = 0 ∧ zs = []) ∨
  ∃ x, a = some x ∧ len ≤ cap ∧ cap ≤ maxLen ∧ zs.length = cap ∧ (∀ i, i < zs.length → w.cell? (x.add i) = some (.int k (zs.getD i 0))) ∧ ∀ n ∈ zs, (Lit.int k n).wf = true



/-! ### STEP 1: the walk: the Go text returns true and writes nothing that was there -/
set_option maxRecDepth 100000 in
set_option maxHeartbeats 3200000 in
theorem walk (a0 : Value) (w : World) (w0 : ∃ q : PrD, InP w.heap.size w a0 q ∧ q.c.length ≤ maxLen ∧ q.h.length ≤ maxLen ∧ q.r.length ≤ maxLen) :
    Calls Try.prog 3 #[a0] w fun e w' => e = .returned (.bool true) ∧ Below w.heap.size w w' := by
  obtain ⟨q, hz, hm1, hm2, hm3⟩ := w0
  obtain ⟨a1, a2, b1, b2, c1, c2, rfl⟩ := hz.shape
  have hal := ba w (.cells #[.slice a1 q.c.length a2, .slice b1 q.h.length b2, .slice c1 q.r.length c2] 24)
  have Ha_0 := Lib.hid (hz.below hal)
  have HX_0 := Lib.hid (b3_new w (.slice a1 q.c.length a2) (.slice b1 q.h.length b2) (.slice c1 q.r.length c2) 24)
  have HB_0 := Lib.hid hal
  clear hz hal
  by_cases hbig : 1048576 < q.n
  · have e1 : szV q.n 1048576 = -1 := by unfold szV; rw [if_neg (by omega)]
    have E1 := Lib.hid e1
    clear e1
    obtain ⟨x0, x1, x2, _⟩ := HX_0.out
    go_enter Try.func3, Try.ntmps3
    go_wp2_with fail
    refine (szP_any Ha_0.out (by omega) (by omega) hm1 hm2 hm3).mono ?_
    rw [E1.out]
    rintro e w1 ⟨rfl, hb⟩
    have HB_1 := Lib.hid (bt HB_0.out hb)
    clear hb x0 x1 x2
    go_wp2
    go_ret
    exact ⟨rfl, HB_1.out⟩
  have e1 : szV q.n 1048576 = 1048576 - ((q.n : Nat) : Int) := by unfold szV; rw [if_pos (by omega)]
  have E1 := Lib.hid e1
  have hql : q.n ≤ 1048576 := by omega
  have hlr := recL_length (encP q)
  generalize hR : recL (encP q) = res at hlr
  generalize hK : hashB (encP q) = ok
  have HR := Lib.hid hR
  have HK := Lib.hid hK
  clear hR hK e1
  obtain ⟨x0, x1, x2, _⟩ := HX_0.out
  go_enter Try.func3, Try.ntmps3
  go_wp2_with fail
  refine (szP_any Ha_0.out (by omega) (by omega) hm1 hm2 hm3).mono ?_
  rw [E1.out]
  rintro e v0 ⟨rfl, hb⟩
  have hqi : 0 ≤ 1048576 - (q.n : Int) := by omega
  clear x0 x1 x2
  have Ha_1 := Lib.hid (Ha_0.out.below hb)
  have HX_1 := Lib.hid (HX_0.out.below hb)
  have HB_1 := Lib.hid (bt HB_0.out hb)
  clear hb Ha_0 HX_0 HB_0
  obtain ⟨x0, x1, x2, _⟩ := HX_1.out
  go_wp2_with fail
  refine (toP_any Ha_1.out (by omega)).mono ?_
  rintro e v2 ⟨u, rfl, ho, hb⟩
  clear x0 x1 x2
  obtain ⟨_, _, _, _, _, _, rfl⟩ := ho.toIn.shape
  have Ha_2 := Lib.hid (Ha_1.out.below hb)
  have HX_2 := Lib.hid (HX_1.out.below hb)
  have HB_2 := Lib.hid (bt HB_1.out hb)
  have HC_2 := Lib.hid (ho.toIn)
  clear hb Ha_1 HX_1 HB_1
  clear ho
  go_wp2_with fail
  refine (sEncodeProof_any HC_2.out (by omega)).mono ?_
  rw [HR.out]
  rw [HK.out]
  rintro e v3 ⟨rw0, rfl, ho, hb⟩
  have Ha_3 := Lib.hid (Ha_2.out.below hb)
  have HX_3 := Lib.hid (HX_2.out.below hb)
  have HB_3 := Lib.hid (bt HB_2.out hb)
  have HW_3 := Lib.hid (ho.toIn)
  clear hb Ha_2 HX_2 HC_2 HB_2
  clear ho
  obtain ⟨x0, x1, x2, _⟩ := HX_3.out
  go_wp2_with fail
  refine (toP_any Ha_3.out (by omega)).mono ?_
  rintro e v4 ⟨u, rfl, ho, hb1⟩
  clear x0 x1 x2
  obtain ⟨d1, d2, e1, e2, f1, f2, rfl⟩ := ho.toIn.shape
  have LWx := Lib.hid HW_3.out.le
  have LBx := Lib.hid HB_3.out.size
  have LAx := Lib.hid Ha_3.out.le
  have LXx := Lib.hid HX_3.out.lt
  have hba := ba v4 (.cells #[.slice d1 q.c.length d2, .slice e1 q.h.length e2, .slice f1 q.r.length f2] 28)
  have hb := bt hb1 hba
  have Ha_4 := Lib.hid (Ha_3.out.below hb)
  have HX_4 := Lib.hid (HX_3.out.below hb)
  have HW_4 := Lib.hid (HW_3.out.below hb)
  have HB_4 := Lib.hid (bt HB_3.out hb)
  have Hx_4 := Lib.hid (ho.below hba)
  have HY_4 := Lib.hid (b3_new v4 (.slice d1 q.c.length d2) (.slice e1 q.h.length e2) (.slice f1 q.r.length f2) 28)
  clear hb Ha_3 HX_3 HW_3 HB_3
  clear ho hb1 hba
  obtain ⟨y0, y1, y2, _⟩ := HY_4.out
  go_wp2_with fail
  refine (encodeProof_any Hx_4.out.toIn (by omega)).mono ?_
  rw [HR.out]
  rw [HK.out]
  rintro e v5 ⟨rg0, rfl, ho, hb⟩
  clear y0 y1 y2
  have LWG := Lib.hid HW_4.out.le
  have LaG := Lib.hid Ha_4.out.le
  have LxG := Lib.hid Hx_4.out.le
  have LBG := Lib.hid HB_4.out.size
  have LXG := Lib.hid HX_4.out.lt
  have Ha_5 := Lib.hid (Ha_4.out.below hb)
  have HX_5 := Lib.hid (HX_4.out.below hb)
  have HW_5 := Lib.hid (HW_4.out.below hb)
  have Hx_5 := Lib.hid (Hx_4.out.below hb)
  have HY_5 := Lib.hid (HY_4.out.below hb)
  have HB_5 := Lib.hid (bt HB_4.out hb)
  have HG_5 := Lib.hid (ho)
  clear hb Ha_4 HX_4 HW_4 Hx_4 HY_4 HB_4
  clear ho
  go_wp2_with fail
  refine (eqI_any HG_5.out.toIn HW_5.out (by omega)).mono ?_
  rintro e v6 ⟨rfl, hb⟩
  have Ha_6 := Lib.hid (Ha_5.out.below hb)
  have HX_6 := Lib.hid (HX_5.out.below hb)
  have HW_6 := Lib.hid (HW_5.out.below hb)
  have Hx_6 := Lib.hid (Hx_5.out.below hb)
  have HY_6 := Lib.hid (HY_5.out.below hb)
  have HG_6 := Lib.hid (HG_5.out.below hb)
  have HB_6 := Lib.hid (bt HB_5.out hb)
  clear hb Ha_5 HX_5 HW_5 Hx_5 HY_5 HG_5 HB_5
  go_wp2_with fail
  have had := Lib.hid (Ha_6.out.below ((Below.refl _ v6).drew))
  have hxd := Lib.hid (Hx_6.out.toIn.below ((Below.refl _ v6).drew))
  obtain ⟨x0, x1, x2, _⟩ := HX_6.out
  obtain ⟨y0, y1, y2, _⟩ := HY_6.out
  go_region_held3 (fun w' => (w'.cell? ⟨w.heap.size, 0, none⟩ = some (.slice a1 q.c.length a2) ∧ w'.cell? ⟨w.heap.size, 1, none⟩ = some (.slice b1 q.h.length b2) ∧ w'.cell? ⟨w.heap.size, 2, none⟩ = some (.slice c1 q.r.length c2)) ∧ w'.cell? ⟨v4.heap.size, 0, none⟩ = some (.slice d1 q.c.length d2) ∧ w'.cell? ⟨v4.heap.size, 1, none⟩ = some (.slice e1 q.h.length e2) ∧ w'.cell? ⟨v4.heap.size, 2, none⟩ = some (.slice f1 q.r.length f2)) (first | with_reducible exact ⟨⟨s0, s1, s2⟩, t0, t1, t2⟩ | with_reducible exact ⟨⟨r0, r1, r2⟩, z0, z1, z2⟩ | exact ⟨⟨x0, x1, x2⟩, y0, y1, y2⟩) ((first
    | (go_at_call 17; (with_reducible refine (eqP_any hxe.out hce.out (by omega)).mono ?_); rintro e wb ⟨rfl, hbb⟩; have HBb := Lib.hid (bt HBa.out hbb); obtain ⟨s0, s1, s2, _⟩ := HX_6.out.below HBb.out; obtain ⟨t0, t1, t2, _⟩ := HY_6.out.below HBb.out; clear hbb)
    | (go_at_call 14; (with_reducible refine (toP_any had.out (by omega)).mono ?_); rintro e wa ⟨u, rfl, hoa, hba⟩; obtain ⟨_, _, _, _, _, _, rfl⟩ := hoa.toIn.shape; have HBa := Lib.hid (show Below v6.heap.size v6 wa from bt ((Below.refl _ _).drew) hba); have hxe := Lib.hid (hxd.out.below hba); have hce := Lib.hid hoa.toIn; obtain ⟨r0, r1, r2, _⟩ := HX_6.out.below HBa.out; obtain ⟨z0, z1, z2, _⟩ := HY_6.out.below HBa.out; clear hoa hba)))
  have hb := HBb.out
  clear x0 x1 x2 y0 y1 y2 r0 r1 r2 z0 z1 z2 s0 s1 s2 t0 t1 t2 had hxd hxe hce HBa HBb
  have Ha_7 := Lib.hid (Ha_6.out.below hb)
  have HX_7 := Lib.hid (HX_6.out.below hb)
  have HW_7 := Lib.hid (HW_6.out.below hb)
  have Hx_7 := Lib.hid (Hx_6.out.below hb)
  have HY_7 := Lib.hid (HY_6.out.below hb)
  have HG_7 := Lib.hid (HG_6.out.below hb)
  have HB_7 := Lib.hid (bt HB_6.out hb)
  clear hb Ha_6 HX_6 HW_6 Hx_6 HY_6 HG_6 HB_6
  obtain ⟨y0, y1, y2, _⟩ := HY_7.out
  go_wp2_with fail
  refine (markP_any Hx_7.out (by omega) (by omega) (by omega)).mono ?_
  rintro e v8 ⟨rfl, ho, hm⟩
  clear ho
  clear y0 y1 y2
  have Ha_8 := Lib.hid (Ha_7.out.mid hm LAx.out)
  have HX_8 := Lib.hid (HX_7.out.mid hm (.inl LXx.out))
  have HW_8 := Lib.hid (HW_7.out.mid hm LWx.out)
  have HG_8 := Lib.hid (HG_7.out.mid hm (.inr LxG.out))
  have HB_8 := Lib.hid (HB_7.out.trans (hm.toBelow LBx.out HB_7.out.size))
  clear hm Ha_7 HX_7 HW_7 Hx_7 HY_7 HG_7 HB_7
  go_wp2_with fail
  refine (eqI_any HG_8.out.toIn HW_8.out (by omega)).mono ?_
  rintro e v9 ⟨rfl, hb⟩
  have Ha_9 := Lib.hid (Ha_8.out.below hb)
  have HX_9 := Lib.hid (HX_8.out.below hb)
  have HW_9 := Lib.hid (HW_8.out.below hb)
  have HG_9 := Lib.hid (HG_8.out.below hb)
  have HB_9 := Lib.hid (bt HB_8.out hb)
  clear hb Ha_8 HX_8 HW_8 HG_8 HB_8
  go_wp2_with fail
  refine (markI_any HG_9.out (by omega) (by omega) (by omega)).mono ?_
  rintro e v10 ⟨rfl, ho, hm⟩
  clear HG_9
  have Ha_10 := Lib.hid (Ha_9.out.mid hm LaG.out)
  have HX_10 := Lib.hid (HX_9.out.mid hm (.inl LXG.out))
  have HW_10 := Lib.hid (HW_9.out.mid hm LWG.out)
  have HB_10 := Lib.hid (HB_9.out.trans (hm.toBelow LBG.out HB_9.out.size))
  clear hm Ha_9 HX_9 HW_9 HB_9
  have HG_10 := Lib.hid ho.toIn
  clear ho
  go_wp2_with fail
  refine (heldI_any HG_10.out (by omega) (by omega) (by omega)).mono ?_
  rintro e w' ⟨rfl, rfl⟩
  obtain ⟨x0, x1, x2, _⟩ := HX_10.out
  go_wp2_with fail
  refine (toP_any Ha_10.out (by omega)).mono ?_
  rintro e v11 ⟨u, rfl, ho, hb⟩
  clear x0 x1 x2
  obtain ⟨_, _, _, _, _, _, rfl⟩ := ho.toIn.shape
  have Ha_11 := Lib.hid (Ha_10.out.below hb)
  have HX_11 := Lib.hid (HX_10.out.below hb)
  have HW_11 := Lib.hid (HW_10.out.below hb)
  have HG_11 := Lib.hid (HG_10.out.below hb)
  have HB_11 := Lib.hid (bt HB_10.out hb)
  have HC_11 := Lib.hid (ho.toIn)
  clear hb Ha_10 HX_10 HW_10 HG_10 HB_10
  clear ho
  go_wp2_with fail
  refine (encodeProof_any HC_11.out (by omega)).mono ?_
  rw [HR.out]
  rw [HK.out]
  rintro e v12 ⟨rh0, rfl, ho, hb⟩
  have Ha_12 := Lib.hid (Ha_11.out.below hb)
  have HX_12 := Lib.hid (HX_11.out.below hb)
  have HW_12 := Lib.hid (HW_11.out.below hb)
  have HG_12 := Lib.hid (HG_11.out.below hb)
  have HB_12 := Lib.hid (bt HB_11.out hb)
  have HH_12 := Lib.hid (ho.toIn)
  clear hb Ha_11 HX_11 HW_11 HG_11 HC_11 HB_11
  clear ho
  go_wp2_with fail
  refine (eqI_any HH_12.out HW_12.out (by omega)).mono ?_
  rintro e v13 ⟨rfl, hb⟩
  have Ha_13 := Lib.hid (Ha_12.out.below hb)
  have HX_13 := Lib.hid (HX_12.out.below hb)
  have HW_13 := Lib.hid (HW_12.out.below hb)
  have HG_13 := Lib.hid (HG_12.out.below hb)
  have HH_13 := Lib.hid (HH_12.out.below hb)
  have HB_13 := Lib.hid (bt HB_12.out hb)
  clear hb Ha_12 HX_12 HW_12 HG_12 HH_12 HB_12
  go_wp2_with fail
  refine (heldI_any HG_13.out (by omega) (by omega) (by omega)).mono ?_
  rintro e w' ⟨rfl, rfl⟩
  go_wp2
  go_ret
  exact ⟨rfl, HB_13.out⟩

/-! ### The row's step -/
set_option maxRecDepth 100000 in
theorem lifted (os : Os) (started : os.Started) (H : Type) (enc : TypeId × Value → H) :
    ReturnsInHanded {} Try.checked os 3 .any (Rows.fnExactEncodeProofSpec.pre6 enc Try.prog Try.f3 Rows.fnExactEncodeProofRow.domain false) (Rows.fnExactEncodeProofSpec.post enc Try.prog Try.f3 false true false false) := by
  refine returnsInHanded_of_change (C := Try.checked) own started (by kernel_rfl) Try.func3
    (ChangeSpec.witness6 (enc := enc) (C := Try.checked) false ⟨#[], #[.agg #[.slice none 0 0, .slice none 0 0, .slice none 0 0]], []⟩ 8 (by kernel_rfl) (by kernel_rfl) (by kernel_rfl) (by kernel_rfl)) ?_
  intro W base args ds gs before hval0 hW hcnd _
  have hval : ∀ (j : Nat) t v, Try.f3.params[j]? = some t → args[j]? = some v → Value.okWide Try.prog W .any base t v := hval0
  have hW' := hW
  obtain ⟨p, q, hA0, hV, rfl, hfz, hnd⟩ := hW
  have hA : DataW.TrodAll enc Try.prog W 0 (fun _ => true) true Try.f3.params.toList args.toList ds p := hA0
  rw [Try.params3] at hA hval
  obtain ⟨v0, vs0, d0, ds0, p0, q0, hargs, rfl, rfl, h0, r0⟩ := trodAll_cons hA
  obtain ⟨rfl, rfl, rfl⟩ := trodAll_nil r0
  obtain rfl : args = #[v0] := by cases args; simp_all
  obtain ⟨rfl, rfl⟩ := trodVars_none hV
  have k0 := h0
  have lt0 : ∀ x ∈ p0, x.block < W.heap.size := by obtain ⟨m, hm⟩ := k0; exact DataW.trod_lt m _ _ _ hm
  have w0 := inP_open (hval 0 24 v0 rfl rfl) h0
  clear hA0 hval0
  refine (walk _ W w0).mono fun e W' ⟨he, bel⟩ => ?_
  subst he
  exact ⟨_, rfl, _, _, _, [], _, [], hW', trodAll_mk1 (shut_bool Try.underlying4 _), (trodAll_cons_mk (Below.trod laidOut (by kernel_rfl) (of_decide_eq_true (by kernel_rfl)) k0 bel lt0) trodAll_mk0), rfl, bel.frame _, fun h => by cases h⟩

theorem over : Rows.fnExactEncodeProofRow.holds Try.pinned (OpenSpec.ofChange Rows.fnExactEncodeProofSpec) :=
  OpenClaim.holds_of_wide 3 Try.f3 rfl rfl rfl rfl rfl rfl rfl ⟨rfl, rfl, rfl, rfl, rfl⟩ rfl rfl rfl rfl rfl (by kernel_rfl) Try.func3
    (show joinedFacts Try.prog 3 Try.f3 Rows.fnExactEncodeProofSpec Rows.fnExactEncodeProofRow = true by unfold joinedFacts; rw [Head.make, Head.lifts, Head.enters]; kernel_rfl)
    (of_decide_eq_true (by kernel_rfl)) (by unfold Func.isWrapper; first | (rw [if_pos (by decide +kernel)]; kernel_rfl) | (rw [if_neg (by decide +kernel)]; exact ⟨rfl, rfl⟩))
    (fun os started H enc _ => lifted os started H enc)

/-- The statement. -/
theorem proved : Rows.FnExactEncodeProofSaid := over
#print axioms proved
end Go.Proofs.Ytmiohdibbpckaaa.fnExactEncodeProof
