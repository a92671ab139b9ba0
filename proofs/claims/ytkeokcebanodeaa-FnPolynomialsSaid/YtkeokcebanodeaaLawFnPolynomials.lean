/-
For all bytes the law FnPolynomials returns true: for what is drawn the program's sums and products of polynomials are the reference's, and values of sums and products are sums and products of values.
No condition.
-/
import Derived.Test.YtkeokcebanodeaaRows
import Derived.WalkKit
import Derived.ProofKit
import Derived.OpenShut
import Derived.SizedLaws
import Derived.ShutString
import Derived.ChangeOld
import Derived.Below
import Derived.Test.YtkeokcebanodeaaPolX
import Derived.Test.YtkeokcebanodeaaFacts
namespace Go.Proofs.Ytkeokcebanodeaa.fnPolynomials
open Go.ChangeShapes Go.WideShapes Go.ChangeAt Go.RowKit
open Go.ChangeMaps (open_string shut_string)
set_option linter.unusedVariables false

theorem own : ownKnob Try.prog.godebug = none := by kernel_rfl
theorem laidOut : laidOutB Try.prog = true := by kernel_rfl

theorem bytes5 : Try.prog.bytesOf 5 = 1 := by kernel_rfl

/-- WHAT THE WALK IS TOLD OF A SLICE OF INTEGERS THAT CAME IN: it is nil; or it leads to a row of 'cap' cells, the numbers 'zs' (the first 'len' are its elements, the rest its spare room), each fitting its kind. -/
def IsRow (k : IntKind) (w : World) (a : Option Addr) (len cap : Nat) (zs : List Int) : Prop :=
  (a = none ∧ len = 0 ∧ cap = 0 ∧ zs = []) ∨
  ∃ x, a = some x ∧ len ≤ cap ∧ cap ≤ maxLen ∧ zs.length = cap ∧ (∀ i, i < zs.length → w.cell? (x.add i) = some (.int k (zs.getD i 0))) ∧ ∀ n ∈ zs, (Lit.int k n).wf = true

theorem qI_any {P P' : Nat} {w : World} {v v' : Value} {zs : List Int} (h : InI P w v zs) (h' : InI P' w v' zs) (hl : zs.length ≤ 1000) :
    Calls Try.prog 20 #[v, v'] w fun e w' => e = .returned (.bool true) ∧ Below w.heap.size w w' := by
  obtain ⟨_, ad, cap, rfl, h1, _⟩ := h
  obtain ⟨_, ad', cap', rfl, h1', _⟩ := h'
  exact qInts_same ad ad' _ _ cap cap' zs rfl rfl (by omega) w h1.ints h1'.ints

/-! ### STEP 1: THE WALK: the Go text returns true, AND WRITES NOTHING THAT WAS THERE: 'Below w.heap.size w w'' (Derived/Below.lean: '.refl', '.alloc', '.drew', '.setCell' at a new block, '.trans'). Open each 'IsRow' by 'rcases' AHEAD of 'go_enter'; part every test ahead of the walk. -/
set_option maxRecDepth 100000 in
set_option maxHeartbeats 3200000 in
theorem walk (a0 : Option Addr) (len0 cap0 : Nat) (z0 : List Int) (a1 : Option Addr) (len1 cap1 : Nat) (z1 : List Int) (w : World) (w0 : IsRow .u8 w a0 len0 cap0 z0) (w1 : IsRow .u8 w a1 len1 cap1 z1) (s0 : len0 ≤ 140737488351232) (s1 : len1 ≤ 140737488351232) :
    Calls Try.prog 3 #[.slice a0 len0 cap0, .slice a1 len1 cap1] w fun e w' => e = .returned (.bool true) ∧ Below w.heap.size w w' := by
  have hb0 := isB_of_row w0
  have hb1 := isB_of_row w1
  clear w0 w1
  by_cases hbig : 1048576 < (len0 : Int) + len1
  · go_enter Try.func3, Try.ntmps3
    go_wp2
    go_ret
    first | exact ⟨rfl, Below.refl _ _⟩ | exact rfl
  · have HB0 := Lib.hid hb0
    have HB1 := Lib.hid hb1
    clear hb0 hb1
    go_enter Try.func3, Try.ntmps3
    go_wp2_with fail
    refine (drawMulPolys_any _ _ _ _ HB0.out).mono ?_
    rintro e v1 ⟨q, vf, vg, fs, gs, rfl, ⟨hq0, hq1⟩, hf, hg, hlf, hlg, hv1⟩
    have HF := Lib.hid hf
    have HG := Lib.hid hg
    have HV1 := Lib.hid hv1
    have hlh := mulRes_le q fs gs
    obtain ⟨hs, hhs⟩ : ∃ hs, mulRes q fs gs = hs := ⟨_, rfl⟩
    obtain ⟨ok, hok⟩ : ∃ ok, mulB q fs gs = ok := ⟨_, rfl⟩
    rw [hhs] at hlh
    have HHS := Lib.hid hhs
    have HOK := Lib.hid hok
    clear hf hg hv1 hbig hhs hok
    go_wp2_with fail
    refine (mulPolys_ans HF.out HG.out (by omega) (by omega)).mono ?_
    rw [HHS.out, HOK.out]
    rintro e v2 ⟨vh, rfl, hh, hv2⟩
    have HF2 := Lib.hid (HF.out.below hv2)
    have HG2 := Lib.hid (HG.out.below hv2)
    have HH2 := Lib.hid hh.toIn
    have HV2 := Lib.hid (bt HV1.out hv2)
    clear hh hv2 HF HG HV1
    go_wp2_with fail
    refine (sMulPolys_ans HF2.out HG2.out (by omega) (by omega)).mono ?_
    rw [HHS.out, HOK.out]
    rintro e v3 ⟨vw, rfl, hw, hv3⟩
    have HF3 := Lib.hid (HF2.out.below hv3)
    have HG3 := Lib.hid (HG2.out.below hv3)
    have HH3 := Lib.hid (HH2.out.below hv3)
    have HW3 := Lib.hid hw.toIn
    have HV3 := Lib.hid (bt HV2.out hv3)
    clear hw hv3 HF2 HG2 HH2 HV2
    go_wp2_with fail
    refine (drawAddPolys_any _ _ _ _ (HB1.out.below HV3.out)).mono ?_
    rintro e v4 ⟨m, va, vb, al, bs, rfl, ⟨hm0, hm1⟩, ha, hb, hla, hlb, hv4⟩
    have HF4 := Lib.hid (HF3.out.below hv4)
    have HG4 := Lib.hid (HG3.out.below hv4)
    have HH4 := Lib.hid (HH3.out.below hv4)
    have HW4 := Lib.hid (HW3.out.below hv4)
    have HA4 := Lib.hid ha
    have HBb4 := Lib.hid hb
    have HV4 := Lib.hid (bt HV3.out hv4)
    have hls := addRes_le m al bs
    obtain ⟨ss, hss⟩ : ∃ ss, addRes m al bs = ss := ⟨_, rfl⟩
    obtain ⟨one, hone⟩ : ∃ one, fieldB m [al, bs] = one := ⟨_, rfl⟩
    rw [hss] at hls
    have HSS := Lib.hid hss
    have HONE := Lib.hid hone
    clear ha hb hv4 hss hone HF3 HG3 HH3 HW3 HV3
    go_wp2_with fail
    refine (addPolys_ans HA4.out HBb4.out (by omega) (by omega)).mono ?_
    rw [HSS.out, HONE.out]
    rintro e v5 ⟨vs, rfl, hs5, hv5⟩
    have HF5 := Lib.hid (HF4.out.below hv5)
    have HG5 := Lib.hid (HG4.out.below hv5)
    have HH5 := Lib.hid (HH4.out.below hv5)
    have HW5 := Lib.hid (HW4.out.below hv5)
    have HA5 := Lib.hid (HA4.out.below hv5)
    have HBb5 := Lib.hid (HBb4.out.below hv5)
    have HS5 := Lib.hid hs5.toIn
    have HV5 := Lib.hid (bt HV4.out hv5)
    clear hs5 hv5 HF4 HG4 HH4 HW4 HA4 HBb4 HV4
    go_wp2_with fail
    refine (sAddPolys_ans HA5.out HBb5.out (by omega) (by omega)).mono ?_
    rw [HSS.out, HONE.out]
    rintro e v6 ⟨vu, rfl, hu6, hv6⟩
    have HF6 := Lib.hid (HF5.out.below hv6)
    have HG6 := Lib.hid (HG5.out.below hv6)
    have HH6 := Lib.hid (HH5.out.below hv6)
    have HW6 := Lib.hid (HW5.out.below hv6)
    have HA6 := Lib.hid (HA5.out.below hv6)
    have HBb6 := Lib.hid (HBb5.out.below hv6)
    have HS6 := Lib.hid (HS5.out.below hv6)
    have HU6 := Lib.hid hu6.toIn
    have HV6 := Lib.hid (bt HV5.out hv6)
    clear hu6 hv6 HF5 HG5 HH5 HW5 HA5 HBb5 HS5 HV5
    go_wp2_with fail
    refine (qI_any HH6.out HW6.out (by omega)).mono ?_
    rintro e v7 ⟨rfl, hv7⟩
    have HF7 := Lib.hid (HF6.out.below hv7)
    have HG7 := Lib.hid (HG6.out.below hv7)
    have HH7 := Lib.hid (HH6.out.below hv7)
    have HA7 := Lib.hid (HA6.out.below hv7)
    have HBb7 := Lib.hid (HBb6.out.below hv7)
    have HS7 := Lib.hid (HS6.out.below hv7)
    have HU7 := Lib.hid (HU6.out.below hv7)
    have HV7 := Lib.hid (bt HV6.out hv7)
    clear hv7 HF6 HG6 HH6 HW6 HA6 HBb6 HS6 HU6 HV6
    go_wp2_with fail
    refine (qI_any HS7.out HU7.out (by omega)).mono ?_
    rintro e v8 ⟨rfl, hv8⟩
    have HF8 := Lib.hid (HF7.out.below hv8)
    have HG8 := Lib.hid (HG7.out.below hv8)
    have HH8 := Lib.hid (HH7.out.below hv8)
    have HA8 := Lib.hid (HA7.out.below hv8)
    have HBb8 := Lib.hid (HBb7.out.below hv8)
    have HS8 := Lib.hid (HS7.out.below hv8)
    have HV8 := Lib.hid (bt HV7.out hv8)
    clear hv8 HF7 HG7 HH7 HA7 HBb7 HS7 HU7 HV7
    cases one
    · skip
      cases ok
      · go_wp2
        go_ret
        exact ⟨rfl, HV8.out⟩
      · obtain ⟨⟨q2, q3⟩, ef, eg, eh, ⟨xf0, xf1⟩, ⟨xg0, xg1⟩, ez⟩ := mul_facts HOK.out
        rw [HHS.out] at eh ez
        have EF := Lib.hid ef
        have EG := Lib.hid eg
        have EH := Lib.hid eh
        obtain ⟨X, hX⟩ : ∃ X, evRes q 1 fs = X := ⟨_, rfl⟩
        obtain ⟨Y, hY⟩ : ∃ Y, evRes q 1 gs = Y := ⟨_, rfl⟩
        obtain ⟨Z, hZ⟩ : ∃ Z, evRes q 1 hs = Z := ⟨_, rfl⟩
        rw [hX, hY, hZ] at ez
        rw [hX] at xf0 xf1
        rw [hY] at xg0 xg1
        have HX := Lib.hid hX
        have HY := Lib.hid hY
        have HZ := Lib.hid hZ
        obtain ⟨m0, m1⟩ := mul_res q3 xf0 xf1 xg0 xg1
        have hzb : (Z == X * Y % q) = true := by simp [ez]
        clear ef eg eh hX hY hZ ez
        go_wp2_with fail
        refine (evalPoly_ans HF8.out (by omega)).mono ?_
        rw [HX.out, EF.out]
        rintro e u1 ⟨rfl, hu1⟩
        have HGa := Lib.hid (HG8.out.below hu1)
        have HHa := Lib.hid (HH8.out.below hu1)
        have HVa := Lib.hid (bt HV8.out hu1)
        clear hu1
        go_wp2_with fail
        refine (evalPoly_ans HGa.out (by omega)).mono ?_
        rw [HY.out, EG.out]
        rintro e u2 ⟨rfl, hu2⟩
        have HHb := Lib.hid (HHa.out.below hu2)
        have HVb := Lib.hid (bt HVa.out hu2)
        clear hu2
        go_wp2_with fail
        refine (evalPoly_ans HHb.out (by omega)).mono ?_
        rw [HZ.out, EH.out]
        rintro e u3 ⟨rfl, hu3⟩
        have HVc := Lib.hid (bt HVb.out hu3)
        clear hu3
        go_wp2
        go_ret
        exact ⟨rfl, HVc.out⟩
    · obtain ⟨⟨p2, p3⟩, _, ea, eb, es, ⟨xa0, xa1⟩, ⟨xb0, xb1⟩, ew⟩ := add_facts HONE.out
      rw [HSS.out] at es ew
      have EA := Lib.hid ea
      have EB := Lib.hid eb
      have ES := Lib.hid es
      obtain ⟨U, hU⟩ : ∃ U, evRes m (m - 1) al = U := ⟨_, rfl⟩
      obtain ⟨V, hV⟩ : ∃ V, evRes m (m - 1) bs = V := ⟨_, rfl⟩
      obtain ⟨W, hW⟩ : ∃ W, evRes m (m - 1) ss = W := ⟨_, rfl⟩
      rw [hU, hV, hW] at ew
      rw [hU] at xa0 xa1
      rw [hV] at xb0 xb1
      have HU := Lib.hid hU
      have HVv := Lib.hid hV
      have HW := Lib.hid hW
      have hwb : (W != (U + V) % m) = false := by simp [ew]
      clear ea eb es hU hV hW ew
      go_wp2_with fail
      refine (evalPoly_ans HA8.out (by omega)).mono ?_
      rw [HU.out, EA.out]
      rintro e v9 ⟨rfl, hv9⟩
      have HF9 := Lib.hid (HF8.out.below hv9)
      have HG9 := Lib.hid (HG8.out.below hv9)
      have HH9 := Lib.hid (HH8.out.below hv9)
      have HBb9 := Lib.hid (HBb8.out.below hv9)
      have HS9 := Lib.hid (HS8.out.below hv9)
      have HV9 := Lib.hid (bt HV8.out hv9)
      clear hv9 HF8 HG8 HH8 HBb8 HS8 HV8
      go_wp2_with fail
      refine (evalPoly_ans HBb9.out (by omega)).mono ?_
      rw [HVv.out, EB.out]
      rintro e v10 ⟨rfl, hv10⟩
      have HF10 := Lib.hid (HF9.out.below hv10)
      have HG10 := Lib.hid (HG9.out.below hv10)
      have HH10 := Lib.hid (HH9.out.below hv10)
      have HS10 := Lib.hid (HS9.out.below hv10)
      have HV10 := Lib.hid (bt HV9.out hv10)
      clear hv10 HF9 HG9 HH9 HBb9 HS9 HV9
      go_wp2_with fail
      refine (evalPoly_ans HS10.out (by omega)).mono ?_
      rw [HW.out, ES.out]
      rintro e v11 ⟨rfl, hv11⟩
      have HF11 := Lib.hid (HF10.out.below hv11)
      have HG11 := Lib.hid (HG10.out.below hv11)
      have HH11 := Lib.hid (HH10.out.below hv11)
      have HV11 := Lib.hid (bt HV10.out hv11)
      clear hv11 HF10 HG10 HH10 HS10 HV10
      cases ok
      · go_wp2
        go_ret
        exact ⟨rfl, HV11.out⟩
      · obtain ⟨⟨q2, q3⟩, ef, eg, eh, ⟨xf0, xf1⟩, ⟨xg0, xg1⟩, ez⟩ := mul_facts HOK.out
        rw [HHS.out] at eh ez
        have EF := Lib.hid ef
        have EG := Lib.hid eg
        have EH := Lib.hid eh
        obtain ⟨X, hX⟩ : ∃ X, evRes q 1 fs = X := ⟨_, rfl⟩
        obtain ⟨Y, hY⟩ : ∃ Y, evRes q 1 gs = Y := ⟨_, rfl⟩
        obtain ⟨Z, hZ⟩ : ∃ Z, evRes q 1 hs = Z := ⟨_, rfl⟩
        rw [hX, hY, hZ] at ez
        rw [hX] at xf0 xf1
        rw [hY] at xg0 xg1
        have HX := Lib.hid hX
        have HY := Lib.hid hY
        have HZ := Lib.hid hZ
        obtain ⟨m0, m1⟩ := mul_res q3 xf0 xf1 xg0 xg1
        have hzb : (Z == X * Y % q) = true := by simp [ez]
        clear ef eg eh hX hY hZ ez
        go_wp2_with fail
        refine (evalPoly_ans HF11.out (by omega)).mono ?_
        rw [HX.out, EF.out]
        rintro e u1 ⟨rfl, hu1⟩
        have HGa := Lib.hid (HG11.out.below hu1)
        have HHa := Lib.hid (HH11.out.below hu1)
        have HVa := Lib.hid (bt HV11.out hu1)
        clear hu1
        go_wp2_with fail
        refine (evalPoly_ans HGa.out (by omega)).mono ?_
        rw [HY.out, EG.out]
        rintro e u2 ⟨rfl, hu2⟩
        have HHb := Lib.hid (HHa.out.below hu2)
        have HVb := Lib.hid (bt HVa.out hu2)
        clear hu2
        go_wp2_with fail
        refine (evalPoly_ans HHb.out (by omega)).mono ?_
        rw [HZ.out, EH.out]
        rintro e u3 ⟨rfl, hu3⟩
        have HVc := Lib.hid (bt HVb.out hu3)
        clear hu3
        go_wp2
        go_ret
        exact ⟨rfl, HVc.out⟩

/-! ### THE ROW's STEP: WRITTEN OUT: LEAVE IT -/
set_option maxRecDepth 100000 in
theorem lifted (os : Os) (started : os.Started) (H : Type) (enc : TypeId × Value → H) :
    ReturnsInHanded {} Try.checked os 3 .any (Rows.fnPolynomialsSpec.pre6 enc Try.prog Try.f3 Rows.fnPolynomialsRow.domain false) (Rows.fnPolynomialsSpec.post enc Try.prog Try.f3 false true false false) := by
  refine returnsInHanded_of_change_sized (C := Try.checked) own started (by kernel_rfl) Try.func3
    (ChangeSpec.witness6 (enc := enc) (C := Try.checked) false ⟨#[], #[.slice none 0 0, .slice none 0 0], []⟩ 8 (by kernel_rfl) (by kernel_rfl) (by kernel_rfl) (by kernel_rfl)) ?_
  intro W base args ds gs before hval0 hW hcnd hsz0 _
  have hsz : (DataW.weightsEach Try.prog (Try.f3.params.toList ++ Rows.fnPolynomialsSpec.plain.varTypes Try.prog) (ds ++ gs)).all (· ≤ reachBytes) = true := hsz0
  clear hsz0
  have hval : ∀ (j : Nat) t v, Try.f3.params[j]? = some t → args[j]? = some v → Value.okWide Try.prog W .any base t v := hval0
  have hW' := hW
  obtain ⟨p, q, hA0, hV, rfl, hfz, hnd⟩ := hW
  have hA : DataW.TrodAll enc Try.prog W 0 (fun _ => true) true Try.f3.params.toList args.toList ds p := hA0
  rw [Try.params3] at hA hval hsz
  obtain ⟨v0, vs0, d0, ds0, p0, q0, hargs, rfl, rfl, h0, r0⟩ := trodAll_cons hA
  obtain ⟨v1, vs1, d1, ds1, p1, q1, rfl, rfl, rfl, h1, r1⟩ := trodAll_cons r0
  obtain ⟨rfl, rfl, rfl⟩ := trodAll_nil r1
  obtain rfl : args = #[v0, v1] := by cases args; simp_all
  obtain ⟨rfl, rfl⟩ := trodVars_none hV
  obtain ⟨a0, len0, cap0, rfl⟩ := okWide_slice Try.underlying22 (hval 0 22 v0 rfl rfl)
  have k0 := h0
  have lt0 : ∀ x ∈ p0, x.block < W.heap.size := by obtain ⟨m, hm⟩ := k0; exact DataW.trod_lt m _ _ _ hm
  obtain ⟨z0, w0, s0⟩ : ∃ zs, IsRow .u8 W a0 len0 cap0 zs ∧ len0 ≤ 140737488351232 := by
    obtain ⟨fuel, hf⟩ := h0
    rcases open_ints Try.underlying22 Try.underlying5 (by kernel_rfl) hf with ⟨hcs, hx⟩ | ⟨x, l, c, zs, hcs, _, hl, hm, hz, hx, hcell, hwz⟩
    · simp [Value.cells] at hcs
      obtain ⟨rfl, rfl, rfl⟩ := hcs
      exact ⟨[], .inl ⟨rfl, rfl, rfl, rfl⟩, by decide⟩
    · simp [Value.cells] at hcs
      obtain ⟨rfl, rfl, rfl⟩ := hcs
      simp only [Prod.mk.injEq] at hx
      have hq := sized_slice hsz (j := 0) (t := 22) (e := 5) rfl (congrArg some hx.1) Try.underlying22
      rw [bytes5] at hq
      simp only [lits, List.length_map, List.length_take, List.length_drop, reachBytes] at hq
      simp only [if_true] at hz
      exact ⟨zs, .inr ⟨_, rfl, hl, hm, by simpa using hz, hcell, hwz⟩, by omega⟩
  obtain ⟨a1, len1, cap1, rfl⟩ := okWide_slice Try.underlying22 (hval 1 22 v1 rfl rfl)
  have k1 := h1
  have lt1 : ∀ x ∈ p1, x.block < W.heap.size := by obtain ⟨m, hm⟩ := k1; exact DataW.trod_lt m _ _ _ hm
  obtain ⟨z1, w1, s1⟩ : ∃ zs, IsRow .u8 W a1 len1 cap1 zs ∧ len1 ≤ 140737488351232 := by
    obtain ⟨fuel, hf⟩ := h1
    rcases open_ints Try.underlying22 Try.underlying5 (by kernel_rfl) hf with ⟨hcs, hx⟩ | ⟨x, l, c, zs, hcs, _, hl, hm, hz, hx, hcell, hwz⟩
    · simp [Value.cells] at hcs
      obtain ⟨rfl, rfl, rfl⟩ := hcs
      exact ⟨[], .inl ⟨rfl, rfl, rfl, rfl⟩, by decide⟩
    · simp [Value.cells] at hcs
      obtain ⟨rfl, rfl, rfl⟩ := hcs
      simp only [Prod.mk.injEq] at hx
      have hq := sized_slice hsz (j := 1) (t := 22) (e := 5) rfl (congrArg some hx.1) Try.underlying22
      rw [bytes5] at hq
      simp only [lits, List.length_map, List.length_take, List.length_drop, reachBytes] at hq
      simp only [if_true] at hz
      exact ⟨zs, .inr ⟨_, rfl, hl, hm, by simpa using hz, hcell, hwz⟩, by omega⟩
  clear hA0 hval0
  refine (walk a0 len0 cap0 z0 a1 len1 cap1 z1 W w0 w1 s0 s1).mono fun e W' ⟨he, bel⟩ => ?_
  subst he
  exact ⟨_, rfl, _, _, _, [], _, [], hW', trodAll_mk1 (shut_bool Try.underlying4 _), (trodAll_cons_mk (Below.trod laidOut (by kernel_rfl) (of_decide_eq_true (by kernel_rfl)) k0 bel lt0) (trodAll_cons_mk (Below.trod laidOut (by kernel_rfl) (of_decide_eq_true (by kernel_rfl)) k1 bel lt1) trodAll_mk0)), rfl, bel.frame _, fun h => by cases h⟩

theorem over : Rows.fnPolynomialsRow.holds Try.pinned (OpenSpec.ofChange Rows.fnPolynomialsSpec) :=
  OpenClaim.holds_of_wide 3 Try.f3 rfl rfl rfl rfl rfl rfl rfl ⟨rfl, rfl, rfl, rfl, rfl⟩ rfl rfl rfl rfl rfl (by kernel_rfl) Try.func3
    (show joinedFacts Try.prog 3 Try.f3 Rows.fnPolynomialsSpec Rows.fnPolynomialsRow = true by unfold joinedFacts; rw [Head.make, Head.lifts, Head.enters]; kernel_rfl)
    (of_decide_eq_true (by kernel_rfl)) (by unfold Func.isWrapper; first | (rw [if_pos (by decide +kernel)]; kernel_rfl) | (rw [if_neg (by decide +kernel)]; exact ⟨rfl, rfl⟩))
    (fun os started H enc _ => lifted os started H enc)

/-- ████ THE STATEMENT ████ -/
theorem proved : Rows.FnPolynomialsSaid := over
#print axioms proved
end Go.Proofs.Ytkeokcebanodeaa.fnPolynomials
