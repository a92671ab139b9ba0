/-
For all bytes the law FnGroups returns true: inverses cancel, powers have the order of the group, and made groups are valid, for what is drawn.
No condition.
-/
import Derived.Test.YtafoenoilcgjdaaRows
import Derived.WalkKit
import Derived.ProofKit
import Derived.OpenShut
import Derived.SizedLaws
import Derived.ShutString
import Derived.ChangeOld
import Derived.Below
import Derived.Test.YtafoenoilcgjdaaGrF
import Derived.Test.YtafoenoilcgjdaaDrG5
import Derived.Test.YtafoenoilcgjdaaResid
import Derived.Test.YtafoenoilcgjdaaFacts
namespace Go.Proofs.Ytafoenoilcgjdaa.fnGroups
open Go.ChangeShapes Go.WideShapes Go.ChangeAt Go.RowKit
open Go.ChangeMaps (open_string shut_string)
set_option linter.unusedVariables false

theorem own : ownKnob Try.prog.godebug = none := by kernel_rfl
theorem laidOut : laidOutB Try.prog = true := by kernel_rfl

theorem bytes5 : Try.prog.bytesOf 5 = 1 := by kernel_rfl

/-- WHAT THE WALK IS TOLD OF A SLICE OF INTEGERS THAT CAME IN: it is nil; or it leads to a row of 'cap' cells, the numbers 'zs' (the first 'len' are its elements, the rest its spare room), each fitting its kind. -/
def IsRow (k : IntKind) (w : World) (a : Option Addr) (len cap : Nat) (zs : List Int) : Prop :=
  (a = none ∧ len = 0 ∧ cap = 0 ∧ zs = []) ∨
  ∃ x, a = some x ∧ len ≤ cap ∧ cap ≤ maxLen ∧ zs.length = cap ∧ (∀ i, i < zs.length → w.cell? (x.add i) = some (.int k (zs.getD i 0))) ∧ ∀ n ∈ zs, (Lit.int k n).wf = true



/-! ### STEP 1: THE WALK: the Go text returns true, AND WRITES NOTHING THAT WAS THERE: 'Below w.heap.size w w'' (Derived/Below.lean: '.refl', '.alloc', '.drew', '.setCell' at a new block, '.trans'). Open each 'IsRow' by 'rcases' AHEAD of 'go_enter'; part every test ahead of the walk. -/
set_option maxRecDepth 100000 in
set_option maxHeartbeats 3200000 in
theorem walk (a0 : Option Addr) (len0 cap0 : Nat) (z0 : List Int) (a1 : Option Addr) (len1 cap1 : Nat) (z1 : List Int) (w : World) (w0 : IsRow .u8 w a0 len0 cap0 z0) (w1 : IsRow .u8 w a1 len1 cap1 z1) (s0 : len0 ≤ 140737488351232) (s1 : len1 ≤ 140737488351232) :
    Calls Try.prog 4 #[.slice a0 len0 cap0, .slice a1 len1 cap1] w fun e w' => e = .returned (.bool true) ∧ Below w.heap.size w w' := by
  have hb0 := isB_of_row w0
  have hb1 := isB_of_row w1
  clear w0 w1
  by_cases hbig : 1048576 < (len0 : Int) + len1
  · go_enter Try.func4, Try.ntmps4
    go_wp2
    go_ret
    exact ⟨rfl, Below.refl _ _⟩
  · have HB0 := Lib.hid hb0
    have HB1 := Lib.hid hb1
    clear hb0 hb1
    go_enter Try.func4, Try.ntmps4
    go_wp2_with fail
    refine (drawInverseOf_any _ _ _ _ HB0.out).mono ?_
    rintro e v1 ⟨P, Q, G, x, rfl, ⟨_, ⟨q0, q1⟩, _⟩, _, hv1⟩
    have HV1 := Lib.hid (bt hv1 (ba v1 (.cells #[.int .i64 P, .int .i64 Q, .int .i64 G] 27)))
    have HR1 := Lib.hid (gr_new v1 P Q G 27)
    clear hv1 hbig
    obtain ⟨c0, c1, c2⟩ := HR1.out
    go_wp2_with fail
    refine (inverseOf_any P Q G x _).mono ?_
    rintro e v2 ⟨rfl, hv2⟩
    have HV2 := Lib.hid (bt HV1.out hv2)
    have HR2 := Lib.hid (HR1.out.below hv2)
    clear hv2 c0 c1 c2
    obtain ⟨c0, c1, c2⟩ := HR2.out
    go_wp2_with fail
    refine (sInverseOf_any P Q G x _).mono ?_
    rintro e v3 ⟨rfl, hv3⟩
    have HV3 := Lib.hid (bt HV2.out hv3)
    have HR3 := Lib.hid (HR2.out.below hv3)
    clear hv3 c0 c1 c2
    go_wp2_with fail
    refine (drawMakeGroup_any _ _ _ _ (HB1.out.below HV3.out)).mono ?_
    rintro e v4 ⟨⟨q, rfl⟩, hv4⟩
    have HV4 := Lib.hid (bt HV3.out hv4)
    have HR4 := Lib.hid (HR3.out.below hv4)
    clear hv4
    go_wp2_with fail
    refine (makeGroup_any q _).mono ?_
    rintro e v5 ⟨rfl, hv5⟩
    have hal5 := ba v5 (.cells #[.int .i64 (mkVP q), .int .i64 (mkVQ q), .int .i64 (mkVG q)] 27)
    have HV5 := Lib.hid (bt (bt HV4.out hv5) hal5)
    have HR5 := Lib.hid ((HR4.out.below hv5).below hal5)
    have HM5 := Lib.hid (gr_new v5 (mkVP q) (mkVQ q) (mkVG q) 27)
    clear hv5 hal5
    go_wp2_with fail
    refine (sMakeGroup_any q _).mono ?_
    rintro e v6 ⟨rfl, hv6⟩
    have hal6 := ba v6 (.cells #[.int .i64 (mkVP q), .int .i64 (mkVQ q), .int .i64 (mkVG q)] 27)
    have HV6 := Lib.hid (bt (bt HV5.out hv6) hal6)
    have HR6 := Lib.hid ((HR5.out.below hv6).below hal6)
    have HM6 := Lib.hid ((HM5.out.below hv6).below hal6)
    have HN6 := Lib.hid (gr_new v6 (mkVP q) (mkVQ q) (mkVG q) 27)
    clear hv6 hal6
    obtain ⟨m0, m1, m2⟩ := HM6.out
    obtain ⟨n0, n1, n2⟩ := HN6.out
    cases hone : mkB q
    all_goals cases hok : isElV P Q G x
    all_goals (
      have HONE := Lib.hid hone
      have HOK := Lib.hid hok
      clear hone hok
      obtain ⟨r0, r1, r2⟩ := HR6.out
      first
        | (have k1 := Lib.hid (mk_good HONE.out)
           have tq : (mkVQ q != q) = false := (by rw [k1.out.2]; simp)
           go_wp2_with fail
           refine (isValidGroup_any (mkVP q) (mkVQ q) (mkVG q) _).mono ?_
           rw [k1.out.1]
           rintro e v7 ⟨rfl, hv7⟩
           have HV7 := Lib.hid (bt HV6.out hv7)
           have HR7 := Lib.hid (HR6.out.below hv7)
           have HM7 := Lib.hid (HM6.out.below hv7)
           clear hv7 r0 r1 r2 m0 m1 m2 n0 n1 n2
           obtain ⟨r0, r1, r2⟩ := HR7.out
           obtain ⟨m0, m1, m2⟩ := HM7.out
           first
             | (have k2 := Lib.hid (inv_facts HOK.out)
                have k3 := Lib.hid (isElV_true.1 HOK.out)
                go_wp2_with fail
                refine (isElement_any P Q G (invOfV P Q G x) _).mono ?_
                rw [k2.out.1, k3.out.1]
                rintro e v8 ⟨rfl, hv8⟩
                have HV8 := Lib.hid (bt HV7.out hv8)
                have HR8 := Lib.hid (HR7.out.below hv8)
                clear hv8 r0 r1 r2
                obtain ⟨r0, r1, r2⟩ := HR8.out
                go_wp2_with fail
                refine (mulOf_any P Q G _ 2 2 [x, invOfV P Q G x] rfl (by decide) _ (ints_spot v8 _ rfl [x, invOfV P Q G x] 3)).mono ?_
                rw [k2.out.2.1, k2.out.2.2.1]
                rintro e v9 ⟨rfl, hv9⟩
                have hal9 := ba v8 (.cells #[.int .i64 x, .int .i64 (invOfV P Q G x)] 3)
                have HV9 := Lib.hid (bt (bt HV8.out hal9) hv9)
                have HR9 := Lib.hid ((HR8.out.below hal9).below hv9)
                clear hv9 hal9 r0 r1 r2
                obtain ⟨r0, r1, r2⟩ := HR9.out
                go_wp2_with fail
                refine (expOf_any P Q G x (Q - 1) _).mono ?_
                rw [k2.out.2.2.2.1, k2.out.2.2.2.2]
                rintro e v10 ⟨rfl, hv10⟩
                have HV10 := Lib.hid (bt HV9.out hv10)
                clear hv10
                go_wp2
                go_ret
                exact ⟨rfl, HV10.out⟩)
             | (go_wp2
                go_ret
                exact ⟨rfl, HV7.out⟩))
        | (
           first
             | (have k2 := Lib.hid (inv_facts HOK.out)
                have k3 := Lib.hid (isElV_true.1 HOK.out)
                go_wp2_with fail
                refine (isElement_any P Q G (invOfV P Q G x) _).mono ?_
                rw [k2.out.1, k3.out.1]
                rintro e v8 ⟨rfl, hv8⟩
                have HV8 := Lib.hid (bt HV6.out hv8)
                have HR8 := Lib.hid (HR6.out.below hv8)
                clear hv8 r0 r1 r2
                obtain ⟨r0, r1, r2⟩ := HR8.out
                go_wp2_with fail
                refine (mulOf_any P Q G _ 2 2 [x, invOfV P Q G x] rfl (by decide) _ (ints_spot v8 _ rfl [x, invOfV P Q G x] 3)).mono ?_
                rw [k2.out.2.1, k2.out.2.2.1]
                rintro e v9 ⟨rfl, hv9⟩
                have hal9 := ba v8 (.cells #[.int .i64 x, .int .i64 (invOfV P Q G x)] 3)
                have HV9 := Lib.hid (bt (bt HV8.out hal9) hv9)
                have HR9 := Lib.hid ((HR8.out.below hal9).below hv9)
                clear hv9 hal9 r0 r1 r2
                obtain ⟨r0, r1, r2⟩ := HR9.out
                go_wp2_with fail
                refine (expOf_any P Q G x (Q - 1) _).mono ?_
                rw [k2.out.2.2.2.1, k2.out.2.2.2.2]
                rintro e v10 ⟨rfl, hv10⟩
                have HV10 := Lib.hid (bt HV9.out hv10)
                clear hv10
                go_wp2
                go_ret
                exact ⟨rfl, HV10.out⟩)
             | (go_wp2
                go_ret
                exact ⟨rfl, HV6.out⟩)))

/-! ### THE ROW's STEP: WRITTEN OUT: LEAVE IT -/
set_option maxRecDepth 100000 in
theorem lifted (os : Os) (started : os.Started) (H : Type) (enc : TypeId × Value → H) :
    ReturnsInHanded {} Try.checked os 4 .any (Rows.fnGroupsSpec.pre6 enc Try.prog Try.f4 Rows.fnGroupsRow.domain false) (Rows.fnGroupsSpec.post enc Try.prog Try.f4 false true false false) := by
  refine returnsInHanded_of_change_sized (C := Try.checked) own started (by kernel_rfl) Try.func4
    (ChangeSpec.witness6 (enc := enc) (C := Try.checked) false ⟨#[], #[.slice none 0 0, .slice none 0 0], []⟩ 8 (by kernel_rfl) (by kernel_rfl) (by kernel_rfl) (by kernel_rfl)) ?_
  intro W base args ds gs before hval0 hW hcnd hsz0 _
  have hsz : (DataW.weightsEach Try.prog (Try.f4.params.toList ++ Rows.fnGroupsSpec.plain.varTypes Try.prog) (ds ++ gs)).all (· ≤ reachBytes) = true := hsz0
  clear hsz0
  have hval : ∀ (j : Nat) t v, Try.f4.params[j]? = some t → args[j]? = some v → Value.okWide Try.prog W .any base t v := hval0
  have hW' := hW
  obtain ⟨p, q, hA0, hV, rfl, hfz, hnd⟩ := hW
  have hA : DataW.TrodAll enc Try.prog W 0 (fun _ => true) true Try.f4.params.toList args.toList ds p := hA0
  rw [Try.params4] at hA hval hsz
  obtain ⟨v0, vs0, d0, ds0, p0, q0, hargs, rfl, rfl, h0, r0⟩ := trodAll_cons hA
  obtain ⟨v1, vs1, d1, ds1, p1, q1, rfl, rfl, rfl, h1, r1⟩ := trodAll_cons r0
  obtain ⟨rfl, rfl, rfl⟩ := trodAll_nil r1
  obtain rfl : args = #[v0, v1] := by cases args; simp_all
  obtain ⟨rfl, rfl⟩ := trodVars_none hV
  obtain ⟨a0, len0, cap0, rfl⟩ := okWide_slice Try.underlying32 (hval 0 32 v0 rfl rfl)
  have k0 := h0
  have lt0 : ∀ x ∈ p0, x.block < W.heap.size := by obtain ⟨m, hm⟩ := k0; exact DataW.trod_lt m _ _ _ hm
  obtain ⟨z0, w0, s0⟩ : ∃ zs, IsRow .u8 W a0 len0 cap0 zs ∧ len0 ≤ 140737488351232 := by
    obtain ⟨fuel, hf⟩ := h0
    rcases open_ints Try.underlying32 Try.underlying5 (by kernel_rfl) hf with ⟨hcs, hx⟩ | ⟨x, l, c, zs, hcs, _, hl, hm, hz, hx, hcell, hwz⟩
    · simp [Value.cells] at hcs
      obtain ⟨rfl, rfl, rfl⟩ := hcs
      exact ⟨[], .inl ⟨rfl, rfl, rfl, rfl⟩, by decide⟩
    · simp [Value.cells] at hcs
      obtain ⟨rfl, rfl, rfl⟩ := hcs
      simp only [Prod.mk.injEq] at hx
      have hq := sized_slice hsz (j := 0) (t := 32) (e := 5) rfl (congrArg some hx.1) Try.underlying32
      rw [bytes5] at hq
      simp only [lits, List.length_map, List.length_take, List.length_drop, reachBytes] at hq
      simp only [if_true] at hz
      exact ⟨zs, .inr ⟨_, rfl, hl, hm, by simpa using hz, hcell, hwz⟩, by omega⟩
  obtain ⟨a1, len1, cap1, rfl⟩ := okWide_slice Try.underlying32 (hval 1 32 v1 rfl rfl)
  have k1 := h1
  have lt1 : ∀ x ∈ p1, x.block < W.heap.size := by obtain ⟨m, hm⟩ := k1; exact DataW.trod_lt m _ _ _ hm
  obtain ⟨z1, w1, s1⟩ : ∃ zs, IsRow .u8 W a1 len1 cap1 zs ∧ len1 ≤ 140737488351232 := by
    obtain ⟨fuel, hf⟩ := h1
    rcases open_ints Try.underlying32 Try.underlying5 (by kernel_rfl) hf with ⟨hcs, hx⟩ | ⟨x, l, c, zs, hcs, _, hl, hm, hz, hx, hcell, hwz⟩
    · simp [Value.cells] at hcs
      obtain ⟨rfl, rfl, rfl⟩ := hcs
      exact ⟨[], .inl ⟨rfl, rfl, rfl, rfl⟩, by decide⟩
    · simp [Value.cells] at hcs
      obtain ⟨rfl, rfl, rfl⟩ := hcs
      simp only [Prod.mk.injEq] at hx
      have hq := sized_slice hsz (j := 1) (t := 32) (e := 5) rfl (congrArg some hx.1) Try.underlying32
      rw [bytes5] at hq
      simp only [lits, List.length_map, List.length_take, List.length_drop, reachBytes] at hq
      simp only [if_true] at hz
      exact ⟨zs, .inr ⟨_, rfl, hl, hm, by simpa using hz, hcell, hwz⟩, by omega⟩
  clear hA0 hval0
  refine (walk a0 len0 cap0 z0 a1 len1 cap1 z1 W w0 w1 s0 s1).mono fun e W' ⟨he, bel⟩ => ?_
  subst he
  exact ⟨_, rfl, _, _, _, [], _, [], hW', trodAll_mk1 (shut_bool Try.underlying4 _), (trodAll_cons_mk (Below.trod laidOut (by kernel_rfl) (of_decide_eq_true (by kernel_rfl)) k0 bel lt0) (trodAll_cons_mk (Below.trod laidOut (by kernel_rfl) (of_decide_eq_true (by kernel_rfl)) k1 bel lt1) trodAll_mk0)), rfl, bel.frame _, fun h => by cases h⟩

theorem over : Rows.fnGroupsRow.holds Try.pinned (OpenSpec.ofChange Rows.fnGroupsSpec) :=
  OpenClaim.holds_of_wide 4 Try.f4 rfl rfl rfl rfl rfl rfl rfl ⟨rfl, rfl, rfl, rfl, rfl⟩ rfl rfl rfl rfl rfl (by kernel_rfl) Try.func4
    (show joinedFacts Try.prog 4 Try.f4 Rows.fnGroupsSpec Rows.fnGroupsRow = true by unfold joinedFacts; rw [Head.make, Head.lifts, Head.enters]; kernel_rfl)
    (of_decide_eq_true (by kernel_rfl)) (by unfold Func.isWrapper; first | (rw [if_pos (by decide +kernel)]; kernel_rfl) | (rw [if_neg (by decide +kernel)]; exact ⟨rfl, rfl⟩))
    (fun os started H enc _ => lifted os started H enc)

/-- ████ THE STATEMENT ████ -/
theorem proved : Rows.FnGroupsSaid := over
#print axioms proved
end Go.Proofs.Ytafoenoilcgjdaa.fnGroups
