/-
For all bytes the law FnTinyGroups returns true: the list of a small group's elements is complete, and powers of residues are elements, for what is drawn.
No condition.
-/
import Derived.Test.YtkpfmpndaenclaaRows
import Derived.WalkKit
import Derived.ProofKit
import Derived.OpenShut
import Derived.SizedLaws
import Derived.ShutString
import Derived.ChangeOld
import Derived.Below
import Derived.Test.YtkpfmpndaenclaaGrF
import Derived.Test.YtkpfmpndaenclaaDrG8
import Derived.Test.YtkpfmpndaenclaaResid
import Derived.Deep.RegionHeld3
import Derived.Test.YtkpfmpndaenclaaFacts
namespace Go.Proofs.Ytkpfmpndaenclaa.fnTinyGroups
open Go.ChangeShapes Go.WideShapes Go.ChangeAt Go.RowKit
open Go.ChangeMaps (open_string shut_string)
set_option linter.unusedVariables false

theorem own : ownKnob Try.prog.godebug = none := by kernel_rfl
theorem laidOut : laidOutB Try.prog = true := by kernel_rfl

theorem bytes5 : Try.prog.bytesOf 5 = 1 := by kernel_rfl

/-- WHAT THE WALK IS TOLD OF A SLICE OF INTEGERS THAT CAME IN: it is nil; or it leads to a row of 'cap' cells, the numbers 'zs' (the first 'len' are its elements, the rest its spare room), each fitting its kind. -/
def IsRow (k : IntKind) (w : World) (a : Option Addr) (len cap : Nat) (zs : List Int) : Prop :=
  (a = none ∧ len = 0 ∧ cap = 0 ∧ zs = []) ∨
  ∃ x, a = some x ∧ len ≤ cap ∧ cap ≤ maxLen ∧ zs.length = cap ∧ (∀ i, i < zs.length → w.cell? (x.add i) = some (.int k (zs.getD i 0))) ∧ ∀ n ∈ zs, (Lit.int k n).wf = true



/-! ### STEP 1: THE WALK: the Go text returns true, AND WRITES NOTHING THAT WAS THERE: 'Below w.heap.size w w'' (Derived/Below.lean: '.refl', '.alloc', '.drew', '.setCell' at a new block, '.trans'). Open each 'IsRow' by 'rcases' AHEAD of 'go_enter'; part every test ahead of the walk. -/
set_option maxRecDepth 100000 in
set_option maxHeartbeats 3200000 in
theorem walk (a0 : Option Addr) (len0 cap0 : Nat) (z0 : List Int) (a1 : Option Addr) (len1 cap1 : Nat) (z1 : List Int) (w : World) (w0 : IsRow .u8 w a0 len0 cap0 z0) (w1 : IsRow .u8 w a1 len1 cap1 z1) (s0 : len0 ≤ 140737488351232) (s1 : len1 ≤ 140737488351232) :
    Calls Try.prog 5 #[.slice a0 len0 cap0, .slice a1 len1 cap1] w fun e w' => e = .returned (.bool true) ∧ Below w.heap.size w w' := by
  have hb0 := isB_of_row w0
  have hb1 := isB_of_row w1
  clear w0 w1
  by_cases hbig : 1048576 < (len0 : Int) + len1
  · go_enter Try.func5, Try.ntmps5
    go_wp2
    go_ret
    exact ⟨rfl, Below.refl _ _⟩
  · have HB0 := Lib.hid hb0
    have HB1 := Lib.hid hb1
    clear hb0 hb1
    go_enter Try.func5, Try.ntmps5
    go_wp2_with fail
    refine (drawElementsOf_any _ _ _ _ HB0.out).mono ?_
    rintro e v1 ⟨P, Q, G, rfl, _, hv1⟩
    have HV1 := Lib.hid (bt hv1 (ba v1 (.cells #[.int .i64 P, .int .i64 Q, .int .i64 G] 24)))
    have HR1 := Lib.hid (gr_new v1 P Q G 24)
    clear hv1 hbig
    obtain ⟨c0, c1, c2⟩ := HR1.out
    go_wp2_with fail
    refine (elementsOf_any P Q G _).mono ?_
    rintro e v2 ⟨al, nl, cl, rfl, hownl, hv2⟩
    obtain ⟨hzl, hll, -⟩ := ints_of_own_any hownl
    have HL := Lib.hid hll
    have HZ := Lib.hid hzl
    have HV2 := Lib.hid (bt HV1.out hv2)
    have HR2 := Lib.hid (HR1.out.below hv2)
    clear hownl hll hv2 hzl c0 c1 c2
    obtain ⟨c0, c1, c2⟩ := HR2.out
    go_wp2_with fail
    refine (sElementsOf_any P Q G _).mono ?_
    rintro e v3 ⟨asx, ns, cs, rfl, howns, hv3⟩
    obtain ⟨hzs, hls, -⟩ := ints_of_own_any howns
    have HLs := Lib.hid hls
    have HZ3 := Lib.hid (HZ.out.below hv3 (Nat.le_refl _))
    have HZs := Lib.hid hzs
    have HV3 := Lib.hid (bt HV2.out hv3)
    have HR3 := Lib.hid (HR2.out.below hv3)
    clear howns hls hv3 hzs c0 c1 c2
    go_wp2_with fail
    refine (drawElementFrom_any _ _ _ _ (HB1.out.below HV3.out)).mono ?_
    rintro e v4 ⟨P', Q', G', r, rfl, _, _, hv4⟩
    have hal := ba v4 (.cells #[.int .i64 P', .int .i64 Q', .int .i64 G'] 24)
    have HZ4 := Lib.hid ((HZ3.out.below hv4 (Nat.le_refl _)).below hal (Nat.le_refl _))
    have HZs4 := Lib.hid ((HZs.out.below hv4 (Nat.le_refl _)).below hal (Nat.le_refl _))
    have HV4 := Lib.hid (bt (bt HV3.out hv4) hal)
    have HR4 := Lib.hid ((HR3.out.below hv4).below hal)
    have HS4 := Lib.hid (gr_new v4 P' Q' G' 24)
    clear hv4 hal
    obtain ⟨c0, c1, c2⟩ := HS4.out
    go_wp2_with fail
    refine (elementFrom_any P' Q' G' r _).mono ?_
    rintro e v5 ⟨rfl, hv5⟩
    have HZ5 := Lib.hid (HZ4.out.below hv5 (Nat.le_refl _))
    have HZs5 := Lib.hid (HZs4.out.below hv5 (Nat.le_refl _))
    have HV5 := Lib.hid (bt HV4.out hv5)
    have HR5 := Lib.hid (HR4.out.below hv5)
    have HS5 := Lib.hid (HS4.out.below hv5)
    clear hv5 c0 c1 c2
    obtain ⟨c0, c1, c2⟩ := HS5.out
    go_wp2_with fail
    refine (sElementFrom_any P' Q' G' r _).mono ?_
    rintro e v6 ⟨rfl, hv6⟩
    have HZ6 := Lib.hid (HZ5.out.below hv6 (Nat.le_refl _))
    have HZs6 := Lib.hid (HZs5.out.below hv6 (Nat.le_refl _))
    have HV6 := Lib.hid (bt HV5.out hv6)
    have HR6 := Lib.hid (HR5.out.below hv6)
    have HS6 := Lib.hid (HS5.out.below hv6)
    clear hv6 c0 c1 c2
    obtain ⟨r0, r1, r2⟩ := HR6.out
    have hln : nl ≤ 2000 := by have := elsV_length (P := P) (Q := Q) (G := G); have := HL.out; omega
    cases hok : elsOk P Q G
    all_goals cases hone : fromB P' Q' G' r
    all_goals (
      have HOK := Lib.hid hok
      have HONE := Lib.hid hone
      clear hok hone
      go_wp2_with fail
      go_region_held3 (fun w' => w'.cell? ⟨v1.heap.size, 0, none⟩ = some (.int .i64 P) ∧ w'.cell? ⟨v1.heap.size, 1, none⟩ = some (.int .i64 Q) ∧ w'.cell? ⟨v1.heap.size, 2, none⟩ = some (.int .i64 G)) (first | exact ⟨r0, r1, r2⟩ | exact ⟨s0, s1, s2⟩ | exact ⟨t0, t1, t2⟩ | exact ⟨u0, u1, u2⟩) ((first
        | (go_at_call 34; refine (qInts_same _ _ _ _ _ _ (elsV P Q G) HL.out HLs.out (by omega) _ (by exact HZ6.out) (by exact HZs6.out)).mono ?_; rintro e v7 ⟨rfl, hv7⟩; have HV7 := Lib.hid (show Below w.heap.size w v7 from by first | exact bt HV6.out hv7 | exact bt HV6.out.drew hv7); have HR7 := Lib.hid (show GR v7 v1.heap.size P Q G from by first | exact HR6.out.below hv7 | exact GR.below (GR.drew HR6.out) hv7); have HS7 := Lib.hid (show GR v7 v4.heap.size P' Q' G' from by first | exact HS6.out.below hv7 | exact GR.below (GR.drew HS6.out) hv7); obtain ⟨s0, s1, s2⟩ := HR7.out; clear hv7)
        | (go_at_call 18; refine (isValidGroup_any P Q G _).mono ?_; rintro e v8 ⟨rfl, hv8⟩; have HV8 := Lib.hid (show Below w.heap.size w v8 from by first | exact bt HV7.out hv8 | exact bt HV7.out.drew hv8); have HR8 := Lib.hid (show GR v8 v1.heap.size P Q G from by first | exact HR7.out.below hv8 | exact GR.below (GR.drew HR7.out) hv8); have HS8 := Lib.hid (show GR v8 v4.heap.size P' Q' G' from by first | exact HS7.out.below hv8 | exact GR.below (GR.drew HS7.out) hv8); obtain ⟨t0, t1, t2⟩ := HR8.out; clear hv8)
        | (go_at_call 35; refine (sIsValidGroup_any P Q G _).mono ?_; rintro e v9 ⟨rfl, hv9⟩; have HV9 := Lib.hid (show Below w.heap.size w v9 from by first | exact bt HV8.out hv9 | exact bt HV8.out.drew hv9); have HR9 := Lib.hid (show GR v9 v1.heap.size P Q G from by first | exact HR8.out.below hv9 | exact GR.below (GR.drew HR8.out) hv9); have HS9 := Lib.hid (show GR v9 v4.heap.size P' Q' G' from by first | exact HS8.out.below hv9 | exact GR.below (GR.drew HS8.out) hv9); obtain ⟨u0, u1, u2⟩ := HR9.out; clear hv9)))
      obtain ⟨x0, x1, x2⟩ := HS9.out
      first
        | (have k1 := Lib.hid (from_facts HONE.out)
           go_wp2_with fail
           refine (isElement_any P' Q' G' _ _).mono ?_
           rw [k1.out.1, k1.out.2]
           rintro e v10 ⟨rfl, hv10⟩
           have HV10 := Lib.hid (show Below w.heap.size w v10 from by first | exact bt HV9.out hv10 | exact bt HV9.out.drew hv10)
           have HR10 := Lib.hid (show GR v10 v1.heap.size P Q G from by first | exact HR9.out.below hv10 | exact GR.below (GR.drew HR9.out) hv10)
           obtain ⟨y0, y1, y2⟩ := HR10.out
           clear hv10
           first
             | (have ht : ((nl : Int) == Q) = true := (by have h1 := els_count HOK.out; have h2 := HL.out; simp; omega)
                go_wp2
                go_ret
                exact ⟨rfl, HV10.out⟩)
             | (go_wp2
                go_ret
                exact ⟨rfl, HV10.out⟩))
        | (have ht : ((nl : Int) == Q) = true := (by have h1 := els_count HOK.out; have h2 := HL.out; simp; omega)
           go_wp2
           go_ret
           first | exact ⟨rfl, HV9.out⟩ | exact ⟨rfl, HV9.out.drew⟩)
        | (go_wp2
           go_ret
           first | exact ⟨rfl, HV9.out⟩ | exact ⟨rfl, HV9.out.drew⟩))

/-! ### THE ROW's STEP: WRITTEN OUT: LEAVE IT -/
set_option maxRecDepth 100000 in
theorem lifted (os : Os) (started : os.Started) (H : Type) (enc : TypeId × Value → H) :
    ReturnsInHanded {} Try.checked os 5 .any (Rows.fnTinyGroupsSpec.pre6 enc Try.prog Try.f5 Rows.fnTinyGroupsRow.domain false) (Rows.fnTinyGroupsSpec.post enc Try.prog Try.f5 false true false false) := by
  refine returnsInHanded_of_change_sized (C := Try.checked) own started (by kernel_rfl) Try.func5
    (ChangeSpec.witness6 (enc := enc) (C := Try.checked) false ⟨#[], #[.slice none 0 0, .slice none 0 0], []⟩ 8 (by kernel_rfl) (by kernel_rfl) (by kernel_rfl) (by kernel_rfl)) ?_
  intro W base args ds gs before hval0 hW hcnd hsz0 _
  have hsz : (DataW.weightsEach Try.prog (Try.f5.params.toList ++ Rows.fnTinyGroupsSpec.plain.varTypes Try.prog) (ds ++ gs)).all (· ≤ reachBytes) = true := hsz0
  clear hsz0
  have hval : ∀ (j : Nat) t v, Try.f5.params[j]? = some t → args[j]? = some v → Value.okWide Try.prog W .any base t v := hval0
  have hW' := hW
  obtain ⟨p, q, hA0, hV, rfl, hfz, hnd⟩ := hW
  have hA : DataW.TrodAll enc Try.prog W 0 (fun _ => true) true Try.f5.params.toList args.toList ds p := hA0
  rw [Try.params5] at hA hval hsz
  obtain ⟨v0, vs0, d0, ds0, p0, q0, hargs, rfl, rfl, h0, r0⟩ := trodAll_cons hA
  obtain ⟨v1, vs1, d1, ds1, p1, q1, rfl, rfl, rfl, h1, r1⟩ := trodAll_cons r0
  obtain ⟨rfl, rfl, rfl⟩ := trodAll_nil r1
  obtain rfl : args = #[v0, v1] := by cases args; simp_all
  obtain ⟨rfl, rfl⟩ := trodVars_none hV
  obtain ⟨a0, len0, cap0, rfl⟩ := okWide_slice Try.underlying22 (hval 0 22 v0 rfl rfl)
  have k0 := h0
  have lt0 : ∀ x ∈ p0, x.block < W.heap.size := by obtain ⟨m, hm⟩ := k0; exact DataW.trod_lt m _ _ _ hm
  obtain ⟨z0, w0, s0⟩ : ∃ zs, IsRow .u8 W a0 len0 cap0 zs ∧ len0 ≤ 140737488351232 := by
    obtain ⟨fuel, hf⟩ := h0
    rcases open_ints Try.underlying22 Try.underlying5 (by kernel_rfl) hf with ⟨hcs, hx⟩ | ⟨x, l, c, zs, hcs, _, hl, hm, hz, hx, hcell, hwz⟩
    · simp [Value.cells] at hcs
      obtain ⟨rfl, rfl, rfl⟩ := hcs
      exact ⟨[], .inl ⟨rfl, rfl, rfl, rfl⟩, by decide⟩
    · simp [Value.cells] at hcs
      obtain ⟨rfl, rfl, rfl⟩ := hcs
      simp only [Prod.mk.injEq] at hx
      have hq := sized_slice hsz (j := 0) (t := 22) (e := 5) rfl (congrArg some hx.1) Try.underlying22
      rw [bytes5] at hq
      simp only [lits, List.length_map, List.length_take, List.length_drop, reachBytes] at hq
      simp only [if_true] at hz
      exact ⟨zs, .inr ⟨_, rfl, hl, hm, by simpa using hz, hcell, hwz⟩, by omega⟩
  obtain ⟨a1, len1, cap1, rfl⟩ := okWide_slice Try.underlying22 (hval 1 22 v1 rfl rfl)
  have k1 := h1
  have lt1 : ∀ x ∈ p1, x.block < W.heap.size := by obtain ⟨m, hm⟩ := k1; exact DataW.trod_lt m _ _ _ hm
  obtain ⟨z1, w1, s1⟩ : ∃ zs, IsRow .u8 W a1 len1 cap1 zs ∧ len1 ≤ 140737488351232 := by
    obtain ⟨fuel, hf⟩ := h1
    rcases open_ints Try.underlying22 Try.underlying5 (by kernel_rfl) hf with ⟨hcs, hx⟩ | ⟨x, l, c, zs, hcs, _, hl, hm, hz, hx, hcell, hwz⟩
    · simp [Value.cells] at hcs
      obtain ⟨rfl, rfl, rfl⟩ := hcs
      exact ⟨[], .inl ⟨rfl, rfl, rfl, rfl⟩, by decide⟩
    · simp [Value.cells] at hcs
      obtain ⟨rfl, rfl, rfl⟩ := hcs
      simp only [Prod.mk.injEq] at hx
      have hq := sized_slice hsz (j := 1) (t := 22) (e := 5) rfl (congrArg some hx.1) Try.underlying22
      rw [bytes5] at hq
      simp only [lits, List.length_map, List.length_take, List.length_drop, reachBytes] at hq
      simp only [if_true] at hz
      exact ⟨zs, .inr ⟨_, rfl, hl, hm, by simpa using hz, hcell, hwz⟩, by omega⟩
  clear hA0 hval0
  refine (walk a0 len0 cap0 z0 a1 len1 cap1 z1 W w0 w1 s0 s1).mono fun e W' ⟨he, bel⟩ => ?_
  subst he
  exact ⟨_, rfl, _, _, _, [], _, [], hW', trodAll_mk1 (shut_bool Try.underlying4 _), (trodAll_cons_mk (Below.trod laidOut (by kernel_rfl) (of_decide_eq_true (by kernel_rfl)) k0 bel lt0) (trodAll_cons_mk (Below.trod laidOut (by kernel_rfl) (of_decide_eq_true (by kernel_rfl)) k1 bel lt1) trodAll_mk0)), rfl, bel.frame _, fun h => by cases h⟩

theorem over : Rows.fnTinyGroupsRow.holds Try.pinned (OpenSpec.ofChange Rows.fnTinyGroupsSpec) :=
  OpenClaim.holds_of_wide 5 Try.f5 rfl rfl rfl rfl rfl rfl rfl ⟨rfl, rfl, rfl, rfl, rfl⟩ rfl rfl rfl rfl rfl (by kernel_rfl) Try.func5
    (show joinedFacts Try.prog 5 Try.f5 Rows.fnTinyGroupsSpec Rows.fnTinyGroupsRow = true by unfold joinedFacts; rw [Head.make, Head.lifts, Head.enters]; kernel_rfl)
    (of_decide_eq_true (by kernel_rfl)) (by unfold Func.isWrapper; first | (rw [if_pos (by decide +kernel)]; kernel_rfl) | (rw [if_neg (by decide +kernel)]; exact ⟨rfl, rfl⟩))
    (fun os started H enc _ => lifted os started H enc)

/-- ████ THE STATEMENT ████ -/
theorem proved : Rows.FnTinyGroupsSaid := over
#print axioms proved
end Go.Proofs.Ytkpfmpndaenclaa.fnTinyGroups
