/-
For all bytes the law FnResidues returns true: inverses are inverses, and sums of products are reckoned modulo the modulus, for what is drawn.
No condition.
-/
import Derived.Test.YtipfckfjelignaaRows
import Derived.WalkKit
import Derived.ProofKit
import Derived.OpenShut
import Derived.SizedLaws
import Derived.ShutString
import Derived.ChangeOld
import Derived.Below
import Derived.Test.YtipfckfjelignaaResid
import Derived.Test.YtipfckfjelignaaFacts
namespace Go.Proofs.Ytipfckfjelignaa.fnResidues
open Go.ChangeShapes Go.WideShapes Go.ChangeAt Go.RowKit
open Go.ChangeMaps (open_string shut_string)
set_option linter.unusedVariables false

theorem own : ownKnob Try.prog.godebug = none := by kernel_rfl
theorem laidOut : laidOutB Try.prog = true := by kernel_rfl

theorem bytes5 : Try.prog.bytesOf 5 = 1 := by kernel_rfl

/-- WHAT THE WALK IS TOLD OF A SLICE OF INTEGERS THAT CAME IN: it is nil; or it leads to a row of 'cap' cells, the numbers 'zs' (the first 'len' are its elements, the rest its spare room), each fitting its kind. -/
def IsRow (k : IntKind) (w : World) (a : Option Addr) (len cap : Nat) (zs : List Int) : Prop :=
  (a = none ∧ len = 0 ∧ cap = 0 ∧ zs = []) ∨
  ∃ x, a = some x ∧ len ≤ cap ∧ cap ≤ maxLen ∧ zs.length = cap ∧ (∀ i, i < zs.length → w.cell? (x.add i) = some (.int k (zs.getD i 0))) ∧ ∀ n ∈ zs, (Lit.int k n).wf = true



/-! ### STEP 1: THE WALK: the Go text returns true, AND WRITES NOTHING THAT WAS THERE: 'Below w.heap.size w w'' (Derived/Below.lean: '.refl', '.alloc', '.drew', '.setCell' at a new block, '.trans'). Open each 'IsRow' by 'rcases' AHEAD of 'go_enter'; part every test ahead of the walk. -/
set_option maxRecDepth 100000 in
set_option maxHeartbeats 3200000 in
theorem walk (a0 : Option Addr) (len0 cap0 : Nat) (z0 : List Int) (a1 : Option Addr) (len1 cap1 : Nat) (z1 : List Int) (w : World) (w0 : IsRow .u8 w a0 len0 cap0 z0) (w1 : IsRow .u8 w a1 len1 cap1 z1) (s0 : len0 ≤ 140737488351232) (s1 : len1 ≤ 140737488351232) :
    Calls Try.prog 3 #[.slice a0 len0 cap0, .slice a1 len1 cap1] w fun e w' => e = .returned (.bool true) ∧ Below w.heap.size w w' := by
  have hb0 := isB_of_row w0
  have hb1 := isB_of_row w1
  clear w0 w1
  by_cases hbig : 1048576 < (len0 : Int) + len1
  · go_enter Try.func3, Try.ntmps3
    go_wp2
    go_ret
    first | exact ⟨rfl, Below.refl _ _⟩ | exact rfl
  · have HB0 := Lib.hid hb0
    have HB1 := Lib.hid hb1
    clear hb0 hb1
    go_enter Try.func3, Try.ntmps3
    go_wp2_with fail
    refine (drawInverseMod_any _ _ _ _ HB0.out).mono ?_
    rintro e v1 ⟨a, m, rfl, ha, hm, hv1⟩
    have HV1 := Lib.hid hv1
    clear hv1 ha hm hbig
    go_wp2_with fail
    refine (inverseMod_any _ _ _).mono ?_
    rintro e w' ⟨rfl, rfl⟩
    go_wp2_with fail
    refine (sInverseMod_any _ _ _).mono ?_
    rintro e w' ⟨rfl, rfl⟩
    go_wp2_with fail
    refine (drawInvertAll_any _ _ _ _ (HB1.out.below HV1.out)).mono ?_
    rintro e v2 ⟨al, nl, cl, zs, n, rfl, hownl, hnl, ⟨hn0, hn1⟩, hv2⟩
    obtain ⟨hzl, hll, _⟩ := ints_of_own_any hownl
    have HL := Lib.hid hll
    have HV2 := Lib.hid (HV1.out.trans (hv2.mono HV1.out.size))
    clear hownl hll hv2
    go_wp2_with fail
    refine (invertAll_any _ _ _ zs _ HL.out (by omega) _ hzl).mono ?_
    rintro e v3 ⟨arr, nr, cr, rfl, hownr, hv3⟩
    obtain ⟨hzr, hlr, _⟩ := ints_of_own_any hownr
    have hzl3 := hzl.below hv3 (Nat.le_refl _)
    have HLr := Lib.hid hlr
    have HV3 := Lib.hid (HV2.out.trans (hv3.mono HV2.out.size))
    clear hownr hlr hv3 hzl
    go_wp2_with fail
    refine (sInvertAll_any _ _ _ zs _ HL.out (by omega) _ hzl3).mono ?_
    rintro e v4 ⟨ass, ns, cs, rfl, howns, hv4⟩
    obtain ⟨hzs, hls, _⟩ := ints_of_own_any howns
    have hzl4 := hzl3.below hv4 (Nat.le_refl _)
    have hzr4 := hzr.below hv4 (Nat.le_refl _)
    have HLs := Lib.hid hls
    have HV4 := Lib.hid (HV3.out.trans (hv4.mono HV3.out.size))
    clear howns hls hv4 hzl3 hzr
    have hnr : nr ≤ 201 := by have := HLr.out; have := invAllRes_le zs n; have := HL.out; omega
    go_wp2_with fail
    refine (qInts_same _ _ _ _ _ _ (invAllRes zs n) HLr.out HLs.out (by omega) _ hzr4 hzs).mono ?_
    rintro e v5 ⟨rfl, hv5⟩
    have hzl5 := hzl4.below hv5 (Nat.le_refl _)
    have hzr5 := hzr4.below hv5 (Nat.le_refl _)
    have HV5 := Lib.hid (HV4.out.trans (hv5.mono HV4.out.size))
    clear hv5 hzl4 hzr4 hzs
    cases hone : invAllOk zs n
    · have HO := Lib.hid hone
      clear hone
      cases hok : invModOk a m
      · have HK := Lib.hid hok
        clear hok
        go_wp2
        go_ret
        exact ⟨rfl, HV5.out⟩
      · obtain ⟨⟨m2, m3⟩, ⟨a2, a3⟩, ⟨x2, x3⟩, hax, hp1, hp2, ⟨p2, p3⟩, ⟨q2, q3⟩, hpq⟩ := cube_facts hok
        have bx := prod_bound ⟨a2, a3⟩ ⟨x2, x3⟩ m3
        have bp := prod_bound ⟨p2, p3⟩ ⟨q2, q3⟩ m3
        have h1m : (1 : Int) % m = 1 := Int.emod_eq_of_lt (by decide) (by omega)
        have t1 : (a * invMod a m % m == 1 % m) = true := by rw [hax, h1m]; rfl
        have t2 : (pwr a 3 m * pwr (invMod a m) 3 m % m == 1 % m) = true := by rw [hpq, h1m]; rfl
        have HK := Lib.hid hok
        have HP1 := Lib.hid hp1
        have HP2 := Lib.hid hp2
        clear hok hp1 hp2 hax hpq h1m
        go_wp2_with (go_at_call 19; refine (powerMod_any _ _ _ _).mono ?_; rintro e w' ⟨rfl, rfl⟩; first | rw [HP1.out] | rw [HP2.out])
        go_quiet (fail)
        go_wp2
        go_ret
        exact ⟨rfl, below_drewN HV5.out _⟩
    · have HO := Lib.hid hone
      obtain ⟨⟨n2, n3⟩, hd, hdm, hli, hsm, hres, hl200⟩ := inv_all_facts hone
      have HD := Lib.hid hd
      rw [HL.out] at hdm
      have HDM := Lib.hid hdm
      have HLI := Lib.hid hli
      have HSM := Lib.hid hsm
      have HRES := Lib.hid hres
      have er : invAllRes zs n = invAll zs n := by simp [invAllRes, hone]
      rw [er] at hzr5 HLr
      clear hone hd hdm hli hsm hres er
      go_wp2_with fail
      refine (dotMod_any _ _ _ _ _ _ zs (invAll zs n) _ HL.out HLr.out (by omega) (by omega) _ hzl5 hzr5).mono ?_
      rintro e v6 ⟨rfl, hv6⟩
      rw [HD.out, HDM.out]
      have hzr6 := hzr5.below hv6 (Nat.le_refl _)
      have HV6 := Lib.hid (HV5.out.trans (hv6.mono HV5.out.size))
      clear hv6 hzl5 hzr5
      go_wp2_with fail
      refine (sumMod_any _ _ _ (invAll zs n) _ HLr.out (by omega) _ hzr6).mono ?_
      rintro e v7 ⟨rfl, hv7⟩
      rw [HLI.out, HSM.out]
      have hzr7 := hzr6.below hv7 (Nat.le_refl _)
      have HV7 := Lib.hid (HV6.out.trans (hv7.mono HV6.out.size))
      clear hv7 hzr6
      go_wp2
      go_loop [21, 23, 103] (fun A _ K => ∃ (k : Nat) (t : Int), k ≤ nr ∧ (0 ≤ t ∧ t < n) ∧ A = .int .i64 t ∧ K = .int .i64 k ∧ sumFrom n 0 (invAll zs n) = sumFrom n t ((invAll zs n).drop k)) (fun _ _ K => nr - (intOf K).toNat)
      case atStart => exact ⟨0, 0, Nat.zero_le _, ⟨Int.le_refl _, by omega⟩, rfl, rfl, rfl⟩
      case round =>
        obtain ⟨k, t, hk, ⟨ht0, ht1⟩, rfl, rfl, he⟩ := hrel
        by_cases hkn : k < nr
        · obtain ⟨b, off, z, rfl, hb, hc, hd⟩ := hzr7.at (k := k) (by have := HLr.out; omega)
          have HS := Lib.hid (sumFrom_step hd he)
          obtain ⟨hz0, hz1⟩ := HRES.out z (mem_drop hd)
          clear he hd
          have hp1 : 0 ≤ (t + z) % n := Int.emod_nonneg _ (by omega)
          have hp2 : (t + z) % n < n := Int.emod_lt_of_pos _ (by omega)
          go_wp2
          go_round
          case rel => exact ⟨k + 1, _, by omega, ⟨hp1, hp2⟩, rfl, by go_num, HS.out⟩
          case measure => simp only [intOf]; omega
        · have hs : sumFrom n 0 (invAll zs n) = t := by rw [he, List.drop_of_length_le (by have := HLr.out; omega)]; rfl
          rw [hs]
          clear he hs
          cases hok : invModOk a m
          · have HK := Lib.hid hok
            clear hok
            go_wp2
            go_ret
            exact ⟨rfl, HV7.out⟩
          · obtain ⟨⟨m2, m3⟩, ⟨a2, a3⟩, ⟨x2, x3⟩, hax, hp1, hp2, ⟨p2, p3⟩, ⟨q2, q3⟩, hpq⟩ := cube_facts hok
            have bx := prod_bound ⟨a2, a3⟩ ⟨x2, x3⟩ m3
            have bp := prod_bound ⟨p2, p3⟩ ⟨q2, q3⟩ m3
            have h1m : (1 : Int) % m = 1 := Int.emod_eq_of_lt (by decide) (by omega)
            have t1 : (a * invMod a m % m == 1 % m) = true := by rw [hax, h1m]; rfl
            have t2 : (pwr a 3 m * pwr (invMod a m) 3 m % m == 1 % m) = true := by rw [hpq, h1m]; rfl
            have HK := Lib.hid hok
            have HP1 := Lib.hid hp1
            have HP2 := Lib.hid hp2
            clear hok hp1 hp2 hax hpq h1m
            go_wp2_with (go_at_call 19; refine (powerMod_any _ _ _ _).mono ?_; rintro e w' ⟨rfl, rfl⟩; first | rw [HP1.out] | rw [HP2.out])
            go_quiet (fail)
            go_wp2
            go_ret
            exact ⟨rfl, below_drewN HV7.out _⟩

/-! ### THE ROW's STEP: WRITTEN OUT: LEAVE IT -/
set_option maxRecDepth 100000 in
theorem lifted (os : Os) (started : os.Started) (H : Type) (enc : TypeId × Value → H) :
    ReturnsInHanded {} Try.checked os 3 .any (Rows.fnResiduesSpec.pre6 enc Try.prog Try.f3 Rows.fnResiduesRow.domain false) (Rows.fnResiduesSpec.post enc Try.prog Try.f3 false true false false) := by
  refine returnsInHanded_of_change_sized (C := Try.checked) own started (by kernel_rfl) Try.func3
    (ChangeSpec.witness6 (enc := enc) (C := Try.checked) false ⟨#[], #[.slice none 0 0, .slice none 0 0], []⟩ 8 (by kernel_rfl) (by kernel_rfl) (by kernel_rfl) (by kernel_rfl)) ?_
  intro W base args ds gs before hval0 hW hcnd hsz0 _
  have hsz : (DataW.weightsEach Try.prog (Try.f3.params.toList ++ Rows.fnResiduesSpec.plain.varTypes Try.prog) (ds ++ gs)).all (· ≤ reachBytes) = true := hsz0
  clear hsz0
  have hval : ∀ (j : Nat) t v, Try.f3.params[j]? = some t → args[j]? = some v → Value.okWide Try.prog W .any base t v := hval0
  have hW' := hW
  obtain ⟨p, q, hA0, hV, rfl, hfz, hnd⟩ := hW
  have hA : DataW.TrodAll enc Try.prog W 0 (fun _ => true) true Try.f3.params.toList args.toList ds p := hA0
  rw [Try.params3] at hA hval hsz
  obtain ⟨v0, vs0, d0, ds0, p0, q0, hargs, rfl, rfl, h0, r0⟩ := trodAll_cons hA
  obtain ⟨v1, vs1, d1, ds1, p1, q1, rfl, rfl, rfl, h1, r1⟩ := trodAll_cons r0
  obtain ⟨rfl, rfl, rfl⟩ := trodAll_nil r1
  obtain rfl : args = #[v0, v1] := by cases args; simp_all
  obtain ⟨rfl, rfl⟩ := trodVars_none hV
  obtain ⟨a0, len0, cap0, rfl⟩ := okWide_slice Try.underlying22 (hval 0 22 v0 rfl rfl)
  have k0 := h0
  have lt0 : ∀ x ∈ p0, x.block < W.heap.size := by obtain ⟨m, hm⟩ := k0; exact DataW.trod_lt m _ _ _ hm
  obtain ⟨z0, w0, s0⟩ : ∃ zs, IsRow .u8 W a0 len0 cap0 zs ∧ len0 ≤ 140737488351232 := by
    obtain ⟨fuel, hf⟩ := h0
    rcases open_ints Try.underlying22 Try.underlying5 (by kernel_rfl) hf with ⟨hcs, hx⟩ | ⟨x, l, c, zs, hcs, _, hl, hm, hz, hx, hcell, hwz⟩
    · simp [Value.cells] at hcs
      obtain ⟨rfl, rfl, rfl⟩ := hcs
      exact ⟨[], .inl ⟨rfl, rfl, rfl, rfl⟩, by decide⟩
    · simp [Value.cells] at hcs
      obtain ⟨rfl, rfl, rfl⟩ := hcs
      simp only [Prod.mk.injEq] at hx
      have hq := sized_slice hsz (j := 0) (t := 22) (e := 5) rfl (congrArg some hx.1) Try.underlying22
      rw [bytes5] at hq
      simp only [lits, List.length_map, List.length_take, List.length_drop, reachBytes] at hq
      simp only [if_true] at hz
      exact ⟨zs, .inr ⟨_, rfl, hl, hm, by simpa using hz, hcell, hwz⟩, by omega⟩
  obtain ⟨a1, len1, cap1, rfl⟩ := okWide_slice Try.underlying22 (hval 1 22 v1 rfl rfl)
  have k1 := h1
  have lt1 : ∀ x ∈ p1, x.block < W.heap.size := by obtain ⟨m, hm⟩ := k1; exact DataW.trod_lt m _ _ _ hm
  obtain ⟨z1, w1, s1⟩ : ∃ zs, IsRow .u8 W a1 len1 cap1 zs ∧ len1 ≤ 140737488351232 := by
    obtain ⟨fuel, hf⟩ := h1
    rcases open_ints Try.underlying22 Try.underlying5 (by kernel_rfl) hf with ⟨hcs, hx⟩ | ⟨x, l, c, zs, hcs, _, hl, hm, hz, hx, hcell, hwz⟩
    · simp [Value.cells] at hcs
      obtain ⟨rfl, rfl, rfl⟩ := hcs
      exact ⟨[], .inl ⟨rfl, rfl, rfl, rfl⟩, by decide⟩
    · simp [Value.cells] at hcs
      obtain ⟨rfl, rfl, rfl⟩ := hcs
      simp only [Prod.mk.injEq] at hx
      have hq := sized_slice hsz (j := 1) (t := 22) (e := 5) rfl (congrArg some hx.1) Try.underlying22
      rw [bytes5] at hq
      simp only [lits, List.length_map, List.length_take, List.length_drop, reachBytes] at hq
      simp only [if_true] at hz
      exact ⟨zs, .inr ⟨_, rfl, hl, hm, by simpa using hz, hcell, hwz⟩, by omega⟩
  clear hA0 hval0
  refine (walk a0 len0 cap0 z0 a1 len1 cap1 z1 W w0 w1 s0 s1).mono fun e W' ⟨he, bel⟩ => ?_
  subst he
  exact ⟨_, rfl, _, _, _, [], _, [], hW', trodAll_mk1 (shut_bool Try.underlying4 _), (trodAll_cons_mk (Below.trod laidOut (by kernel_rfl) (of_decide_eq_true (by kernel_rfl)) k0 bel lt0) (trodAll_cons_mk (Below.trod laidOut (by kernel_rfl) (of_decide_eq_true (by kernel_rfl)) k1 bel lt1) trodAll_mk0)), rfl, bel.frame _, fun h => by cases h⟩

theorem over : Rows.fnResiduesRow.holds Try.pinned (OpenSpec.ofChange Rows.fnResiduesSpec) :=
  OpenClaim.holds_of_wide 3 Try.f3 rfl rfl rfl rfl rfl rfl rfl ⟨rfl, rfl, rfl, rfl, rfl⟩ rfl rfl rfl rfl rfl (by kernel_rfl) Try.func3
    (show joinedFacts Try.prog 3 Try.f3 Rows.fnResiduesSpec Rows.fnResiduesRow = true by unfold joinedFacts; rw [Head.make, Head.lifts, Head.enters]; kernel_rfl)
    (of_decide_eq_true (by kernel_rfl)) (by unfold Func.isWrapper; first | (rw [if_pos (by decide +kernel)]; kernel_rfl) | (rw [if_neg (by decide +kernel)]; exact ⟨rfl, rfl⟩))
    (fun os started H enc _ => lifted os started H enc)

/-- ████ THE STATEMENT ████ -/
theorem proved : Rows.FnResiduesSaid := over
#print axioms proved
end Go.Proofs.Ytipfckfjelignaa.fnResidues
