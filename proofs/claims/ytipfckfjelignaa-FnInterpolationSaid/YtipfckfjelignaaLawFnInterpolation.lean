/-
For all bytes the law FnInterpolation returns true: for the tables and lists of roots that are drawn the program's polynomials are the reference's, an interpolated one has the values of the table, and Lagrange coefficients give its value at 0; a polynomial with given roots is 0 at them and has as many as its degree.
No condition.
-/
import Derived.Test.YtipfckfjelignaaRows
import Derived.WalkKit
import Derived.ProofKit
import Derived.OpenShut
import Derived.SizedLaws
import Derived.ShutString
import Derived.ChangeOld
import Derived.Below
import Derived.Test.YtipfckfjelignaaPolX
import Derived.Test.YtipfckfjelignaaFacts
namespace Go.Proofs.Ytipfckfjelignaa.fnInterpolation
open Go.ChangeShapes Go.WideShapes Go.ChangeAt Go.RowKit
open Go.ChangeMaps (open_string shut_string)
set_option linter.unusedVariables false

theorem own : ownKnob Try.prog.godebug = none := by kernel_rfl
theorem laidOut : laidOutB Try.prog = true := by kernel_rfl

theorem bytes5 : Try.prog.bytesOf 5 = 1 := by kernel_rfl

/-- WHAT THE WALK IS TOLD OF A SLICE OF INTEGERS THAT CAME IN: it is nil; or it leads to a row of 'cap' cells, the numbers 'zs' (the first 'len' are its elements, the rest its spare room), each fitting its kind. -/
def IsRow (k : IntKind) (w : World) (a : Option Addr) (len cap : Nat) (zs : List Int) : Prop :=
  (a = none ∧ len = 0 ∧ cap = 0 ∧ zs = []) ∨
  ∃ x, a = some x ∧ len ≤ cap ∧ cap ≤ maxLen ∧ zs.length = cap ∧ (∀ i, i < zs.length → w.cell? (x.add i) = some (.int k (zs.getD i 0))) ∧ ∀ n ∈ zs, (Lit.int k n).wf = true

theorem qI_any {P P' : Nat} {w : World} {v v' : Value} {zs : List Int} (h : InI P w v zs) (h' : InI P' w v' zs) (hl : zs.length ≤ 1000) :
    Calls Try.prog 16 #[v, v'] w fun e w' => e = .returned (.bool true) ∧ Below w.heap.size w w' := by
  obtain ⟨_, ad, cap, rfl, h1, _⟩ := h
  obtain ⟨_, ad', cap', rfl, h1', _⟩ := h'
  exact qInts_same ad ad' _ _ cap cap' zs rfl rfl (by omega) w h1.ints h1'.ints
theorem dotI_any {P P' : Nat} {w : World} {v v' : Value} {xs ys : List Int} {m : Int} (h : InI P w v xs) (h' : InI P' w v' ys) (hl : xs.length ≤ 1000) (hl' : ys.length ≤ 1000) :
    Calls Try.prog 17 #[v, v', .int .i64 m] w fun e w' => e = .returned (.tuple #[.int .i64 (dotMod xs ys m), .bool (dotB xs ys m)]) ∧ Below w.heap.size w w' := by
  obtain ⟨_, ad, cap, rfl, h1, _⟩ := h
  obtain ⟨_, ad', cap', rfl, h1', _⟩ := h'
  exact dotMod_any ad ad' _ _ cap cap' xs ys m rfl rfl (by omega) (by omega) w h1.ints h1'.ints

/-! ### STEP 1: THE WALK: the Go text returns true, AND WRITES NOTHING THAT WAS THERE: 'Below w.heap.size w w'' (Derived/Below.lean: '.refl', '.alloc', '.drew', '.setCell' at a new block, '.trans'). Open each 'IsRow' by 'rcases' AHEAD of 'go_enter'; part every test ahead of the walk. -/
set_option maxRecDepth 100000 in
set_option maxHeartbeats 3200000 in
theorem walk (a0 : Option Addr) (len0 cap0 : Nat) (z0 : List Int) (a1 : Option Addr) (len1 cap1 : Nat) (z1 : List Int) (w : World) (w0 : IsRow .u8 w a0 len0 cap0 z0) (w1 : IsRow .u8 w a1 len1 cap1 z1) (s0 : len0 ≤ 140737488351232) (s1 : len1 ≤ 140737488351232) :
    Calls Try.prog 6 #[.slice a0 len0 cap0, .slice a1 len1 cap1] w fun e w' => e = .returned (.bool true) ∧ Below w.heap.size w w' := by
  have hb0 := isB_of_row w0
  have hb1 := isB_of_row w1
  clear w0 w1
  by_cases hbig : 1048576 < (len0 : Int) + len1
  · go_enter Try.func6, Try.ntmps6
    go_wp2
    go_ret
    first | exact ⟨rfl, Below.refl _ _⟩ | exact rfl
  have HB0 := Lib.hid hb0
  have HB1 := Lib.hid hb1
  clear hb0 hb1
  go_enter Try.func6, Try.ntmps6
  go_wp2_with fail
  refine (drawInterpolate_any _ _ _ _ HB0.out).mono ?_
  rintro e v1 ⟨q, vx, vy, xs, ys, rfl, ⟨hq0, hq1⟩, hx, hy, hlx, hly, hv⟩
  clear hbig
  have hlf := itpRes_le q xs ys
  obtain ⟨fs, hfs⟩ : ∃ fs, itpRes q xs ys = fs := ⟨_, rfl⟩
  obtain ⟨ok, hok⟩ : ∃ ok, tabB q xs ys = ok := ⟨_, rfl⟩
  rw [hfs] at hlf
  have HFS := Lib.hid hfs
  have HOK := Lib.hid hok
  clear hfs hok
  have HB_1 := Lib.hid (hv)
  have X_1 := Lib.hid hx
  have Y_1 := Lib.hid hy
  clear hv 
  clear hx hy
  go_wp2_with fail
  refine (interpolate_ans X_1.out Y_1.out (by omega) (by omega)).mono ?_
  rw [HFS.out, HOK.out]
  rintro e v2 ⟨vf, rfl, ho, hv⟩
  have X_2 := Lib.hid (X_1.out.below hv)
  have Y_2 := Lib.hid (Y_1.out.below hv)
  have HB_2 := Lib.hid (bt HB_1.out hv)
  have F_2 := Lib.hid ho.toIn
  clear hv X_1 Y_1 HB_1
  clear ho
  go_wp2_with fail
  refine (sInterpolate_ans X_2.out Y_2.out (by omega) (by omega)).mono ?_
  rw [HFS.out, HOK.out]
  rintro e v3 ⟨vw, rfl, ho, hv⟩
  have X_3 := Lib.hid (X_2.out.below hv)
  have Y_3 := Lib.hid (Y_2.out.below hv)
  have F_3 := Lib.hid (F_2.out.below hv)
  have HB_3 := Lib.hid (bt HB_2.out hv)
  have W_3 := Lib.hid ho.toIn
  clear hv X_2 Y_2 F_2 HB_2
  clear ho
  go_wp2_with fail
  refine (drawPolyFromRoots_any _ _ _ _ (HB1.out.below HB_3.out)).mono ?_
  rintro e v4 ⟨p, vr, rs, rfl, ⟨hp0, hp1⟩, hr, hlr, hv⟩
  obtain ⟨ar, cr, rfl⟩ := hr.shape
  have hlg := rootsRes_le p rs
  obtain ⟨gs, hgs⟩ : ∃ gs, rootsRes p rs = gs := ⟨_, rfl⟩
  obtain ⟨one, hone⟩ : ∃ one, rootsB p rs = one := ⟨_, rfl⟩
  rw [hgs] at hlg
  have HGS := Lib.hid hgs
  have HONE := Lib.hid hone
  clear hgs hone
  have X_4 := Lib.hid (X_3.out.below hv)
  have Y_4 := Lib.hid (Y_3.out.below hv)
  have F_4 := Lib.hid (F_3.out.below hv)
  have W_4 := Lib.hid (W_3.out.below hv)
  have HB_4 := Lib.hid (bt HB_3.out hv)
  have R_4 := Lib.hid hr
  clear hv X_3 Y_3 F_3 W_3 HB_3
  clear hr
  go_wp2_with fail
  refine (polyFromRoots_ans R_4.out (by omega)).mono ?_
  rw [HGS.out, HONE.out]
  rintro e v5 ⟨vg, rfl, ho, hv⟩
  have X_5 := Lib.hid (X_4.out.below hv)
  have Y_5 := Lib.hid (Y_4.out.below hv)
  have F_5 := Lib.hid (F_4.out.below hv)
  have W_5 := Lib.hid (W_4.out.below hv)
  have R_5 := Lib.hid (R_4.out.below hv)
  have HB_5 := Lib.hid (bt HB_4.out hv)
  have G_5 := Lib.hid ho.toIn
  clear hv X_4 Y_4 F_4 W_4 R_4 HB_4
  clear ho
  go_wp2_with fail
  refine (sPolyFromRoots_ans R_5.out (by omega)).mono ?_
  rw [HGS.out, HONE.out]
  rintro e v6 ⟨vu, rfl, ho, hv⟩
  have X_6 := Lib.hid (X_5.out.below hv)
  have Y_6 := Lib.hid (Y_5.out.below hv)
  have F_6 := Lib.hid (F_5.out.below hv)
  have W_6 := Lib.hid (W_5.out.below hv)
  have R_6 := Lib.hid (R_5.out.below hv)
  have G_6 := Lib.hid (G_5.out.below hv)
  have HB_6 := Lib.hid (bt HB_5.out hv)
  have U_6 := Lib.hid ho.toIn
  clear hv X_5 Y_5 F_5 W_5 R_5 G_5 HB_5
  clear ho
  go_wp2_with fail
  refine (qI_any F_6.out W_6.out (by omega)).mono ?_
  rintro e v7 ⟨rfl, hv⟩
  have X_7 := Lib.hid (X_6.out.below hv)
  have Y_7 := Lib.hid (Y_6.out.below hv)
  have F_7 := Lib.hid (F_6.out.below hv)
  have R_7 := Lib.hid (R_6.out.below hv)
  have G_7 := Lib.hid (G_6.out.below hv)
  have U_7 := Lib.hid (U_6.out.below hv)
  have HB_7 := Lib.hid (bt HB_6.out hv)
  clear hv X_6 Y_6 F_6 W_6 R_6 G_6 U_6 HB_6
  go_wp2_with fail
  refine (qI_any G_7.out U_7.out (by omega)).mono ?_
  rintro e v8 ⟨rfl, hv⟩
  have X_8 := Lib.hid (X_7.out.below hv)
  have Y_8 := Lib.hid (Y_7.out.below hv)
  have F_8 := Lib.hid (F_7.out.below hv)
  have R_8 := Lib.hid (R_7.out.below hv)
  have G_8 := Lib.hid (G_7.out.below hv)
  have HB_8 := Lib.hid (bt HB_7.out hv)
  clear hv X_7 Y_7 F_7 R_7 G_7 U_7 HB_7
  cases one
  · cases ok
    · go_wp2
      go_ret
      exact ⟨rfl, HB_8.out⟩
    · obtain ⟨⟨q2, q3⟩, hl24, hlyx, efx, eall, ev, ee, evr, el, ed, edr⟩ := itp_facts HOK.out
      rw [HFS.out] at efx eall ee evr edr
      obtain ⟨X, hX⟩ : ∃ X, evRes q 0 fs = X := ⟨_, rfl⟩
      rw [hX] at evr edr
      have EFX := Lib.hid efx
      have EALL := Lib.hid eall
      have EV := Lib.hid ev
      have EE := Lib.hid ee
      have EVR := Lib.hid evr
      have EL := Lib.hid el
      have ED := Lib.hid ed
      have EDR := Lib.hid edr
      have HX := Lib.hid hX
      have hll := lagRes_le q 0 xs
      clear efx eall ev ee evr el ed edr hX
      go_wp2_with fail
      refine (evalAll_ans F_8.out X_8.out (by omega) (by omega)).mono ?_
      rw [EALL.out, EFX.out]
      rintro e v9 ⟨vl, rfl, ho, hv⟩
      have X_9 := Lib.hid (X_8.out.below hv)
      have Y_9 := Lib.hid (Y_8.out.below hv)
      have F_9 := Lib.hid (F_8.out.below hv)
      have R_9 := Lib.hid (R_8.out.below hv)
      have G_9 := Lib.hid (G_8.out.below hv)
      have HB_9 := Lib.hid (bt HB_8.out hv)
      have L_9 := Lib.hid ho.toIn
      clear hv X_8 Y_8 F_8 R_8 G_8 HB_8
      clear ho
      go_wp2_with fail
      refine (valueFrom_ans X_9.out Y_9.out (by omega) (by omega)).mono ?_
      rw [EVR.out, EV.out]
      rintro e v10 ⟨rfl, hv⟩
      have X_10 := Lib.hid (X_9.out.below hv)
      have Y_10 := Lib.hid (Y_9.out.below hv)
      have F_10 := Lib.hid (F_9.out.below hv)
      have R_10 := Lib.hid (R_9.out.below hv)
      have G_10 := Lib.hid (G_9.out.below hv)
      have L_10 := Lib.hid (L_9.out.below hv)
      have HB_10 := Lib.hid (bt HB_9.out hv)
      clear hv X_9 Y_9 F_9 R_9 G_9 L_9 HB_9
      go_wp2_with fail
      refine (evalPoly_ans F_10.out (by omega)).mono ?_
      rw [HX.out, EE.out]
      rintro e v11 ⟨rfl, hv⟩
      have X_11 := Lib.hid (X_10.out.below hv)
      have Y_11 := Lib.hid (Y_10.out.below hv)
      have R_11 := Lib.hid (R_10.out.below hv)
      have G_11 := Lib.hid (G_10.out.below hv)
      have L_11 := Lib.hid (L_10.out.below hv)
      have HB_11 := Lib.hid (bt HB_10.out hv)
      clear hv X_10 Y_10 F_10 R_10 G_10 L_10 HB_10
      go_wp2_with fail
      refine (lagrangeCoefs_ans X_11.out (by omega)).mono ?_
      rw [EL.out]
      rintro e v12 ⟨vc, rfl, ho, hv⟩
      have Y_12 := Lib.hid (Y_11.out.below hv)
      have R_12 := Lib.hid (R_11.out.below hv)
      have G_12 := Lib.hid (G_11.out.below hv)
      have L_12 := Lib.hid (L_11.out.below hv)
      have HB_12 := Lib.hid (bt HB_11.out hv)
      have C_12 := Lib.hid ho.toIn
      clear hv X_11 Y_11 R_11 G_11 L_11 HB_11
      clear ho
      go_wp2_with fail
      refine (dotI_any C_12.out Y_12.out (by omega) (by omega)).mono ?_
      rw [EDR.out, ED.out]
      rintro e v13 ⟨rfl, hv⟩
      have Y_13 := Lib.hid (Y_12.out.below hv)
      have R_13 := Lib.hid (R_12.out.below hv)
      have G_13 := Lib.hid (G_12.out.below hv)
      have L_13 := Lib.hid (L_12.out.below hv)
      have HB_13 := Lib.hid (bt HB_12.out hv)
      clear hv Y_12 R_12 G_12 L_12 C_12 HB_12
      go_wp2_with fail
      refine (qI_any L_13.out Y_13.out (by omega)).mono ?_
      rintro e v14 ⟨rfl, hv⟩
      have R_14 := Lib.hid (R_13.out.below hv)
      have G_14 := Lib.hid (G_13.out.below hv)
      have HB_14 := Lib.hid (bt HB_13.out hv)
      clear hv Y_13 R_13 G_13 L_13 HB_13
      go_wp2
      go_ret
      exact ⟨rfl, HB_14.out⟩
  · obtain ⟨⟨p2, p3⟩, hl23, efr, erz, ef1, edg⟩ := roots_facts HONE.out
    rw [HGS.out] at efr erz ef1 edg
    have EFR := Lib.hid efr
    have ERZ := Lib.hid erz
    have EF1 := Lib.hid ef1
    have EDG := Lib.hid edg
    clear efr erz ef1 edg
    go_wp2_with fail
    refine (evalAll_ans G_8.out R_8.out (by omega) (by omega)).mono ?_
    rw [ERZ.out, EFR.out]
    rintro e v9 ⟨vz, rfl, ho, hv⟩
    obtain ⟨az, cz, rfl⟩ := ho.toIn.shape
    have X_9 := Lib.hid (X_8.out.below hv)
    have Y_9 := Lib.hid (Y_8.out.below hv)
    have F_9 := Lib.hid (F_8.out.below hv)
    have R_9 := Lib.hid (R_8.out.below hv)
    have G_9 := Lib.hid (G_8.out.below hv)
    have HB_9 := Lib.hid (bt HB_8.out hv)
    have Z_9 := Lib.hid ho.toIn
    clear hv X_8 Y_8 F_8 R_8 G_8 HB_8
    clear ho
    go_wp2_with fail
    refine (degreeOf_ans G_9.out (by omega)).mono ?_
    rw [EDG.out, EF1.out]
    rintro e v10 ⟨rfl, hv⟩
    have X_10 := Lib.hid (X_9.out.below hv)
    have Y_10 := Lib.hid (Y_9.out.below hv)
    have F_10 := Lib.hid (F_9.out.below hv)
    have Z_10 := Lib.hid (Z_9.out.below hv)
    have HB_10 := Lib.hid (bt HB_9.out hv)
    clear hv X_9 Y_9 F_9 R_9 G_9 Z_9 HB_9
    obtain ⟨n, hn⟩ : ∃ n, rs.length = n := ⟨_, rfl⟩
    have hz := Z_10.out
    (try rw [List.length_replicate] at hz)
    rw [hn] at hz ⊢
    obtain ⟨_, az', cz', hze, hzi, _⟩ := hz
    simp only [Value.slice.injEq] at hze
    obtain ⟨rfl, hnz, rfl⟩ := hze
    have HZI := Lib.hid hzi.ints
    have hn24 : n ≤ 24 := by omega
    clear hzi hn hnz Z_10
    go_wp2_with fail
    go_loop [23, 125] (fun _ K => ∃ k : Nat, k ≤ n ∧ K = .int .i64 k) (fun _ K => n - (intOf K).toNat)
    case atStart => exact ⟨0, Nat.zero_le _, rfl⟩
    case round =>
      obtain ⟨k, hk, rfl⟩ := hrel
      by_cases hkn : k < n
      · obtain ⟨bz, oz, z, rfl, hbz, hcz, hdz⟩ := HZI.out.at (k := k) (by rw [List.length_replicate]; exact hkn)
        obtain rfl : z = 0 := List.eq_of_mem_replicate (mem_drop hdz)
        clear hdz
        go_wp2_with fail
        go_round
        case rel => exact ⟨k + 1, by omega, by go_num⟩
        case measure => simp only [intOf]; omega
      · cases ok
        · go_wp2
          go_ret
          exact ⟨rfl, HB_10.out⟩
        · obtain ⟨⟨q2, q3⟩, hl24, hlyx, efx, eall, ev, ee, evr, el, ed, edr⟩ := itp_facts HOK.out
          rw [HFS.out] at efx eall ee evr edr
          obtain ⟨X, hX⟩ : ∃ X, evRes q 0 fs = X := ⟨_, rfl⟩
          rw [hX] at evr edr
          have EFX := Lib.hid efx
          have EALL := Lib.hid eall
          have EV := Lib.hid ev
          have EE := Lib.hid ee
          have EVR := Lib.hid evr
          have EL := Lib.hid el
          have ED := Lib.hid ed
          have EDR := Lib.hid edr
          have HX := Lib.hid hX
          have hll := lagRes_le q 0 xs
          clear efx eall ev ee evr el ed edr hX
          go_wp2_with fail
          refine (evalAll_ans F_10.out X_10.out (by omega) (by omega)).mono ?_
          rw [EALL.out, EFX.out]
          rintro e v11 ⟨vl, rfl, ho, hv⟩
          have X_11 := Lib.hid (X_10.out.below hv)
          have Y_11 := Lib.hid (Y_10.out.below hv)
          have F_11 := Lib.hid (F_10.out.below hv)
          have HB_11 := Lib.hid (bt HB_10.out hv)
          have L_11 := Lib.hid ho.toIn
          clear hv X_10 Y_10 F_10 HB_10
          clear ho
          go_wp2_with fail
          refine (valueFrom_ans X_11.out Y_11.out (by omega) (by omega)).mono ?_
          rw [EVR.out, EV.out]
          rintro e v12 ⟨rfl, hv⟩
          have X_12 := Lib.hid (X_11.out.below hv)
          have Y_12 := Lib.hid (Y_11.out.below hv)
          have F_12 := Lib.hid (F_11.out.below hv)
          have L_12 := Lib.hid (L_11.out.below hv)
          have HB_12 := Lib.hid (bt HB_11.out hv)
          clear hv X_11 Y_11 F_11 L_11 HB_11
          go_wp2_with fail
          refine (evalPoly_ans F_12.out (by omega)).mono ?_
          rw [HX.out, EE.out]
          rintro e v13 ⟨rfl, hv⟩
          have X_13 := Lib.hid (X_12.out.below hv)
          have Y_13 := Lib.hid (Y_12.out.below hv)
          have L_13 := Lib.hid (L_12.out.below hv)
          have HB_13 := Lib.hid (bt HB_12.out hv)
          clear hv X_12 Y_12 F_12 L_12 HB_12
          go_wp2_with fail
          refine (lagrangeCoefs_ans X_13.out (by omega)).mono ?_
          rw [EL.out]
          rintro e v14 ⟨vc, rfl, ho, hv⟩
          have Y_14 := Lib.hid (Y_13.out.below hv)
          have L_14 := Lib.hid (L_13.out.below hv)
          have HB_14 := Lib.hid (bt HB_13.out hv)
          have C_14 := Lib.hid ho.toIn
          clear hv X_13 Y_13 L_13 HB_13
          clear ho
          go_wp2_with fail
          refine (dotI_any C_14.out Y_14.out (by omega) (by omega)).mono ?_
          rw [EDR.out, ED.out]
          rintro e v15 ⟨rfl, hv⟩
          have Y_15 := Lib.hid (Y_14.out.below hv)
          have L_15 := Lib.hid (L_14.out.below hv)
          have HB_15 := Lib.hid (bt HB_14.out hv)
          clear hv Y_14 L_14 C_14 HB_14
          go_wp2_with fail
          refine (qI_any L_15.out Y_15.out (by omega)).mono ?_
          rintro e v16 ⟨rfl, hv⟩
          have HB_16 := Lib.hid (bt HB_15.out hv)
          clear hv Y_15 L_15 HB_15
          go_wp2
          go_ret
          exact ⟨rfl, HB_16.out⟩

/-! ### THE ROW's STEP: WRITTEN OUT: LEAVE IT -/
set_option maxRecDepth 100000 in
theorem lifted (os : Os) (started : os.Started) (H : Type) (enc : TypeId × Value → H) :
    ReturnsInHanded {} Try.checked os 6 .any (Rows.fnInterpolationSpec.pre6 enc Try.prog Try.f6 Rows.fnInterpolationRow.domain false) (Rows.fnInterpolationSpec.post enc Try.prog Try.f6 false true false false) := by
  refine returnsInHanded_of_change_sized (C := Try.checked) own started (by kernel_rfl) Try.func6
    (ChangeSpec.witness6 (enc := enc) (C := Try.checked) false ⟨#[], #[.slice none 0 0, .slice none 0 0], []⟩ 8 (by kernel_rfl) (by kernel_rfl) (by kernel_rfl) (by kernel_rfl)) ?_
  intro W base args ds gs before hval0 hW hcnd hsz0 _
  have hsz : (DataW.weightsEach Try.prog (Try.f6.params.toList ++ Rows.fnInterpolationSpec.plain.varTypes Try.prog) (ds ++ gs)).all (· ≤ reachBytes) = true := hsz0
  clear hsz0
  have hval : ∀ (j : Nat) t v, Try.f6.params[j]? = some t → args[j]? = some v → Value.okWide Try.prog W .any base t v := hval0
  have hW' := hW
  obtain ⟨p, q, hA0, hV, rfl, hfz, hnd⟩ := hW
  have hA : DataW.TrodAll enc Try.prog W 0 (fun _ => true) true Try.f6.params.toList args.toList ds p := hA0
  rw [Try.params6] at hA hval hsz
  obtain ⟨v0, vs0, d0, ds0, p0, q0, hargs, rfl, rfl, h0, r0⟩ := trodAll_cons hA
  obtain ⟨v1, vs1, d1, ds1, p1, q1, rfl, rfl, rfl, h1, r1⟩ := trodAll_cons r0
  obtain ⟨rfl, rfl, rfl⟩ := trodAll_nil r1
  obtain rfl : args = #[v0, v1] := by cases args; simp_all
  obtain ⟨rfl, rfl⟩ := trodVars_none hV
  obtain ⟨a0, len0, cap0, rfl⟩ := okWide_slice Try.underlying22 (hval 0 22 v0 rfl rfl)
  have k0 := h0
  have lt0 : ∀ x ∈ p0, x.block < W.heap.size := by obtain ⟨m, hm⟩ := k0; exact DataW.trod_lt m _ _ _ hm
  obtain ⟨z0, w0, s0⟩ : ∃ zs, IsRow .u8 W a0 len0 cap0 zs ∧ len0 ≤ 140737488351232 := by
    obtain ⟨fuel, hf⟩ := h0
    rcases open_ints Try.underlying22 Try.underlying5 (by kernel_rfl) hf with ⟨hcs, hx⟩ | ⟨x, l, c, zs, hcs, _, hl, hm, hz, hx, hcell, hwz⟩
    · simp [Value.cells] at hcs
      obtain ⟨rfl, rfl, rfl⟩ := hcs
      exact ⟨[], .inl ⟨rfl, rfl, rfl, rfl⟩, by decide⟩
    · simp [Value.cells] at hcs
      obtain ⟨rfl, rfl, rfl⟩ := hcs
      simp only [Prod.mk.injEq] at hx
      have hq := sized_slice hsz (j := 0) (t := 22) (e := 5) rfl (congrArg some hx.1) Try.underlying22
      rw [bytes5] at hq
      simp only [lits, List.length_map, List.length_take, List.length_drop, reachBytes] at hq
      simp only [if_true] at hz
      exact ⟨zs, .inr ⟨_, rfl, hl, hm, by simpa using hz, hcell, hwz⟩, by omega⟩
  obtain ⟨a1, len1, cap1, rfl⟩ := okWide_slice Try.underlying22 (hval 1 22 v1 rfl rfl)
  have k1 := h1
  have lt1 : ∀ x ∈ p1, x.block < W.heap.size := by obtain ⟨m, hm⟩ := k1; exact DataW.trod_lt m _ _ _ hm
  obtain ⟨z1, w1, s1⟩ : ∃ zs, IsRow .u8 W a1 len1 cap1 zs ∧ len1 ≤ 140737488351232 := by
    obtain ⟨fuel, hf⟩ := h1
    rcases open_ints Try.underlying22 Try.underlying5 (by kernel_rfl) hf with ⟨hcs, hx⟩ | ⟨x, l, c, zs, hcs, _, hl, hm, hz, hx, hcell, hwz⟩
    · simp [Value.cells] at hcs
      obtain ⟨rfl, rfl, rfl⟩ := hcs
      exact ⟨[], .inl ⟨rfl, rfl, rfl, rfl⟩, by decide⟩
    · simp [Value.cells] at hcs
      obtain ⟨rfl, rfl, rfl⟩ := hcs
      simp only [Prod.mk.injEq] at hx
      have hq := sized_slice hsz (j := 1) (t := 22) (e := 5) rfl (congrArg some hx.1) Try.underlying22
      rw [bytes5] at hq
      simp only [lits, List.length_map, List.length_take, List.length_drop, reachBytes] at hq
      simp only [if_true] at hz
      exact ⟨zs, .inr ⟨_, rfl, hl, hm, by simpa using hz, hcell, hwz⟩, by omega⟩
  clear hA0 hval0
  refine (walk a0 len0 cap0 z0 a1 len1 cap1 z1 W w0 w1 s0 s1).mono fun e W' ⟨he, bel⟩ => ?_
  subst he
  exact ⟨_, rfl, _, _, _, [], _, [], hW', trodAll_mk1 (shut_bool Try.underlying4 _), (trodAll_cons_mk (Below.trod laidOut (by kernel_rfl) (of_decide_eq_true (by kernel_rfl)) k0 bel lt0) (trodAll_cons_mk (Below.trod laidOut (by kernel_rfl) (of_decide_eq_true (by kernel_rfl)) k1 bel lt1) trodAll_mk0)), rfl, bel.frame _, fun h => by cases h⟩

theorem over : Rows.fnInterpolationRow.holds Try.pinned (OpenSpec.ofChange Rows.fnInterpolationSpec) :=
  OpenClaim.holds_of_wide 6 Try.f6 rfl rfl rfl rfl rfl rfl rfl ⟨rfl, rfl, rfl, rfl, rfl⟩ rfl rfl rfl rfl rfl (by kernel_rfl) Try.func6
    (show joinedFacts Try.prog 6 Try.f6 Rows.fnInterpolationSpec Rows.fnInterpolationRow = true by unfold joinedFacts; rw [Head.make, Head.lifts, Head.enters]; kernel_rfl)
    (of_decide_eq_true (by kernel_rfl)) (by unfold Func.isWrapper; first | (rw [if_pos (by decide +kernel)]; kernel_rfl) | (rw [if_neg (by decide +kernel)]; exact ⟨rfl, rfl⟩))
    (fun os started H enc _ => lifted os started H enc)

/-- ████ THE STATEMENT ████ -/
theorem proved : Rows.FnInterpolationSaid := over
#print axioms proved
end Go.Proofs.Ytipfckfjelignaa.fnInterpolation
