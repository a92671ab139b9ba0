/-
For every group and every further argument the law FnExactReconstruct returns true: the program's Reconstruct answers as the reference's does, and leaves its arguments as they were.
No condition.
-/
import Derived.Test.YtfjaohmildkeoaaRows
import Derived.WalkKit
import Derived.ProofKit
import Derived.OpenShut
import Derived.ShutString
import Derived.ChangeOld
import Derived.Below
import Derived.Lib.SmallJoins
import Derived.Test.YtfjaohmildkeoaaShR
import Derived.Test.YtfjaohmildkeoaaFacts
namespace Go.Proofs.Ytfjaohmildkeoaa.fnExactReconstruct
open Go.Joins Go.ChangeShapes Go.WideShapes Go.ChangeAt Go.RowKit Go.Deep
open Go.ChangeMaps (open_string shut_string)
set_option linter.unusedVariables false

theorem own : ownKnob Try.prog.godebug = none := by kernel_rfl
theorem laidOut : laidOutB Try.prog = true := by kernel_rfl

/-- What the walk is told of a slice of integers that came in: it is nil; or it leads to a row of 'cap' cells that hold the numbers 'zs'. -/
def IsRow (k : IntKind) (w : World) (a : Option Addr) (len cap : Nat) (zs : List Int) : Prop :=
  (a = none ∧ len = 0 ∧ cap = 0 ∧ zs = []) ∨
  ∃ x, a = some x ∧ len ≤ cap ∧ cap ≤ maxLen ∧ zs.length = cap ∧ (∀ i, i < zs.length → w.cell? (x.add i) = some (.int k (zs.getD i 0))) ∧ ∀ n ∈ zs, (Lit.int k n).wf = true



/-! ### STEP 1: the walk: the Go text returns true and writes nothing that was there -/
set_option maxRecDepth 100000 in
set_option maxHeartbeats 3200000 in
theorem walk (P0 Q0 G0 : Int) (a1 : Option Addr) (len1 cap1 : Nat) (z1 : List Int) (a2 : Option Addr) (len2 cap2 : Nat) (z2 : List Int) (a3 : Option Addr) (len3 cap3 : Nat) (z3 : List Int) (w : World) (wP0 : (Lit.int .i64 P0).wf = true) (wQ0 : (Lit.int .i64 Q0).wf = true) (wG0 : (Lit.int .i64 G0).wf = true) (w1 : IsRow .i64 w a1 len1 cap1 z1) (w2 : IsRow .i64 w a2 len2 cap2 z2) (w3 : IsRow .i64 w a3 len3 cap3 z3) :
    Calls Try.prog 10 #[.agg #[.int .i64 P0, .int .i64 Q0, .int .i64 G0], .slice a1 len1 cap1, .slice a2 len2 cap2, .slice a3 len3 cap3] w fun e w' => e = .returned (.bool true) ∧ Below w.heap.size w w' := by
  obtain ⟨hcs, ncs, mcs⟩ := inI_of_row w1
  generalize z1.take len1 = cs at hcs ncs
  clear w1
  obtain ⟨hzs, nzs, mzs⟩ := inI_of_row w2
  generalize z2.take len2 = zs at hzs nzs
  clear w2
  obtain ⟨hss, nss, mss⟩ := inI_of_row w3
  generalize z3.take len3 = ss at hss nss
  clear w3
  have hal : Below w.heap.size w (w.alloc (.cells #[.int .i64 P0, .int .i64 Q0, .int .i64 G0] 44)) := ba _ _
  have R_0 := Lib.hid (gr_atS w w.heap.size rfl P0 Q0 G0 44)
  have CS_0 := Lib.hid (hcs.below hal)
  have ZS_0 := Lib.hid (hzs.below hal)
  have SS_0 := Lib.hid (hss.below hal)
  have HB_0 := Lib.hid hal
  clear hal hcs hzs hss
  by_cases b1 : 1048576 < len1
  · have c1 : (1048576 : Int) < (len1 : Int) := by omega
    unfold maxLen at mcs
    go_enter Try.func10, Try.ntmps10
    go_wp2
    go_ret
    exact ⟨rfl, HB_0.out⟩
  have c1 : (len1 : Int) ≤ 1048576 := by omega
  have lcs : cs.length ≤ 1048576 := by omega
  by_cases b2 : 1048576 < len2
  · have c2 : (1048576 : Int) < (len2 : Int) := by omega
    unfold maxLen at mzs
    go_enter Try.func10, Try.ntmps10
    go_wp2
    go_ret
    exact ⟨rfl, HB_0.out⟩
  have c2 : (len2 : Int) ≤ 1048576 := by omega
  have lzs : zs.length ≤ 1048576 := by omega
  by_cases b3 : 1048576 < len3
  · have c3 : (1048576 : Int) < (len3 : Int) := by omega
    unfold maxLen at mss
    go_enter Try.func10, Try.ntmps10
    go_wp2
    go_ret
    exact ⟨rfl, HB_0.out⟩
  have c3 : (len3 : Int) ≤ 1048576 := by omega
  have lss : ss.length ≤ 1048576 := by omega
  obtain ⟨k1, hk1⟩ : ∃ k, rkV P0 Q0 G0 cs zs ss = k := ⟨_, rfl⟩
  have K1 := Lib.hid hk1
  clear hk1
  obtain ⟨k2, hk2⟩ : ∃ k, rkOK P0 Q0 G0 cs zs ss = k := ⟨_, rfl⟩
  have K2 := Lib.hid hk2
  clear hk2
  go_enter Try.func10, Try.ntmps10
  obtain ⟨g0, g1, g2⟩ := R_0.out
  go_wp2_with fail
  refine (toGroup_any _ _ _ _).mono ?_
  rintro e u1 ⟨rfl, hb⟩
  have HB_1 := Lib.hid (bt HB_0.out hb)
  have R_1 := Lib.hid (R_0.out.below hb)
  have CS_1 := Lib.hid (CS_0.out.below hb)
  have ZS_1 := Lib.hid (ZS_0.out.below hb)
  have SS_1 := Lib.hid (SS_0.out.below hb)
  clear hb HB_0 R_0 CS_0 ZS_0 SS_0
  clear g0 g1 g2
  go_wp2_with fail
  refine (toI_any CS_1.out (by omega)).mono ?_
  rintro e u2 ⟨scs, rfl, ho, hb⟩
  have HB_2 := Lib.hid (bt HB_1.out hb)
  have R_2 := Lib.hid (R_1.out.below hb)
  have CS_2 := Lib.hid (CS_1.out.below hb)
  have ZS_2 := Lib.hid (ZS_1.out.below hb)
  have SS_2 := Lib.hid (SS_1.out.below hb)
  have CCS_2 := Lib.hid (ho.toIn)
  clear hb HB_1 R_1 CS_1 ZS_1 SS_1
  clear ho
  go_wp2_with fail
  refine (toI_any ZS_2.out (by omega)).mono ?_
  rintro e u3 ⟨szs, rfl, ho, hb⟩
  have HB_3 := Lib.hid (bt HB_2.out hb)
  have R_3 := Lib.hid (R_2.out.below hb)
  have CS_3 := Lib.hid (CS_2.out.below hb)
  have ZS_3 := Lib.hid (ZS_2.out.below hb)
  have SS_3 := Lib.hid (SS_2.out.below hb)
  have CCS_3 := Lib.hid (CCS_2.out.below hb)
  have CZS_3 := Lib.hid (ho.toIn)
  clear hb HB_2 R_2 CS_2 ZS_2 SS_2 CCS_2
  clear ho
  go_wp2_with fail
  refine (toI_any SS_3.out (by omega)).mono ?_
  rintro e u4 ⟨sss, rfl, ho, hb⟩
  have HB_4 := Lib.hid (bt HB_3.out hb)
  have R_4 := Lib.hid (R_3.out.below hb)
  have CS_4 := Lib.hid (CS_3.out.below hb)
  have ZS_4 := Lib.hid (ZS_3.out.below hb)
  have SS_4 := Lib.hid (SS_3.out.below hb)
  have CCS_4 := Lib.hid (CCS_3.out.below hb)
  have CZS_4 := Lib.hid (CZS_3.out.below hb)
  have CSS_4 := Lib.hid (ho.toIn)
  clear hb HB_3 R_3 CS_3 ZS_3 SS_3 CCS_3 CZS_3
  clear ho
  go_wp2_with fail
  refine (sReconstruct_ans P0 Q0 G0 lcs lzs lss CCS_4.out CZS_4.out CSS_4.out).mono ?_
  rw [K1.out, K2.out]
  rintro e u5 ⟨rfl, hb⟩
  have HB_5 := Lib.hid (bt HB_4.out hb)
  have R_5 := Lib.hid (R_4.out.below hb)
  have CS_5 := Lib.hid (CS_4.out.below hb)
  have ZS_5 := Lib.hid (ZS_4.out.below hb)
  have SS_5 := Lib.hid (SS_4.out.below hb)
  clear hb HB_4 R_4 CS_4 ZS_4 SS_4 CCS_4 CZS_4 CSS_4
  go_wp2_with fail
  refine (toI_any CS_5.out (by omega)).mono ?_
  rintro e u6 ⟨qcs, rfl, ho, hb⟩
  have HB_6 := Lib.hid (bt HB_5.out hb)
  have R_6 := Lib.hid (R_5.out.below hb)
  have CS_6 := Lib.hid (CS_5.out.below hb)
  have ZS_6 := Lib.hid (ZS_5.out.below hb)
  have SS_6 := Lib.hid (SS_5.out.below hb)
  have QCS_6 := Lib.hid (ho.toIn)
  clear hb HB_5 R_5 CS_5 ZS_5 SS_5
  clear ho
  go_wp2_with fail
  refine (toI_any ZS_6.out (by omega)).mono ?_
  rintro e u7 ⟨qzs, rfl, ho, hb⟩
  have HB_7 := Lib.hid (bt HB_6.out hb)
  have R_7 := Lib.hid (R_6.out.below hb)
  have CS_7 := Lib.hid (CS_6.out.below hb)
  have ZS_7 := Lib.hid (ZS_6.out.below hb)
  have SS_7 := Lib.hid (SS_6.out.below hb)
  have QCS_7 := Lib.hid (QCS_6.out.below hb)
  have QZS_7 := Lib.hid (ho.toIn)
  clear hb HB_6 R_6 CS_6 ZS_6 SS_6 QCS_6
  clear ho
  go_wp2_with fail
  refine (toI_any SS_7.out (by omega)).mono ?_
  rintro e u8 ⟨qss, rfl, ho, hb⟩
  have HB_8 := Lib.hid (bt HB_7.out hb)
  have R_8 := Lib.hid (R_7.out.below hb)
  have CS_8 := Lib.hid (CS_7.out.below hb)
  have ZS_8 := Lib.hid (ZS_7.out.below hb)
  have SS_8 := Lib.hid (SS_7.out.below hb)
  have QCS_8 := Lib.hid (QCS_7.out.below hb)
  have QZS_8 := Lib.hid (QZS_7.out.below hb)
  have QSS_8 := Lib.hid (ho.toIn)
  clear hb HB_7 R_7 CS_7 ZS_7 SS_7 QCS_7 QZS_7
  clear ho
  obtain ⟨g0, g1, g2⟩ := R_8.out
  go_wp2_with fail
  refine (toGroup_any _ _ _ _).mono ?_
  rintro e u9 ⟨rfl, hb⟩
  have HB_9 := Lib.hid (bt HB_8.out hb)
  have R_9 := Lib.hid (R_8.out.below hb)
  have CS_9 := Lib.hid (CS_8.out.below hb)
  have ZS_9 := Lib.hid (ZS_8.out.below hb)
  have SS_9 := Lib.hid (SS_8.out.below hb)
  have QCS_9 := Lib.hid (QCS_8.out.below hb)
  have QZS_9 := Lib.hid (QZS_8.out.below hb)
  have QSS_9 := Lib.hid (QSS_8.out.below hb)
  clear hb HB_8 R_8 CS_8 ZS_8 SS_8 QCS_8 QZS_8 QSS_8
  clear g0 g1 g2
  go_wp2_with fail
  refine (reconstruct_ans P0 Q0 G0 lcs lzs lss QCS_9.out QZS_9.out QSS_9.out).mono ?_
  rw [K1.out, K2.out]
  rintro e u10 ⟨rfl, hb⟩
  have HB_10 := Lib.hid (bt HB_9.out hb)
  have R_10 := Lib.hid (R_9.out.below hb)
  have CS_10 := Lib.hid (CS_9.out.below hb)
  have ZS_10 := Lib.hid (ZS_9.out.below hb)
  have SS_10 := Lib.hid (SS_9.out.below hb)
  have QCS_10 := Lib.hid (QCS_9.out.below hb)
  have QZS_10 := Lib.hid (QZS_9.out.below hb)
  have QSS_10 := Lib.hid (QSS_9.out.below hb)
  clear hb HB_9 R_9 CS_9 ZS_9 SS_9 QCS_9 QZS_9 QSS_9
  go_wp2_with fail
  refine (toI_any CS_10.out (by omega)).mono ?_
  rintro e u11 ⟨rcs, rfl, ho, hb⟩
  have HB_11 := Lib.hid (bt HB_10.out hb)
  have R_11 := Lib.hid (R_10.out.below hb)
  have CS_11 := Lib.hid (CS_10.out.below hb)
  have ZS_11 := Lib.hid (ZS_10.out.below hb)
  have SS_11 := Lib.hid (SS_10.out.below hb)
  have QCS_11 := Lib.hid (QCS_10.out.below hb)
  have QZS_11 := Lib.hid (QZS_10.out.below hb)
  have QSS_11 := Lib.hid (QSS_10.out.below hb)
  have CI_11 := Lib.hid (ho.toIn)
  clear hb HB_10 R_10 CS_10 ZS_10 SS_10 QCS_10 QZS_10 QSS_10
  clear ho
  go_wp2_with fail
  refine (eqI_any QCS_11.out CI_11.out (by omega)).mono ?_
  rintro e u12 ⟨rfl, hb⟩
  have HB_12 := Lib.hid (bt HB_11.out hb)
  have R_12 := Lib.hid (R_11.out.below hb)
  have CS_12 := Lib.hid (CS_11.out.below hb)
  have ZS_12 := Lib.hid (ZS_11.out.below hb)
  have SS_12 := Lib.hid (SS_11.out.below hb)
  have QCS_12 := Lib.hid (QCS_11.out.below hb)
  have QZS_12 := Lib.hid (QZS_11.out.below hb)
  have QSS_12 := Lib.hid (QSS_11.out.below hb)
  clear hb HB_11 R_11 CS_11 ZS_11 SS_11 QCS_11 QZS_11 QSS_11 CI_11
  go_wp2_with fail
  refine (toI_any ZS_12.out (by omega)).mono ?_
  rintro e u13 ⟨rzs, rfl, ho, hb⟩
  have HB_13 := Lib.hid (bt HB_12.out hb)
  have R_13 := Lib.hid (R_12.out.below hb)
  have CS_13 := Lib.hid (CS_12.out.below hb)
  have ZS_13 := Lib.hid (ZS_12.out.below hb)
  have SS_13 := Lib.hid (SS_12.out.below hb)
  have QCS_13 := Lib.hid (QCS_12.out.below hb)
  have QZS_13 := Lib.hid (QZS_12.out.below hb)
  have QSS_13 := Lib.hid (QSS_12.out.below hb)
  have CI_13 := Lib.hid (ho.toIn)
  clear hb HB_12 R_12 CS_12 ZS_12 SS_12 QCS_12 QZS_12 QSS_12
  clear ho
  go_wp2_with fail
  refine (eqI_any QZS_13.out CI_13.out (by omega)).mono ?_
  rintro e u14 ⟨rfl, hb⟩
  have HB_14 := Lib.hid (bt HB_13.out hb)
  have R_14 := Lib.hid (R_13.out.below hb)
  have CS_14 := Lib.hid (CS_13.out.below hb)
  have ZS_14 := Lib.hid (ZS_13.out.below hb)
  have SS_14 := Lib.hid (SS_13.out.below hb)
  have QCS_14 := Lib.hid (QCS_13.out.below hb)
  have QZS_14 := Lib.hid (QZS_13.out.below hb)
  have QSS_14 := Lib.hid (QSS_13.out.below hb)
  clear hb HB_13 R_13 CS_13 ZS_13 SS_13 QCS_13 QZS_13 QSS_13 CI_13
  go_wp2_with fail
  refine (toI_any SS_14.out (by omega)).mono ?_
  rintro e u15 ⟨rss, rfl, ho, hb⟩
  have HB_15 := Lib.hid (bt HB_14.out hb)
  have R_15 := Lib.hid (R_14.out.below hb)
  have CS_15 := Lib.hid (CS_14.out.below hb)
  have ZS_15 := Lib.hid (ZS_14.out.below hb)
  have SS_15 := Lib.hid (SS_14.out.below hb)
  have QCS_15 := Lib.hid (QCS_14.out.below hb)
  have QZS_15 := Lib.hid (QZS_14.out.below hb)
  have QSS_15 := Lib.hid (QSS_14.out.below hb)
  have CI_15 := Lib.hid (ho.toIn)
  clear hb HB_14 R_14 CS_14 ZS_14 SS_14 QCS_14 QZS_14 QSS_14
  clear ho
  go_wp2_with fail
  refine (eqI_any QSS_15.out CI_15.out (by omega)).mono ?_
  rintro e u16 ⟨rfl, hb⟩
  have HB_16 := Lib.hid (bt HB_15.out hb)
  have R_16 := Lib.hid (R_15.out.below hb)
  have CS_16 := Lib.hid (CS_15.out.below hb)
  have ZS_16 := Lib.hid (ZS_15.out.below hb)
  have SS_16 := Lib.hid (SS_15.out.below hb)
  have QCS_16 := Lib.hid (QCS_15.out.below hb)
  have QZS_16 := Lib.hid (QZS_15.out.below hb)
  have QSS_16 := Lib.hid (QSS_15.out.below hb)
  clear hb HB_15 R_15 CS_15 ZS_15 SS_15 QCS_15 QZS_15 QSS_15 CI_15
  go_wp2
  go_ret
  exact ⟨rfl, HB_16.out⟩

/-! ### The row's step -/
set_option maxRecDepth 100000 in
theorem lifted (os : Os) (started : os.Started) (H : Type) (enc : TypeId × Value → H) :
    ReturnsInHanded {} Try.checked os 10 .any (Rows.fnExactReconstructSpec.pre6 enc Try.prog Try.f10 Rows.fnExactReconstructRow.domain false) (Rows.fnExactReconstructSpec.post enc Try.prog Try.f10 false true false false) := by
  refine returnsInHanded_of_change (C := Try.checked) own started (by kernel_rfl) Try.func10
    (ChangeSpec.witness6 (enc := enc) (C := Try.checked) false ⟨#[], #[.agg #[.int .i64 0, .int .i64 0, .int .i64 0], .slice none 0 0, .slice none 0 0, .slice none 0 0], []⟩ 8 (by kernel_rfl) (by kernel_rfl) (by kernel_rfl) (by kernel_rfl)) ?_
  intro W base args ds gs before hval0 hW hcnd _
  have hval : ∀ (j : Nat) t v, Try.f10.params[j]? = some t → args[j]? = some v → Value.okWide Try.prog W .any base t v := hval0
  have hW' := hW
  obtain ⟨p, q, hA0, hV, rfl, hfz, hnd⟩ := hW
  have hA : DataW.TrodAll enc Try.prog W 0 (fun _ => true) true Try.f10.params.toList args.toList ds p := hA0
  rw [Try.params10] at hA hval
  obtain ⟨v0, vs0, d0, ds0, p0, q0, hargs, rfl, rfl, h0, r0⟩ := trodAll_cons hA
  obtain ⟨v1, vs1, d1, ds1, p1, q1, rfl, rfl, rfl, h1, r1⟩ := trodAll_cons r0
  obtain ⟨v2, vs2, d2, ds2, p2, q2, rfl, rfl, rfl, h2, r2⟩ := trodAll_cons r1
  obtain ⟨v3, vs3, d3, ds3, p3, q3, rfl, rfl, rfl, h3, r3⟩ := trodAll_cons r2
  obtain ⟨rfl, rfl, rfl⟩ := trodAll_nil r3
  obtain rfl : args = #[v0, v1, v2, v3] := by cases args; simp_all
  obtain ⟨rfl, rfl⟩ := trodVars_none hV
  have k0 := h0
  have lt0 : ∀ x ∈ p0, x.block < W.heap.size := by obtain ⟨m, hm⟩ := k0; exact DataW.trod_lt m _ _ _ hm
  obtain ⟨c0_0, c0_1, c0_2, y0_0, y0_1, y0_2, m0, rfl, rfl, rfl, hy0_0, hy0_1, hy0_2⟩ := open_agg3 Try.underlying44 (by kernel_rfl) (by kernel_rfl) (hval 0 44 v0 rfl rfl) h0
  obtain ⟨P0, e0_0, _, wP0⟩ := DataW.trod_int Try.underlying3 hy0_0
  obtain rfl := (List.cons.inj e0_0).1
  obtain ⟨Q0, e0_1, _, wQ0⟩ := DataW.trod_int Try.underlying3 hy0_1
  obtain rfl := (List.cons.inj e0_1).1
  obtain ⟨G0, e0_2, _, wG0⟩ := DataW.trod_int Try.underlying3 hy0_2
  obtain rfl := (List.cons.inj e0_2).1
  have k1 := h1
  have lt1 : ∀ x ∈ p1, x.block < W.heap.size := by obtain ⟨m, hm⟩ := k1; exact DataW.trod_lt m _ _ _ hm
  obtain ⟨a1, len1, cap1, rfl⟩ := okWide_slice Try.underlying25 (hval 1 25 v1 rfl rfl)
  obtain ⟨z1, w1⟩ : ∃ zs, IsRow .i64 W a1 len1 cap1 zs := by
    obtain ⟨fuel, hf⟩ := h1
    rcases open_ints Try.underlying25 Try.underlying3 (by kernel_rfl) hf with ⟨hcs, _⟩ | ⟨x, l, c, zs, hcs, _, hl, hm, hz, _, hcell, hwz⟩
    · simp [Value.cells] at hcs
      obtain ⟨rfl, rfl, rfl⟩ := hcs
      exact ⟨[], .inl ⟨rfl, rfl, rfl, rfl⟩⟩
    · simp [Value.cells] at hcs
      obtain ⟨rfl, rfl, rfl⟩ := hcs
      exact ⟨zs, .inr ⟨_, rfl, hl, hm, by simpa using hz, hcell, hwz⟩⟩
  have k2 := h2
  have lt2 : ∀ x ∈ p2, x.block < W.heap.size := by obtain ⟨m, hm⟩ := k2; exact DataW.trod_lt m _ _ _ hm
  obtain ⟨a2, len2, cap2, rfl⟩ := okWide_slice Try.underlying25 (hval 2 25 v2 rfl rfl)
  obtain ⟨z2, w2⟩ : ∃ zs, IsRow .i64 W a2 len2 cap2 zs := by
    obtain ⟨fuel, hf⟩ := h2
    rcases open_ints Try.underlying25 Try.underlying3 (by kernel_rfl) hf with ⟨hcs, _⟩ | ⟨x, l, c, zs, hcs, _, hl, hm, hz, _, hcell, hwz⟩
    · simp [Value.cells] at hcs
      obtain ⟨rfl, rfl, rfl⟩ := hcs
      exact ⟨[], .inl ⟨rfl, rfl, rfl, rfl⟩⟩
    · simp [Value.cells] at hcs
      obtain ⟨rfl, rfl, rfl⟩ := hcs
      exact ⟨zs, .inr ⟨_, rfl, hl, hm, by simpa using hz, hcell, hwz⟩⟩
  have k3 := h3
  have lt3 : ∀ x ∈ p3, x.block < W.heap.size := by obtain ⟨m, hm⟩ := k3; exact DataW.trod_lt m _ _ _ hm
  obtain ⟨a3, len3, cap3, rfl⟩ := okWide_slice Try.underlying25 (hval 3 25 v3 rfl rfl)
  obtain ⟨z3, w3⟩ : ∃ zs, IsRow .i64 W a3 len3 cap3 zs := by
    obtain ⟨fuel, hf⟩ := h3
    rcases open_ints Try.underlying25 Try.underlying3 (by kernel_rfl) hf with ⟨hcs, _⟩ | ⟨x, l, c, zs, hcs, _, hl, hm, hz, _, hcell, hwz⟩
    · simp [Value.cells] at hcs
      obtain ⟨rfl, rfl, rfl⟩ := hcs
      exact ⟨[], .inl ⟨rfl, rfl, rfl, rfl⟩⟩
    · simp [Value.cells] at hcs
      obtain ⟨rfl, rfl, rfl⟩ := hcs
      exact ⟨zs, .inr ⟨_, rfl, hl, hm, by simpa using hz, hcell, hwz⟩⟩
  clear hA0 hval0
  refine (walk P0 Q0 G0 a1 len1 cap1 z1 a2 len2 cap2 z2 a3 len3 cap3 z3 W wP0 wQ0 wG0 w1 w2 w3).mono fun e W' ⟨he, bel⟩ => ?_
  subst he
  exact ⟨_, rfl, _, _, _, [], _, [], hW', trodAll_mk1 (shut_bool Try.underlying4 _), (trodAll_cons_mk (Below.trod laidOut (by kernel_rfl) (of_decide_eq_true (by kernel_rfl)) k0 bel lt0) (trodAll_cons_mk (Below.trod laidOut (by kernel_rfl) (of_decide_eq_true (by kernel_rfl)) k1 bel lt1) (trodAll_cons_mk (Below.trod laidOut (by kernel_rfl) (of_decide_eq_true (by kernel_rfl)) k2 bel lt2) (trodAll_cons_mk (Below.trod laidOut (by kernel_rfl) (of_decide_eq_true (by kernel_rfl)) k3 bel lt3) trodAll_mk0)))), rfl, bel.frame _, fun h => by cases h⟩

theorem over : Rows.fnExactReconstructRow.holds Try.pinned (OpenSpec.ofChange Rows.fnExactReconstructSpec) :=
  OpenClaim.holds_of_wide 10 Try.f10 rfl rfl rfl rfl rfl rfl rfl ⟨rfl, rfl, rfl, rfl, rfl⟩ rfl rfl rfl rfl rfl (by kernel_rfl) Try.func10
    (show joinedFacts Try.prog 10 Try.f10 Rows.fnExactReconstructSpec Rows.fnExactReconstructRow = true by unfold joinedFacts; rw [Head.make, Head.lifts, Head.enters]; kernel_rfl)
    (of_decide_eq_true (by kernel_rfl)) (by unfold Func.isWrapper; first | (rw [if_pos (by decide +kernel)]; kernel_rfl) | (rw [if_neg (by decide +kernel)]; exact ⟨rfl, rfl⟩))
    (fun os started H enc _ => lifted os started H enc)

/-- The statement. -/
theorem proved : Rows.FnExactReconstructSaid := over
#print axioms proved
end Go.Proofs.Ytfjaohmildkeoaa.fnExactReconstruct
