/-
For every group and every further argument the law FnExactVerifyEqual returns true: the program's VerifyEqual answers as the reference's does, and leaves its arguments as they were.
No condition.
-/
import Derived.Test.YtdaekpfngphefaaRows
import Derived.WalkKit
import Derived.ProofKit
import Derived.OpenShut
import Derived.ShutString
import Derived.ChangeOld
import Derived.Below
import Derived.Lib.SmallJoins
import Derived.Test.YtdaekpfngphefaaSigW
import Derived.Test.YtdaekpfngphefaaSigL
import Derived.Test.YtdaekpfngphefaaOpP
import Derived.Test.YtdaekpfngphefaaFacts
namespace Go.Proofs.Ytdaekpfngphefaa.fnExactVerifyEqual
open Go.Joins Go.ChangeShapes Go.WideShapes Go.ChangeAt Go.RowKit Go.Deep
open Go.ChangeMaps (open_string shut_string)
set_option linter.unusedVariables false

theorem own : ownKnob Try.prog.godebug = none := by kernel_rfl
theorem laidOut : laidOutB Try.prog = true := by kernel_rfl

/-- What the walk is told of a slice of integers that came in: it is nil; or it leads to a row of 'cap' cells that hold the numbers 'zs'. -/
def IsRow (k : IntKind) (w : World) (a : Option Addr) (len cap : Nat) (zs : List Int) : Prop :=
  (a = none ∧ len = 0 ∧ cap = 0 ∧ zs = []) ∨
  ∃ x, a = some x ∧ len ≤ cap ∧ cap ≤ maxLen ∧ zs.length = cap ∧ (∀ i, i < zs.length → w.cell? (x.add i) = some (.int k (zs.getD i 0))) ∧ ∀ n ∈ zs, (Lit.int k n).wf = true



/-! ### STEP 1: the walk: the Go text returns true and writes nothing that was there -/
set_option maxRecDepth 100000 in
set_option maxHeartbeats 3200000 in
theorem walk (P0 Q0 G0 : Int) (a1 : ByteArray) (G12 Y12 G22 Y22 : Int) (a3 : Value) (w : World) (wP0 : (Lit.int .i64 P0).wf = true) (wQ0 : (Lit.int .i64 Q0).wf = true) (wG0 : (Lit.int .i64 G0).wf = true) (w1 : a1.size ≤ maxLen) (wG12 : (Lit.int .i64 G12).wf = true) (wY12 : (Lit.int .i64 Y12).wf = true) (wG22 : (Lit.int .i64 G22).wf = true) (wY22 : (Lit.int .i64 Y22).wf = true) (w3 : ∃ q : PrD, InP w.heap.size w a3 q ∧ q.c.length ≤ maxLen ∧ q.h.length ≤ maxLen ∧ q.r.length ≤ maxLen) :
    Calls Try.prog 5 #[.agg #[.int .i64 P0, .int .i64 Q0, .int .i64 G0], .string a1, .agg #[.int .i64 G12, .int .i64 Y12, .int .i64 G22, .int .i64 Y22], a3] w fun e w' => e = .returned (.bool true) ∧ Below w.heap.size w w' := by
  obtain ⟨q, hz, hm1, hm2, hm3⟩ := w3
  obtain ⟨a1_, a2_, b1_, b2_, c1_, c2_, rfl⟩ := hz.shape
  have hal : Below w.heap.size w (((w.alloc (.cells #[.int .i64 P0, .int .i64 Q0, .int .i64 G0] 23)).alloc (.cells #[.int .i64 G12, .int .i64 Y12, .int .i64 G22, .int .i64 Y22] 45)).alloc (.cells #[.slice a1_ q.c.length a2_, .slice b1_ q.h.length b2_, .slice c1_ q.r.length c2_] 27)) := bt (bt (ba _ _) (ba _ _)) (ba _ _)
  have HR_0 := Lib.hid (show GR (((w.alloc (.cells #[.int .i64 P0, .int .i64 Q0, .int .i64 G0] 23)).alloc (.cells #[.int .i64 G12, .int .i64 Y12, .int .i64 G22, .int .i64 Y22] 45)).alloc (.cells #[.slice a1_ q.c.length a2_, .slice b1_ q.h.length b2_, .slice c1_ q.r.length c2_] 27)) w.heap.size P0 Q0 G0 from (gr_new w P0 Q0 G0 23).below (bt (ba _ _) (ba _ _)))
  have hv := v4_new (w.alloc (.cells #[.int .i64 P0, .int .i64 Q0, .int .i64 G0] 23)) G12 Y12 G22 Y22 45
  rw [show (w.alloc (.cells #[.int .i64 P0, .int .i64 Q0, .int .i64 G0] 23)).heap.size = w.heap.size + 1 by simp] at hv
  have HL_0 := Lib.hid (show V4 (((w.alloc (.cells #[.int .i64 P0, .int .i64 Q0, .int .i64 G0] 23)).alloc (.cells #[.int .i64 G12, .int .i64 Y12, .int .i64 G22, .int .i64 Y22] 45)).alloc (.cells #[.slice a1_ q.c.length a2_, .slice b1_ q.h.length b2_, .slice c1_ q.r.length c2_] 27)) (w.heap.size + 1) G12 Y12 G22 Y22 from (hv).below (ba _ _))
  clear hv
  have hv := b3_new ((w.alloc (.cells #[.int .i64 P0, .int .i64 Q0, .int .i64 G0] 23)).alloc (.cells #[.int .i64 G12, .int .i64 Y12, .int .i64 G22, .int .i64 Y22] 45)) (.slice a1_ q.c.length a2_) (.slice b1_ q.h.length b2_) (.slice c1_ q.r.length c2_) 27
  rw [show ((w.alloc (.cells #[.int .i64 P0, .int .i64 Q0, .int .i64 G0] 23)).alloc (.cells #[.int .i64 G12, .int .i64 Y12, .int .i64 G22, .int .i64 Y22] 45)).heap.size = w.heap.size + 1 + 1 by simp] at hv
  have HX_0 := Lib.hid hv
  clear hv
  have Ha_0 := Lib.hid (hz.below hal)
  have HB_0 := Lib.hid hal
  clear hal hz 
  by_cases b1 : 1048576 < a1.size
  · have c1 : (1048576 : Int) < (a1.size : Int) := by omega
    unfold maxLen at w1
    go_enter Try.func5, Try.ntmps5
    go_wp2
    go_ret
    exact ⟨rfl, HB_0.out⟩
  have c1 : (a1.size : Int) ≤ 1048576 := by omega
  have d1 : a1.size ≤ 1048576 := by omega
  by_cases bq : 1048576 < (q.n : Int)
  · have e2 : szV q.n 1048576 = -1 := by unfold szV; rw [if_neg (by omega)]
    have E2 := Lib.hid e2
    clear e2
    obtain ⟨x0, x1, x2, _⟩ := HX_0.out
    go_enter Try.func5, Try.ntmps5
    go_wp2_with fail
    refine (szP_any Ha_0.out (by omega) (by omega) hm1 hm2 hm3).mono ?_
    rw [E2.out]
    rintro e w1 ⟨rfl, hb⟩
    have HB_1 := Lib.hid (bt HB_0.out hb)
    clear hb x0 x1 x2
    go_wp2
    go_ret
    exact ⟨rfl, HB_1.out⟩
  have e2 : szV q.n 1048576 = 1048576 - ((q.n : Nat) : Int) := by unfold szV; rw [if_pos (by omega)]
  have E2 := Lib.hid e2
  have hql : q.n ≤ 1048576 := by omega
  have hqi : 0 ≤ 1048576 - (q.n : Int) := by omega
  clear e2
  obtain ⟨k1, hk1⟩ : ∃ k, vrV P0 Q0 G0 a1 (St.lin [[G12], [G22]] [Y12, Y22]) q = k := ⟨_, rfl⟩
  obtain ⟨k2, hk2⟩ : ∃ k, vrB P0 Q0 G0 a1 (St.lin [[G12], [G22]] [Y12, Y22]) = k := ⟨_, rfl⟩
  have K1 := Lib.hid hk1
  have K2 := Lib.hid hk2
  clear hk1 hk2
  obtain ⟨x0, x1, x2, _⟩ := HX_0.out
  go_enter Try.func5, Try.ntmps5
  go_wp2_with fail
  refine (szP_any Ha_0.out (by omega) (by omega) hm1 hm2 hm3).mono ?_
  rw [E2.out]
  rintro e v1 ⟨rfl, hb⟩
  clear x0 x1 x2
  have HR_1 := Lib.hid (HR_0.out.below hb)
  have HL_1 := Lib.hid (HL_0.out.below hb)
  have HX_1 := Lib.hid (HX_0.out.below hb)
  have Ha_1 := Lib.hid (Ha_0.out.below hb)
  have HB_1 := Lib.hid (bt HB_0.out hb)
  clear hb HR_0 HL_0 HX_0 Ha_0 HB_0
  go_wp2_with fail
  have HK := Lib.hid (show ∀ w', Below v1.heap.size v1 w' → ((w'.cell? ⟨w.heap.size, 0, none⟩ = some (.int .i64 P0) ∧ w'.cell? ⟨w.heap.size, 1, none⟩ = some (.int .i64 Q0) ∧ w'.cell? ⟨w.heap.size, 2, none⟩ = some (.int .i64 G0)) ∧ (w'.cell? ⟨w.heap.size + 1, 0, none⟩ = some (.int .i64 G12) ∧ w'.cell? ⟨w.heap.size + 1, 1, none⟩ = some (.int .i64 Y12) ∧ w'.cell? ⟨w.heap.size + 1, 2, none⟩ = some (.int .i64 G22) ∧ w'.cell? ⟨w.heap.size + 1, 3, none⟩ = some (.int .i64 Y22)) ∧ (w'.cell? ⟨w.heap.size + 1 + 1, 0, none⟩ = some (.slice a1_ q.c.length a2_) ∧ w'.cell? ⟨w.heap.size + 1 + 1, 1, none⟩ = some (.slice b1_ q.h.length b2_) ∧ w'.cell? ⟨w.heap.size + 1 + 1, 2, none⟩ = some (.slice c1_ q.r.length c2_))) from fun w' hk => ⟨HR_1.out.below hk, HL_1.out.below hk, ⟨(HX_1.out.below hk).1, (HX_1.out.below hk).2.1, (HX_1.out.below hk).2.2.1⟩⟩)
  go_region_held3 (fun w' => (w'.cell? ⟨w.heap.size, 0, none⟩ = some (.int .i64 P0) ∧ w'.cell? ⟨w.heap.size, 1, none⟩ = some (.int .i64 Q0) ∧ w'.cell? ⟨w.heap.size, 2, none⟩ = some (.int .i64 G0)) ∧ (w'.cell? ⟨w.heap.size + 1, 0, none⟩ = some (.int .i64 G12) ∧ w'.cell? ⟨w.heap.size + 1, 1, none⟩ = some (.int .i64 Y12) ∧ w'.cell? ⟨w.heap.size + 1, 2, none⟩ = some (.int .i64 G22) ∧ w'.cell? ⟨w.heap.size + 1, 3, none⟩ = some (.int .i64 Y22)) ∧ (w'.cell? ⟨w.heap.size + 1 + 1, 0, none⟩ = some (.slice a1_ q.c.length a2_) ∧ w'.cell? ⟨w.heap.size + 1 + 1, 1, none⟩ = some (.slice b1_ q.h.length b2_) ∧ w'.cell? ⟨w.heap.size + 1 + 1, 2, none⟩ = some (.slice c1_ q.r.length c2_))) (first | exact HK.out _ (Below.refl _ v1).drew | exact HK.out _ Hr1.out | exact HK.out _ Hr2.out | exact HK.out _ Hr3.out | exact HK.out _ Hr4.out) ((first
    | (go_at_call 18; (with_reducible refine (toGroup_any _ _ _ _).mono ?_); rintro e r1_1 ⟨rfl, hb⟩; have Hr1 := Lib.hid (bt (Below.refl _ v1).drew hb); clear hb)
    | (go_at_call 29; (with_reducible refine (toEql_any _ _ _ _ _).mono ?_); rintro e r1_2 ⟨rfl, hb⟩; have Hr2 := Lib.hid (bt Hr1.out hb); clear hb)
    | (go_at_call 21; (with_reducible refine (toP_any (Ha_1.out.below Hr2.out) (by omega)).mono ?_); rintro e r1_3 ⟨uq, rfl, ho, hb⟩; have Hr3 := Lib.hid (bt Hr2.out hb); obtain ⟨_, _, _, _, _, _, rfl⟩ := ho.toIn.shape; have HCq3 := Lib.hid ho.toIn; clear ho; clear hb)
    | (go_at_call 28; (with_reducible refine (sVerifyEqual_any P0 Q0 G0 G12 Y12 G22 Y22 a1 d1 hql HCq3.out).mono ?_); rw [K1.out, K2.out]; rintro e r1_4 ⟨rfl, hb⟩; have Hr4 := Lib.hid (bt Hr3.out hb); have HCq4 := Lib.hid (HCq3.out.below hb); clear hb)
    | fail))
  have hb := Hr4.out
  clear HK Hr1 Hr2 Hr3 Hr4 HCq3 HCq4
  have HR_2 := Lib.hid (HR_1.out.below hb)
  have HL_2 := Lib.hid (HL_1.out.below hb)
  have HX_2 := Lib.hid (HX_1.out.below hb)
  have Ha_2 := Lib.hid (Ha_1.out.below hb)
  have HB_2 := Lib.hid (bt HB_1.out hb)
  clear hb HR_1 HL_1 HX_1 Ha_1 HB_1
  obtain ⟨x0, x1, x2, _⟩ := HX_2.out
  go_wp2_with fail
  refine (toP_any Ha_2.out (by omega)).mono ?_
  rintro e v3 ⟨u, rfl, ho, hb1⟩
  clear x0 x1 x2
  obtain ⟨d1_, d2_, e1_, e2_, f1_, f2_, rfl⟩ := ho.toIn.shape
  have hba := ba v3 (.cells #[.slice d1_ q.c.length d2_, .slice e1_ q.h.length e2_, .slice f1_ q.r.length f2_] 36)
  have hb := bt hb1 hba
  have HR_3 := Lib.hid (HR_2.out.below hb)
  have HL_3 := Lib.hid (HL_2.out.below hb)
  have HX_3 := Lib.hid (HX_2.out.below hb)
  have Ha_3 := Lib.hid (Ha_2.out.below hb)
  have HB_3 := Lib.hid (bt HB_2.out hb)
  have Hx_3 := Lib.hid (ho.toIn.below hba)
  have HY_3 := Lib.hid (b3_new v3 (.slice d1_ q.c.length d2_) (.slice e1_ q.h.length e2_) (.slice f1_ q.r.length f2_) 36)
  clear hb HR_2 HL_2 HX_2 Ha_2 HB_2
  clear ho hb1 hba
  obtain ⟨y0, y1, y2, _⟩ := HY_3.out
  go_wp2_with fail
  clear y0 y1 y2
  generalize hW4 : v3.alloc (.cells #[.slice d1_ q.c.length d2_, .slice e1_ q.h.length e2_, .slice f1_ q.r.length f2_] 36) = v4 at *
  clear hW4
  go_wp2_with fail
  have HK := Lib.hid (show ∀ w', Below v4.heap.size v4 w' → ((w'.cell? ⟨w.heap.size, 0, none⟩ = some (.int .i64 P0) ∧ w'.cell? ⟨w.heap.size, 1, none⟩ = some (.int .i64 Q0) ∧ w'.cell? ⟨w.heap.size, 2, none⟩ = some (.int .i64 G0)) ∧ (w'.cell? ⟨w.heap.size + 1, 0, none⟩ = some (.int .i64 G12) ∧ w'.cell? ⟨w.heap.size + 1, 1, none⟩ = some (.int .i64 Y12) ∧ w'.cell? ⟨w.heap.size + 1, 2, none⟩ = some (.int .i64 G22) ∧ w'.cell? ⟨w.heap.size + 1, 3, none⟩ = some (.int .i64 Y22)) ∧ (w'.cell? ⟨v3.heap.size, 0, none⟩ = some (.slice d1_ q.c.length d2_) ∧ w'.cell? ⟨v3.heap.size, 1, none⟩ = some (.slice e1_ q.h.length e2_) ∧ w'.cell? ⟨v3.heap.size, 2, none⟩ = some (.slice f1_ q.r.length f2_))) from fun w' hk => ⟨HR_3.out.below hk, HL_3.out.below hk, ⟨(HY_3.out.below hk).1, (HY_3.out.below hk).2.1, (HY_3.out.below hk).2.2.1⟩⟩)
  go_region_held3 (fun w' => (w'.cell? ⟨w.heap.size, 0, none⟩ = some (.int .i64 P0) ∧ w'.cell? ⟨w.heap.size, 1, none⟩ = some (.int .i64 Q0) ∧ w'.cell? ⟨w.heap.size, 2, none⟩ = some (.int .i64 G0)) ∧ (w'.cell? ⟨w.heap.size + 1, 0, none⟩ = some (.int .i64 G12) ∧ w'.cell? ⟨w.heap.size + 1, 1, none⟩ = some (.int .i64 Y12) ∧ w'.cell? ⟨w.heap.size + 1, 2, none⟩ = some (.int .i64 G22) ∧ w'.cell? ⟨w.heap.size + 1, 3, none⟩ = some (.int .i64 Y22)) ∧ (w'.cell? ⟨v3.heap.size, 0, none⟩ = some (.slice d1_ q.c.length d2_) ∧ w'.cell? ⟨v3.heap.size, 1, none⟩ = some (.slice e1_ q.h.length e2_) ∧ w'.cell? ⟨v3.heap.size, 2, none⟩ = some (.slice f1_ q.r.length f2_))) (first | exact HK.out _ (Below.refl _ v4).drew | exact HK.out _ Hr1.out | exact HK.out _ Hr2.out | exact HK.out _ Hr3.out) ((first
    | (go_at_call 18; (with_reducible refine (toGroup_any _ _ _ _).mono ?_); rintro e r4_1 ⟨rfl, hb⟩; have Hr1 := Lib.hid (bt (Below.refl _ v4).drew hb); clear hb)
    | (go_at_call 29; (with_reducible refine (toEql_any _ _ _ _ _).mono ?_); rintro e r4_2 ⟨rfl, hb⟩; have Hr2 := Lib.hid (bt Hr1.out hb); clear hb)
    | (go_at_call 30; (with_reducible refine (verifyEqual_any P0 Q0 G0 G12 Y12 G22 Y22 a1 d1 hql (Hx_3.out.below Hr2.out)).mono ?_); rw [K1.out, K2.out]; rintro e r4_3 ⟨rfl, hb⟩; have Hr3 := Lib.hid (bt Hr2.out hb); clear hb)
    | fail))
  have hb := Hr3.out
  clear HK Hr1 Hr2 Hr3 
  have HR_5 := Lib.hid (HR_3.out.below hb)
  have HL_5 := Lib.hid (HL_3.out.below hb)
  have HX_5 := Lib.hid (HX_3.out.below hb)
  have Ha_5 := Lib.hid (Ha_3.out.below hb)
  have Hx_5 := Lib.hid (Hx_3.out.below hb)
  have HY_5 := Lib.hid (HY_3.out.below hb)
  have HB_5 := Lib.hid (bt HB_3.out hb)
  clear hb HR_3 HL_3 HX_3 Ha_3 Hx_3 HY_3 HB_3
  go_wp2_with fail
  have HK := Lib.hid (show ∀ w', Below r4_3.heap.size r4_3 w' → ((w'.cell? ⟨w.heap.size + 1 + 1, 0, none⟩ = some (.slice a1_ q.c.length a2_) ∧ w'.cell? ⟨w.heap.size + 1 + 1, 1, none⟩ = some (.slice b1_ q.h.length b2_) ∧ w'.cell? ⟨w.heap.size + 1 + 1, 2, none⟩ = some (.slice c1_ q.r.length c2_)) ∧ (w'.cell? ⟨v3.heap.size, 0, none⟩ = some (.slice d1_ q.c.length d2_) ∧ w'.cell? ⟨v3.heap.size, 1, none⟩ = some (.slice e1_ q.h.length e2_) ∧ w'.cell? ⟨v3.heap.size, 2, none⟩ = some (.slice f1_ q.r.length f2_))) from fun w' hk => ⟨⟨(HX_5.out.below hk).1, (HX_5.out.below hk).2.1, (HX_5.out.below hk).2.2.1⟩, ⟨(HY_5.out.below hk).1, (HY_5.out.below hk).2.1, (HY_5.out.below hk).2.2.1⟩⟩)
  go_region_held3 (fun w' => (w'.cell? ⟨w.heap.size + 1 + 1, 0, none⟩ = some (.slice a1_ q.c.length a2_) ∧ w'.cell? ⟨w.heap.size + 1 + 1, 1, none⟩ = some (.slice b1_ q.h.length b2_) ∧ w'.cell? ⟨w.heap.size + 1 + 1, 2, none⟩ = some (.slice c1_ q.r.length c2_)) ∧ (w'.cell? ⟨v3.heap.size, 0, none⟩ = some (.slice d1_ q.c.length d2_) ∧ w'.cell? ⟨v3.heap.size, 1, none⟩ = some (.slice e1_ q.h.length e2_) ∧ w'.cell? ⟨v3.heap.size, 2, none⟩ = some (.slice f1_ q.r.length f2_))) (first | exact HK.out _ (Below.refl _ r4_3).drew | exact HK.out _ Hr1.out | exact HK.out _ Hr2.out) ((first
    | (go_at_call 21; (with_reducible refine (toP_any (Ha_5.out.below (Below.refl _ r4_3).drew) (by omega)).mono ?_); rintro e r5_1 ⟨uq, rfl, ho, hb⟩; have Hr1 := Lib.hid (bt (Below.refl _ r4_3).drew hb); obtain ⟨_, _, _, _, _, _, rfl⟩ := ho.toIn.shape; have HCq1 := Lib.hid ho.toIn; clear ho; clear hb)
    | (go_at_call 25; (with_reducible refine (eqP_any (Hx_5.out.below Hr1.out) HCq1.out (by omega)).mono ?_); rintro e r5_2 ⟨rfl, hb⟩; have Hr2 := Lib.hid (bt Hr1.out hb); have HCq2 := Lib.hid (HCq1.out.below hb); clear hb)
    | fail))
  have hb := Hr2.out
  clear HK Hr1 Hr2 HCq1 HCq2
  have HR_6 := Lib.hid (HR_5.out.below hb)
  have HL_6 := Lib.hid (HL_5.out.below hb)
  have HX_6 := Lib.hid (HX_5.out.below hb)
  have Ha_6 := Lib.hid (Ha_5.out.below hb)
  have Hx_6 := Lib.hid (Hx_5.out.below hb)
  have HY_6 := Lib.hid (HY_5.out.below hb)
  have HB_6 := Lib.hid (bt HB_5.out hb)
  clear hb HR_5 HL_5 HX_5 Ha_5 Hx_5 HY_5 HB_5
  go_wp2
  go_ret
  exact ⟨rfl, HB_6.out⟩

/-! ### The row's step -/
set_option maxRecDepth 100000 in
theorem lifted (os : Os) (started : os.Started) (H : Type) (enc : TypeId × Value → H) :
    ReturnsInHanded {} Try.checked os 5 .any (Rows.fnExactVerifyEqualSpec.pre6 enc Try.prog Try.f5 Rows.fnExactVerifyEqualRow.domain false) (Rows.fnExactVerifyEqualSpec.post enc Try.prog Try.f5 false true false false) := by
  refine returnsInHanded_of_change (C := Try.checked) own started (by kernel_rfl) Try.func5
    (ChangeSpec.witness6 (enc := enc) (C := Try.checked) false ⟨#[], #[.agg #[.int .i64 0, .int .i64 0, .int .i64 0], .string ByteArray.empty, .agg #[.int .i64 0, .int .i64 0, .int .i64 0, .int .i64 0], .agg #[.slice none 0 0, .slice none 0 0, .slice none 0 0]], []⟩ 8 (by kernel_rfl) (by kernel_rfl) (by kernel_rfl) (by kernel_rfl)) ?_
  intro W base args ds gs before hval0 hW hcnd _
  have hval : ∀ (j : Nat) t v, Try.f5.params[j]? = some t → args[j]? = some v → Value.okWide Try.prog W .any base t v := hval0
  have hW' := hW
  obtain ⟨p, q, hA0, hV, rfl, hfz, hnd⟩ := hW
  have hA : DataW.TrodAll enc Try.prog W 0 (fun _ => true) true Try.f5.params.toList args.toList ds p := hA0
  rw [Try.params5] at hA hval
  obtain ⟨v0, vs0, d0, ds0, p0, q0, hargs, rfl, rfl, h0, r0⟩ := trodAll_cons hA
  obtain ⟨v1, vs1, d1, ds1, p1, q1, rfl, rfl, rfl, h1, r1⟩ := trodAll_cons r0
  obtain ⟨v2, vs2, d2, ds2, p2, q2, rfl, rfl, rfl, h2, r2⟩ := trodAll_cons r1
  obtain ⟨v3, vs3, d3, ds3, p3, q3, rfl, rfl, rfl, h3, r3⟩ := trodAll_cons r2
  obtain ⟨rfl, rfl, rfl⟩ := trodAll_nil r3
  obtain rfl : args = #[v0, v1, v2, v3] := by cases args; simp_all
  obtain ⟨rfl, rfl⟩ := trodVars_none hV
  have k0 := h0
  have lt0 : ∀ x ∈ p0, x.block < W.heap.size := by obtain ⟨m, hm⟩ := k0; exact DataW.trod_lt m _ _ _ hm
  obtain ⟨c0_0, c0_1, c0_2, y0_0, y0_1, y0_2, m0, rfl, rfl, rfl, hy0_0, hy0_1, hy0_2⟩ := open_agg3 Try.underlying23 (by kernel_rfl) (by kernel_rfl) (hval 0 23 v0 rfl rfl) h0
  obtain ⟨P0, e0_0, _, wP0⟩ := DataW.trod_int Try.underlying3 hy0_0
  obtain rfl := (List.cons.inj e0_0).1
  obtain ⟨Q0, e0_1, _, wQ0⟩ := DataW.trod_int Try.underlying3 hy0_1
  obtain rfl := (List.cons.inj e0_1).1
  obtain ⟨G0, e0_2, _, wG0⟩ := DataW.trod_int Try.underlying3 hy0_2
  obtain rfl := (List.cons.inj e0_2).1
  obtain ⟨a1, rfl, rfl, rfl, w1⟩ := open_string Try.underlying9 (hval 1 9 v1 rfl rfl) h1
  have k2 := h2
  have lt2 : ∀ x ∈ p2, x.block < W.heap.size := by obtain ⟨m, hm⟩ := k2; exact DataW.trod_lt m _ _ _ hm
  obtain ⟨c2_0, c2_1, c2_2, c2_3, y2_0, y2_1, y2_2, y2_3, m2, rfl, rfl, rfl, hy2_0, hy2_1, hy2_2, hy2_3⟩ := open_agg4 Try.underlying45 (by kernel_rfl) (by kernel_rfl) (hval 2 45 v2 rfl rfl) h2
  obtain ⟨G12, e2_0, _, wG12⟩ := DataW.trod_int Try.underlying3 hy2_0
  obtain rfl := (List.cons.inj e2_0).1
  obtain ⟨Y12, e2_1, _, wY12⟩ := DataW.trod_int Try.underlying3 hy2_1
  obtain rfl := (List.cons.inj e2_1).1
  obtain ⟨G22, e2_2, _, wG22⟩ := DataW.trod_int Try.underlying3 hy2_2
  obtain rfl := (List.cons.inj e2_2).1
  obtain ⟨Y22, e2_3, _, wY22⟩ := DataW.trod_int Try.underlying3 hy2_3
  obtain rfl := (List.cons.inj e2_3).1
  have k3 := h3
  have lt3 : ∀ x ∈ p3, x.block < W.heap.size := by obtain ⟨m, hm⟩ := k3; exact DataW.trod_lt m _ _ _ hm
  have w3 := inP_open (hval 3 27 v3 rfl rfl) h3
  clear hA0 hval0
  refine (walk P0 Q0 G0 a1 G12 Y12 G22 Y22 _ W wP0 wQ0 wG0 w1 wG12 wY12 wG22 wY22 w3).mono fun e W' ⟨he, bel⟩ => ?_
  subst he
  exact ⟨_, rfl, _, _, _, [], _, [], hW', trodAll_mk1 (shut_bool Try.underlying4 _), (trodAll_cons_mk (Below.trod laidOut (by kernel_rfl) (of_decide_eq_true (by kernel_rfl)) k0 bel lt0) (trodAll_cons_mk (shut_string Try.underlying9 w1) (trodAll_cons_mk (Below.trod laidOut (by kernel_rfl) (of_decide_eq_true (by kernel_rfl)) k2 bel lt2) (trodAll_cons_mk (Below.trod laidOut (by kernel_rfl) (of_decide_eq_true (by kernel_rfl)) k3 bel lt3) trodAll_mk0)))), rfl, bel.frame _, fun h => by cases h⟩

theorem over : Rows.fnExactVerifyEqualRow.holds Try.pinned (OpenSpec.ofChange Rows.fnExactVerifyEqualSpec) :=
  OpenClaim.holds_of_wide 5 Try.f5 rfl rfl rfl rfl rfl rfl rfl ⟨rfl, rfl, rfl, rfl, rfl⟩ rfl rfl rfl rfl rfl (by kernel_rfl) Try.func5
    (show joinedFacts Try.prog 5 Try.f5 Rows.fnExactVerifyEqualSpec Rows.fnExactVerifyEqualRow = true by unfold joinedFacts; rw [Head.make, Head.lifts, Head.enters]; kernel_rfl)
    (of_decide_eq_true (by kernel_rfl)) (by unfold Func.isWrapper; first | (rw [if_pos (by decide +kernel)]; kernel_rfl) | (rw [if_neg (by decide +kernel)]; exact ⟨rfl, rfl⟩))
    (fun os started H enc _ => lifted os started H enc)

/-- The statement. -/
theorem proved : Rows.FnExactVerifyEqualSaid := over
#print axioms proved
end Go.Proofs.Ytdaekpfngphefaa.fnExactVerifyEqual
