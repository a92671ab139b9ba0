/-
For every group and every further argument the law FnExactVerifyOneOf returns true: the program's VerifyOneOf answers as the reference's does, and leaves its arguments as they were.
No condition.
-/
import Derived.Test.YtdaekpfngphefaaRows
import Derived.WalkKit
import Derived.ProofKit
import Derived.OpenShut
import Derived.ShutString
import Derived.ChangeOld
import Derived.Below
import Derived.Lib.SmallJoins
import Derived.Test.YtdaekpfngphefaaSigY
import Derived.Test.YtdaekpfngphefaaOpV
import Derived.Test.YtdaekpfngphefaaFacts
namespace Go.Proofs.Ytdaekpfngphefaa.fnExactVerifyOneOf
open Go.Joins Go.ChangeShapes Go.WideShapes Go.ChangeAt Go.RowKit Go.Deep
open Go.ChangeMaps (open_string shut_string)
set_option linter.unusedVariables false

theorem own : ownKnob Try.prog.godebug = none := by kernel_rfl
theorem laidOut : laidOutB Try.prog = true := by kernel_rfl

/-- What the walk is told of a slice of integers that came in: it is nil; or it leads to a row of 'cap' cells that hold the numbers 'zs'. -/
def IsRow (k : IntKind) (w : World) (a : Option Addr) (len cap : Nat) (zs : List Int) : Prop :=
  (a = none ∧ len = 0 ∧ cap = 0 ∧ zs = []) ∨
  ∃ x, a = some x ∧ len ≤ cap ∧ cap ≤ maxLen ∧ zs.length = cap ∧ (∀ i, i < zs.length → w.cell? (x.add i) = some (.int k (zs.getD i 0))) ∧ ∀ n ∈ zs, (Lit.int k n).wf = true



/-! ### STEP 1: the walk: the Go text returns true and writes nothing that was there -/
set_option maxRecDepth 100000 in
set_option maxHeartbeats 3200000 in
theorem walk (P0 Q0 G0 : Int) (a1 : ByteArray) (a2 : Value) (a3 : Value) (w : World) (wP0 : (Lit.int .i64 P0).wf = true) (wQ0 : (Lit.int .i64 Q0).wf = true) (wG0 : (Lit.int .i64 G0).wf = true) (w1 : a1.size ≤ maxLen) (w2 : ∃ zs, InE w.heap.size w a2 zs ∧ zs.length ≤ 4 * maxLen) (w3 : ∃ q : PrD, InP w.heap.size w a3 q ∧ q.c.length ≤ maxLen ∧ q.h.length ≤ maxLen ∧ q.r.length ≤ maxLen) :
    Calls Try.prog 6 #[.agg #[.int .i64 P0, .int .i64 Q0, .int .i64 G0], .string a1, a2, a3] w fun e w' => e = .returned (.bool true) ∧ Below w.heap.size w w' := by
  obtain ⟨es, hes, mes⟩ := w2
  obtain ⟨q, hz, hm1, hm2, hm3⟩ := w3
  obtain ⟨a1_, a2_, b1_, b2_, c1_, c2_, rfl⟩ := hz.shape
  have hal : Below w.heap.size w ((w.alloc (.cells #[.int .i64 P0, .int .i64 Q0, .int .i64 G0] 23)).alloc (.cells #[.slice a1_ q.c.length a2_, .slice b1_ q.h.length b2_, .slice c1_ q.r.length c2_] 27)) := bt (ba _ _) (ba _ _)
  have HR_0 := Lib.hid (show GR ((w.alloc (.cells #[.int .i64 P0, .int .i64 Q0, .int .i64 G0] 23)).alloc (.cells #[.slice a1_ q.c.length a2_, .slice b1_ q.h.length b2_, .slice c1_ q.r.length c2_] 27)) w.heap.size P0 Q0 G0 from (gr_new w P0 Q0 G0 23).below (ba _ _))
  have hv := b3_new (w.alloc (.cells #[.int .i64 P0, .int .i64 Q0, .int .i64 G0] 23)) (.slice a1_ q.c.length a2_) (.slice b1_ q.h.length b2_) (.slice c1_ q.r.length c2_) 27
  rw [show (w.alloc (.cells #[.int .i64 P0, .int .i64 Q0, .int .i64 G0] 23)).heap.size = w.heap.size + 1 by simp] at hv
  have HX_0 := Lib.hid hv
  clear hv
  have Ha_0 := Lib.hid (hz.below hal)
  have Hes_0 := Lib.hid (hes.below hal)
  have HB_0 := Lib.hid hal
  clear hal hz hes
  by_cases b1 : 1048576 < a1.size
  · have c1 : (1048576 : Int) < (a1.size : Int) := by omega
    unfold maxLen at w1
    go_enter Try.func6, Try.ntmps6
    go_wp2
    go_ret
    exact ⟨rfl, HB_0.out⟩
  have c1 : (a1.size : Int) ≤ 1048576 := by omega
  have d1 : a1.size ≤ 1048576 := by omega
  by_cases b2 : 1048576 < es.length / 4
  · have e1 : szV (es.length / 4) 1048576 = -1 := by unfold szV; rw [if_neg (by omega)]
    have E1 := Lib.hid e1
    clear e1
    go_enter Try.func6, Try.ntmps6
    go_wp2_with fail
    refine (szE_any Hes_0.out (by omega) (by omega) mes).mono ?_
    rw [E1.out]
    rintro e w' ⟨rfl, rfl⟩
    go_wp2
    go_ret
    exact ⟨rfl, HB_0.out⟩
  obtain ⟨lf, hlf⟩ : ∃ lf : Int, lf = 1048576 - ((es.length / 4 : Nat) : Int) := ⟨_, rfl⟩
  have hlf0 : 0 ≤ lf ∧ lf ≤ 1048576 := by omega
  have e1 : szV (es.length / 4) 1048576 = lf := by unfold szV; rw [if_pos (by omega), hlf]
  have E1 := Lib.hid e1
  clear e1 hlf
  have les : es.length ≤ 4194307 := by omega
  by_cases bq : lf < (q.n : Int)
  · have e2 : szV q.n lf = -1 := by unfold szV; rw [if_neg (by omega)]
    have E2 := Lib.hid e2
    clear e2
    obtain ⟨x0, x1, x2, _⟩ := HX_0.out
    go_enter Try.func6, Try.ntmps6
    go_wp2_with fail
    refine (szE_any Hes_0.out (by omega) (by omega) mes).mono ?_
    rw [E1.out]
    rintro e w' ⟨rfl, rfl⟩
    go_wp2_with fail
    refine (szP_any Ha_0.out hlf0.1 hlf0.2 hm1 hm2 hm3).mono ?_
    rw [E2.out]
    rintro e w1 ⟨rfl, hb⟩
    have HB_1 := Lib.hid (bt HB_0.out hb)
    clear hb x0 x1 x2
    go_wp2
    go_ret
    exact ⟨rfl, HB_1.out⟩
  have e2 : szV q.n lf = lf - ((q.n : Nat) : Int) := by unfold szV; rw [if_pos (by omega)]
  have E2 := Lib.hid e2
  have hql : q.n ≤ 1048576 := by omega
  have hqi : 0 ≤ lf - (q.n : Int) := by omega
  clear e2
  obtain ⟨k1, hk1⟩ : ∃ k, vrV P0 Q0 G0 a1 (St.cho es) q = k := ⟨_, rfl⟩
  obtain ⟨k2, hk2⟩ : ∃ k, vrB P0 Q0 G0 a1 (St.cho es) = k := ⟨_, rfl⟩
  have K1 := Lib.hid hk1
  have K2 := Lib.hid hk2
  clear hk1 hk2
  obtain ⟨x0, x1, x2, _⟩ := HX_0.out
  go_enter Try.func6, Try.ntmps6
  go_wp2_with fail
  refine (szE_any Hes_0.out (by omega) (by omega) mes).mono ?_
  rw [E1.out]
  rintro e w' ⟨rfl, rfl⟩
  go_wp2_with fail
  refine (szP_any Ha_0.out hlf0.1 hlf0.2 hm1 hm2 hm3).mono ?_
  rw [E2.out]
  rintro e v1 ⟨rfl, hb⟩
  clear x0 x1 x2
  have HR_1 := Lib.hid (HR_0.out.below hb)
  have HX_1 := Lib.hid (HX_0.out.below hb)
  have Ha_1 := Lib.hid (Ha_0.out.below hb)
  have Hes_1 := Lib.hid (Hes_0.out.below hb)
  have HB_1 := Lib.hid (bt HB_0.out hb)
  clear hb HR_0 HX_0 Ha_0 Hes_0 HB_0
  go_wp2_with fail
  have HK := Lib.hid (show ∀ w', Below v1.heap.size v1 w' → ((w'.cell? ⟨w.heap.size, 0, none⟩ = some (.int .i64 P0) ∧ w'.cell? ⟨w.heap.size, 1, none⟩ = some (.int .i64 Q0) ∧ w'.cell? ⟨w.heap.size, 2, none⟩ = some (.int .i64 G0)) ∧ (w'.cell? ⟨w.heap.size + 1, 0, none⟩ = some (.slice a1_ q.c.length a2_) ∧ w'.cell? ⟨w.heap.size + 1, 1, none⟩ = some (.slice b1_ q.h.length b2_) ∧ w'.cell? ⟨w.heap.size + 1, 2, none⟩ = some (.slice c1_ q.r.length c2_))) from fun w' hk => ⟨HR_1.out.below hk, ⟨(HX_1.out.below hk).1, (HX_1.out.below hk).2.1, (HX_1.out.below hk).2.2.1⟩⟩)
  go_region_held3 (fun w' => (w'.cell? ⟨w.heap.size, 0, none⟩ = some (.int .i64 P0) ∧ w'.cell? ⟨w.heap.size, 1, none⟩ = some (.int .i64 Q0) ∧ w'.cell? ⟨w.heap.size, 2, none⟩ = some (.int .i64 G0)) ∧ (w'.cell? ⟨w.heap.size + 1, 0, none⟩ = some (.slice a1_ q.c.length a2_) ∧ w'.cell? ⟨w.heap.size + 1, 1, none⟩ = some (.slice b1_ q.h.length b2_) ∧ w'.cell? ⟨w.heap.size + 1, 2, none⟩ = some (.slice c1_ q.r.length c2_))) (first | exact HK.out _ (Below.refl _ v1).drew | exact HK.out _ Hr1.out | exact HK.out _ Hr2.out | exact HK.out _ Hr3.out | exact HK.out _ Hr4.out) ((first
    | (go_at_call 18; (with_reducible refine (toGroup_any _ _ _ _).mono ?_); rintro e r1_1 ⟨rfl, hb⟩; have Hr1 := Lib.hid (bt (Below.refl _ v1).drew hb); clear hb)
    | (go_at_call 33; (with_reducible refine (toE_any (Hes_1.out.below Hr1.out) (by omega)).mono ?_); rintro e r1_2 ⟨ues, rfl, ho, hb⟩; have Hr2 := Lib.hid (bt Hr1.out hb); have HCe2 := Lib.hid ho.toIn; clear ho; clear hb)
    | (go_at_call 21; (with_reducible refine (toP_any (Ha_1.out.below Hr2.out) (by omega)).mono ?_); rintro e r1_3 ⟨uq, rfl, ho, hb⟩; have Hr3 := Lib.hid (bt Hr2.out hb); have HCe3 := Lib.hid (HCe2.out.below hb); obtain ⟨_, _, _, _, _, _, rfl⟩ := ho.toIn.shape; have HCq3 := Lib.hid ho.toIn; clear ho; clear hb)
    | (go_at_call 32; (with_reducible refine (sVerifyOneOf_any P0 Q0 G0 a1 d1 (by omega) hql HCe3.out HCq3.out).mono ?_); rw [K1.out, K2.out]; rintro e r1_4 ⟨rfl, hb⟩; have Hr4 := Lib.hid (bt Hr3.out hb); have HCe4 := Lib.hid (HCe3.out.below hb); have HCq4 := Lib.hid (HCq3.out.below hb); clear hb)
    | fail))
  have hb := Hr4.out
  clear HK Hr1 Hr2 Hr3 Hr4 HCe2 HCe3 HCe4 HCq3 HCq4
  have HR_2 := Lib.hid (HR_1.out.below hb)
  have HX_2 := Lib.hid (HX_1.out.below hb)
  have Ha_2 := Lib.hid (Ha_1.out.below hb)
  have Hes_2 := Lib.hid (Hes_1.out.below hb)
  have HB_2 := Lib.hid (bt HB_1.out hb)
  clear hb HR_1 HX_1 Ha_1 Hes_1 HB_1
  go_wp2_with fail
  refine (toE_any Hes_2.out (by omega)).mono ?_
  rintro e v3 ⟨xes, rfl, ho, hb⟩
  have HR_3 := Lib.hid (HR_2.out.below hb)
  have HX_3 := Lib.hid (HX_2.out.below hb)
  have Ha_3 := Lib.hid (Ha_2.out.below hb)
  have Hes_3 := Lib.hid (Hes_2.out.below hb)
  have HB_3 := Lib.hid (bt HB_2.out hb)
  have Hxes_3 := Lib.hid (ho.toIn)
  clear hb HR_2 HX_2 Ha_2 Hes_2 HB_2
  clear ho
  obtain ⟨x0, x1, x2, _⟩ := HX_3.out
  go_wp2_with fail
  refine (toP_any Ha_3.out (by omega)).mono ?_
  rintro e v4 ⟨u, rfl, ho, hb1⟩
  clear x0 x1 x2
  obtain ⟨d1_, d2_, e1_, e2_, f1_, f2_, rfl⟩ := ho.toIn.shape
  have hba := ba v4 (.cells #[.slice d1_ q.c.length d2_, .slice e1_ q.h.length e2_, .slice f1_ q.r.length f2_] 36)
  have hb := bt hb1 hba
  have HR_4 := Lib.hid (HR_3.out.below hb)
  have HX_4 := Lib.hid (HX_3.out.below hb)
  have Ha_4 := Lib.hid (Ha_3.out.below hb)
  have Hes_4 := Lib.hid (Hes_3.out.below hb)
  have Hxes_4 := Lib.hid (Hxes_3.out.below hb)
  have HB_4 := Lib.hid (bt HB_3.out hb)
  have Hx_4 := Lib.hid (ho.toIn.below hba)
  have HY_4 := Lib.hid (b3_new v4 (.slice d1_ q.c.length d2_) (.slice e1_ q.h.length e2_) (.slice f1_ q.r.length f2_) 36)
  clear hb HR_3 HX_3 Ha_3 Hes_3 Hxes_3 HB_3
  clear ho hb1 hba
  obtain ⟨y0, y1, y2, _⟩ := HY_4.out
  go_wp2_with fail
  clear y0 y1 y2
  generalize hW5 : v4.alloc (.cells #[.slice d1_ q.c.length d2_, .slice e1_ q.h.length e2_, .slice f1_ q.r.length f2_] 36) = v5 at *
  clear hW5
  go_wp2_with fail
  have HK := Lib.hid (show ∀ w', Below v5.heap.size v5 w' → ((w'.cell? ⟨w.heap.size, 0, none⟩ = some (.int .i64 P0) ∧ w'.cell? ⟨w.heap.size, 1, none⟩ = some (.int .i64 Q0) ∧ w'.cell? ⟨w.heap.size, 2, none⟩ = some (.int .i64 G0)) ∧ (w'.cell? ⟨v4.heap.size, 0, none⟩ = some (.slice d1_ q.c.length d2_) ∧ w'.cell? ⟨v4.heap.size, 1, none⟩ = some (.slice e1_ q.h.length e2_) ∧ w'.cell? ⟨v4.heap.size, 2, none⟩ = some (.slice f1_ q.r.length f2_))) from fun w' hk => ⟨HR_4.out.below hk, ⟨(HY_4.out.below hk).1, (HY_4.out.below hk).2.1, (HY_4.out.below hk).2.2.1⟩⟩)
  go_region_held3 (fun w' => (w'.cell? ⟨w.heap.size, 0, none⟩ = some (.int .i64 P0) ∧ w'.cell? ⟨w.heap.size, 1, none⟩ = some (.int .i64 Q0) ∧ w'.cell? ⟨w.heap.size, 2, none⟩ = some (.int .i64 G0)) ∧ (w'.cell? ⟨v4.heap.size, 0, none⟩ = some (.slice d1_ q.c.length d2_) ∧ w'.cell? ⟨v4.heap.size, 1, none⟩ = some (.slice e1_ q.h.length e2_) ∧ w'.cell? ⟨v4.heap.size, 2, none⟩ = some (.slice f1_ q.r.length f2_))) (first | exact HK.out _ (Below.refl _ v5).drew | exact HK.out _ Hr1.out | exact HK.out _ Hr2.out) ((first
    | (go_at_call 18; (with_reducible refine (toGroup_any _ _ _ _).mono ?_); rintro e r5_1 ⟨rfl, hb⟩; have Hr1 := Lib.hid (bt (Below.refl _ v5).drew hb); clear hb)
    | (go_at_call 34; (with_reducible refine (verifyOneOf_any P0 Q0 G0 a1 d1 (by omega) hql (Hxes_4.out.below Hr1.out) (Hx_4.out.below Hr1.out)).mono ?_); rw [K1.out, K2.out]; rintro e r5_2 ⟨rfl, hb⟩; have Hr2 := Lib.hid (bt Hr1.out hb); clear hb)
    | fail))
  have hb := Hr2.out
  clear HK Hr1 Hr2 
  have HR_6 := Lib.hid (HR_4.out.below hb)
  have HX_6 := Lib.hid (HX_4.out.below hb)
  have Ha_6 := Lib.hid (Ha_4.out.below hb)
  have Hes_6 := Lib.hid (Hes_4.out.below hb)
  have Hxes_6 := Lib.hid (Hxes_4.out.below hb)
  have Hx_6 := Lib.hid (Hx_4.out.below hb)
  have HY_6 := Lib.hid (HY_4.out.below hb)
  have HB_6 := Lib.hid (bt HB_4.out hb)
  clear hb HR_4 HX_4 Ha_4 Hes_4 Hxes_4 Hx_4 HY_4 HB_4
  go_wp2_with fail
  refine (toE_any Hes_6.out (by omega)).mono ?_
  rintro e v7 ⟨ues2, rfl, ho, hb⟩
  have HR_7 := Lib.hid (HR_6.out.below hb)
  have HX_7 := Lib.hid (HX_6.out.below hb)
  have Ha_7 := Lib.hid (Ha_6.out.below hb)
  have Hes_7 := Lib.hid (Hes_6.out.below hb)
  have Hxes_7 := Lib.hid (Hxes_6.out.below hb)
  have Hx_7 := Lib.hid (Hx_6.out.below hb)
  have HY_7 := Lib.hid (HY_6.out.below hb)
  have HB_7 := Lib.hid (bt HB_6.out hb)
  have HC_7 := Lib.hid (ho.toIn)
  clear hb HR_6 HX_6 Ha_6 Hes_6 Hxes_6 Hx_6 HY_6 HB_6
  clear ho
  go_wp2_with fail
  refine (eqE_any Hxes_7.out HC_7.out (by omega)).mono ?_
  rintro e v8 ⟨rfl, hb⟩
  have HR_8 := Lib.hid (HR_7.out.below hb)
  have HX_8 := Lib.hid (HX_7.out.below hb)
  have Ha_8 := Lib.hid (Ha_7.out.below hb)
  have Hes_8 := Lib.hid (Hes_7.out.below hb)
  have Hx_8 := Lib.hid (Hx_7.out.below hb)
  have HY_8 := Lib.hid (HY_7.out.below hb)
  have HB_8 := Lib.hid (bt HB_7.out hb)
  clear hb HR_7 HX_7 Ha_7 Hes_7 Hxes_7 Hx_7 HY_7 HC_7 HB_7
  go_wp2_with fail
  have HK := Lib.hid (show ∀ w', Below v8.heap.size v8 w' → ((w'.cell? ⟨w.heap.size + 1, 0, none⟩ = some (.slice a1_ q.c.length a2_) ∧ w'.cell? ⟨w.heap.size + 1, 1, none⟩ = some (.slice b1_ q.h.length b2_) ∧ w'.cell? ⟨w.heap.size + 1, 2, none⟩ = some (.slice c1_ q.r.length c2_)) ∧ (w'.cell? ⟨v4.heap.size, 0, none⟩ = some (.slice d1_ q.c.length d2_) ∧ w'.cell? ⟨v4.heap.size, 1, none⟩ = some (.slice e1_ q.h.length e2_) ∧ w'.cell? ⟨v4.heap.size, 2, none⟩ = some (.slice f1_ q.r.length f2_))) from fun w' hk => ⟨⟨(HX_8.out.below hk).1, (HX_8.out.below hk).2.1, (HX_8.out.below hk).2.2.1⟩, ⟨(HY_8.out.below hk).1, (HY_8.out.below hk).2.1, (HY_8.out.below hk).2.2.1⟩⟩)
  go_region_held3 (fun w' => (w'.cell? ⟨w.heap.size + 1, 0, none⟩ = some (.slice a1_ q.c.length a2_) ∧ w'.cell? ⟨w.heap.size + 1, 1, none⟩ = some (.slice b1_ q.h.length b2_) ∧ w'.cell? ⟨w.heap.size + 1, 2, none⟩ = some (.slice c1_ q.r.length c2_)) ∧ (w'.cell? ⟨v4.heap.size, 0, none⟩ = some (.slice d1_ q.c.length d2_) ∧ w'.cell? ⟨v4.heap.size, 1, none⟩ = some (.slice e1_ q.h.length e2_) ∧ w'.cell? ⟨v4.heap.size, 2, none⟩ = some (.slice f1_ q.r.length f2_))) (first | exact HK.out _ (Below.refl _ v8).drew | exact HK.out _ Hr1.out | exact HK.out _ Hr2.out) ((first
    | (go_at_call 21; (with_reducible refine (toP_any (Ha_8.out.below (Below.refl _ v8).drew) (by omega)).mono ?_); rintro e r8_1 ⟨uq, rfl, ho, hb⟩; have Hr1 := Lib.hid (bt (Below.refl _ v8).drew hb); obtain ⟨_, _, _, _, _, _, rfl⟩ := ho.toIn.shape; have HCq1 := Lib.hid ho.toIn; clear ho; clear hb)
    | (go_at_call 25; (with_reducible refine (eqP_any (Hx_8.out.below Hr1.out) HCq1.out (by omega)).mono ?_); rintro e r8_2 ⟨rfl, hb⟩; have Hr2 := Lib.hid (bt Hr1.out hb); have HCq2 := Lib.hid (HCq1.out.below hb); clear hb)
    | fail))
  have hb := Hr2.out
  clear HK Hr1 Hr2 HCq1 HCq2
  have HR_9 := Lib.hid (HR_8.out.below hb)
  have HX_9 := Lib.hid (HX_8.out.below hb)
  have Ha_9 := Lib.hid (Ha_8.out.below hb)
  have Hes_9 := Lib.hid (Hes_8.out.below hb)
  have Hx_9 := Lib.hid (Hx_8.out.below hb)
  have HY_9 := Lib.hid (HY_8.out.below hb)
  have HB_9 := Lib.hid (bt HB_8.out hb)
  clear hb HR_8 HX_8 Ha_8 Hes_8 Hx_8 HY_8 HB_8
  go_wp2
  go_ret
  exact ⟨rfl, HB_9.out⟩

/-! ### The row's step -/
set_option maxRecDepth 100000 in
theorem lifted (os : Os) (started : os.Started) (H : Type) (enc : TypeId × Value → H) :
    ReturnsInHanded {} Try.checked os 6 .any (Rows.fnExactVerifyOneOfSpec.pre6 enc Try.prog Try.f6 Rows.fnExactVerifyOneOfRow.domain false) (Rows.fnExactVerifyOneOfSpec.post enc Try.prog Try.f6 false true false false) := by
  refine returnsInHanded_of_change (C := Try.checked) own started (by kernel_rfl) Try.func6
    (ChangeSpec.witness6 (enc := enc) (C := Try.checked) false ⟨#[], #[.agg #[.int .i64 0, .int .i64 0, .int .i64 0], .string ByteArray.empty, .slice none 0 0, .agg #[.slice none 0 0, .slice none 0 0, .slice none 0 0]], []⟩ 8 (by kernel_rfl) (by kernel_rfl) (by kernel_rfl) (by kernel_rfl)) ?_
  intro W base args ds gs before hval0 hW hcnd _
  have hval : ∀ (j : Nat) t v, Try.f6.params[j]? = some t → args[j]? = some v → Value.okWide Try.prog W .any base t v := hval0
  have hW' := hW
  obtain ⟨p, q, hA0, hV, rfl, hfz, hnd⟩ := hW
  have hA : DataW.TrodAll enc Try.prog W 0 (fun _ => true) true Try.f6.params.toList args.toList ds p := hA0
  rw [Try.params6] at hA hval
  obtain ⟨v0, vs0, d0, ds0, p0, q0, hargs, rfl, rfl, h0, r0⟩ := trodAll_cons hA
  obtain ⟨v1, vs1, d1, ds1, p1, q1, rfl, rfl, rfl, h1, r1⟩ := trodAll_cons r0
  obtain ⟨v2, vs2, d2, ds2, p2, q2, rfl, rfl, rfl, h2, r2⟩ := trodAll_cons r1
  obtain ⟨v3, vs3, d3, ds3, p3, q3, rfl, rfl, rfl, h3, r3⟩ := trodAll_cons r2
  obtain ⟨rfl, rfl, rfl⟩ := trodAll_nil r3
  obtain rfl : args = #[v0, v1, v2, v3] := by cases args; simp_all
  obtain ⟨rfl, rfl⟩ := trodVars_none hV
  have k0 := h0
  have lt0 : ∀ x ∈ p0, x.block < W.heap.size := by obtain ⟨m, hm⟩ := k0; exact DataW.trod_lt m _ _ _ hm
  obtain ⟨c0_0, c0_1, c0_2, y0_0, y0_1, y0_2, m0, rfl, rfl, rfl, hy0_0, hy0_1, hy0_2⟩ := open_agg3 Try.underlying23 (by kernel_rfl) (by kernel_rfl) (hval 0 23 v0 rfl rfl) h0
  obtain ⟨P0, e0_0, _, wP0⟩ := DataW.trod_int Try.underlying3 hy0_0
  obtain rfl := (List.cons.inj e0_0).1
  obtain ⟨Q0, e0_1, _, wQ0⟩ := DataW.trod_int Try.underlying3 hy0_1
  obtain rfl := (List.cons.inj e0_1).1
  obtain ⟨G0, e0_2, _, wG0⟩ := DataW.trod_int Try.underlying3 hy0_2
  obtain rfl := (List.cons.inj e0_2).1
  obtain ⟨a1, rfl, rfl, rfl, w1⟩ := open_string Try.underlying9 (hval 1 9 v1 rfl rfl) h1
  have k2 := h2
  have lt2 : ∀ x ∈ p2, x.block < W.heap.size := by obtain ⟨m, hm⟩ := k2; exact DataW.trod_lt m _ _ _ hm
  obtain ⟨a2, len2, cap2, rfl⟩ := okWide_slice Try.underlying50 (hval 2 50 v2 rfl rfl)
  have w2 := (fun ⟨fuel, hf⟩ => inE_open (fuel := fuel) hf) h2
  have k3 := h3
  have lt3 : ∀ x ∈ p3, x.block < W.heap.size := by obtain ⟨m, hm⟩ := k3; exact DataW.trod_lt m _ _ _ hm
  have w3 := inP_open (hval 3 27 v3 rfl rfl) h3
  clear hA0 hval0
  refine (walk P0 Q0 G0 a1 _ _ W wP0 wQ0 wG0 w1 w2 w3).mono fun e W' ⟨he, bel⟩ => ?_
  subst he
  exact ⟨_, rfl, _, _, _, [], _, [], hW', trodAll_mk1 (shut_bool Try.underlying4 _), (trodAll_cons_mk (Below.trod laidOut (by kernel_rfl) (of_decide_eq_true (by kernel_rfl)) k0 bel lt0) (trodAll_cons_mk (shut_string Try.underlying9 w1) (trodAll_cons_mk (Below.trod laidOut (by kernel_rfl) (of_decide_eq_true (by kernel_rfl)) k2 bel lt2) (trodAll_cons_mk (Below.trod laidOut (by kernel_rfl) (of_decide_eq_true (by kernel_rfl)) k3 bel lt3) trodAll_mk0)))), rfl, bel.frame _, fun h => by cases h⟩

theorem over : Rows.fnExactVerifyOneOfRow.holds Try.pinned (OpenSpec.ofChange Rows.fnExactVerifyOneOfSpec) :=
  OpenClaim.holds_of_wide 6 Try.f6 rfl rfl rfl rfl rfl rfl rfl ⟨rfl, rfl, rfl, rfl, rfl⟩ rfl rfl rfl rfl rfl (by kernel_rfl) Try.func6
    (show joinedFacts Try.prog 6 Try.f6 Rows.fnExactVerifyOneOfSpec Rows.fnExactVerifyOneOfRow = true by unfold joinedFacts; rw [Head.make, Head.lifts, Head.enters]; kernel_rfl)
    (of_decide_eq_true (by kernel_rfl)) (by unfold Func.isWrapper; first | (rw [if_pos (by decide +kernel)]; kernel_rfl) | (rw [if_neg (by decide +kernel)]; exact ⟨rfl, rfl⟩))
    (fun os started H enc _ => lifted os started H enc)

/-- The statement. -/
theorem proved : Rows.FnExactVerifyOneOfSaid := over
#print axioms proved
end Go.Proofs.Ytdaekpfngphefaa.fnExactVerifyOneOf
