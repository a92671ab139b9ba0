/- Chapter 12: CheckKeyGen of both. -/
import Derived.Test.YtchlnkdlnfjijaaDkY
import Derived.BigQuiet
namespace Go.Proofs.Ytchlnkdlnfjijaa
open Go.RowKit
set_option linter.unusedVariables false
set_option linter.unusedSimpArgs false

theorem eqv_step9 {a b ra rb : List Int} {x y : Int} {k : Nat} (h : a.drop k = x :: ra) (h' : b.drop k = y :: rb) (he : decide (a = b) = decide (a.drop k = b.drop k)) :
    (x = y → decide (a = b) = decide (ra = rb)) ∧ (x ≠ y → decide (a = b) = false) := by
  rw [h, h'] at he
  refine ⟨fun e => ?_, fun e => ?_⟩
  · rw [he, e]; simp
  · rw [he]; simp [e]

set_option maxHeartbeats 800000 in
theorem equal9_any (ad ad' : Option Addr) (n n' cap cap' : Nat) (xs ys : List Int) (hn : xs.length = n) (hn' : ys.length = n') (hl : n ≤ 1152921504606846976) (hl' : n' ≤ 1152921504606846976) (w : World) (hz : IsInts w ad xs) (hz' : IsInts w ad' ys) :
    Calls Try.prog 74 #[.slice ad n cap, .slice ad' n' cap'] w fun e w' => e = .returned (.bool (decide (xs = ys))) ∧ Below w.heap.size w w' := by
  by_cases hnn : n = n'
  · subst hnn
    have HN := Lib.hid hn
    have HN' := Lib.hid hn'
    clear hn hn'
    go_enter Try.func74, Try.ntmps74
    go_wp2_with fail
    go_loopw [5, 13] (fun _ K wr => ∃ k : Nat, k ≤ n ∧ K = .int .i64 k ∧ decide (xs = ys) = decide (xs.drop k = ys.drop k) ∧ Below w.heap.size w wr) (fun _ K _ => n - (intOf K).toNat)
    case atStart => exact ⟨0, Nat.zero_le _, rfl, by simp, Below.refl _ _⟩
    case round =>
      obtain ⟨k, hk, rfl, he, hbel⟩ := hrel
      by_cases hkn : k < n
      · obtain ⟨b, off, x, rfl, hb, hc, hd⟩ := (hz.below hbel (Nat.le_refl _)).at (k := k) (by have := HN.out; omega)
        obtain ⟨b', off', y, rfl, hb', hc', hd'⟩ := (hz'.below hbel (Nat.le_refl _)).at (k := k) (by have := HN'.out; omega)
        have HS := Lib.hid (eqv_step9 hd hd' he)
        have HB := Lib.hid hbel
        clear he hd hd' hbel
        by_cases hxy : x = y
        · have hne : (x != y) = false := by simp [hxy]
          have HE := Lib.hid (HS.out.1 hxy)
          clear hxy HS
          go_wp2_with fail
          go_quiet (fail)
          go_wp2
          go_roundw
          case rel => exact ⟨k + 1, by omega, by go_num, HE.out, below_drewN HB.out _⟩
          case measure => simp only [intOf]; omega
        · have hne : (x != y) = true := by simp [hxy]
          have HE := Lib.hid (HS.out.2 hxy)
          clear hxy HS
          go_wp2_with fail
          go_quiet (fail)
          go_wp2
          go_ret
          exact ⟨by rw [HE.out]; rfl, below_drewN HB.out _⟩
      · have HE := Lib.hid he
        have HB := Lib.hid hbel
        clear he hbel
        go_wp2_with fail
        go_ret
        refine ⟨?_, HB.out⟩
        rw [HE.out, List.drop_of_length_le (by have := HN.out; omega), List.drop_of_length_le (by have := HN'.out; omega)]; rfl
  · have he : ¬ xs = ys := fun h => hnn (by rw [← hn, ← hn', h])
    rw [decide_eq_false he]
    have hni : ¬ (n : Int) = (n' : Int) := by omega
    clear he
    go_enter Try.func74, Try.ntmps74
    go_wp2_with fail
    go_ret
    exact ⟨rfl, Below.refl _ _⟩

set_option maxHeartbeats 800000 in
theorem same9_any (ad ad' : Option Addr) (n n' cap cap' : Nat) (xs ys : List Int) (hn : xs.length = n) (hn' : ys.length = n') (hl : n ≤ 1152921504606846976) (hl' : n' ≤ 1152921504606846976) (w : World) (hz : IsInts w ad xs) (hz' : IsInts w ad' ys) :
    Calls Try.prog 75 #[.slice ad n cap, .slice ad' n' cap'] w fun e w' => e = .returned (.bool (decide (xs = ys))) ∧ Below w.heap.size w w' := by
  by_cases hnn : n = n'
  · subst hnn
    have HN := Lib.hid hn
    have HN' := Lib.hid hn'
    clear hn hn'
    go_enter Try.func75, Try.ntmps75
    go_wp2_with fail
    go_loopw [5, 13] (fun _ K wr => ∃ k : Nat, k ≤ n ∧ K = .int .i64 k ∧ decide (xs = ys) = decide (xs.drop k = ys.drop k) ∧ Below w.heap.size w wr) (fun _ K _ => n - (intOf K).toNat)
    case atStart => exact ⟨0, Nat.zero_le _, rfl, by simp, Below.refl _ _⟩
    case round =>
      obtain ⟨k, hk, rfl, he, hbel⟩ := hrel
      by_cases hkn : k < n
      · obtain ⟨b, off, x, rfl, hb, hc, hd⟩ := (hz.below hbel (Nat.le_refl _)).at (k := k) (by have := HN.out; omega)
        obtain ⟨b', off', y, rfl, hb', hc', hd'⟩ := (hz'.below hbel (Nat.le_refl _)).at (k := k) (by have := HN'.out; omega)
        have HS := Lib.hid (eqv_step9 hd hd' he)
        have HB := Lib.hid hbel
        clear he hd hd' hbel
        by_cases hxy : x = y
        · have hne : (x != y) = false := by simp [hxy]
          have HE := Lib.hid (HS.out.1 hxy)
          clear hxy HS
          go_wp2_with fail
          go_quiet (fail)
          go_wp2
          go_roundw
          case rel => exact ⟨k + 1, by omega, by go_num, HE.out, below_drewN HB.out _⟩
          case measure => simp only [intOf]; omega
        · have hne : (x != y) = true := by simp [hxy]
          have HE := Lib.hid (HS.out.2 hxy)
          clear hxy HS
          go_wp2_with fail
          go_quiet (fail)
          go_wp2
          go_ret
          exact ⟨by rw [HE.out]; rfl, below_drewN HB.out _⟩
      · have HE := Lib.hid he
        have HB := Lib.hid hbel
        clear he hbel
        go_wp2_with fail
        go_ret
        refine ⟨?_, HB.out⟩
        rw [HE.out, List.drop_of_length_le (by have := HN.out; omega), List.drop_of_length_le (by have := HN'.out; omega)]; rfl
  · have he : ¬ xs = ys := fun h => hnn (by rw [← hn, ← hn', h])
    rw [decide_eq_false he]
    have hni : ¬ (n : Int) = (n' : Int) := by omega
    clear he
    go_enter Try.func75, Try.ntmps75
    go_wp2_with fail
    go_ret
    exact ⟨rfl, Below.refl _ _⟩


def kcV (P Q G : Int) (ds : List DlD) (av : List (List Int)) (k : KgD) : Int :=
  if cgB P Q G ds av then
    if decide (k.q = (cgV P Q G ds av).q) = false then 1 else if decide (k.k = (cgV P Q G ds av).k) = false then 2 else if decide (k.c = (cgV P Q G ds av).c) = false then 3 else if decide (k.s = (cgV P Q G ds av).s) = false then 4 else 0
  else 0

set_option maxRecDepth 100000 in
set_option maxHeartbeats 3200000 in
theorem checkKeyGen_any (P Q G : Int) {B : Nat} {v : Value} {ds : List DlD} (hl : ds.length ≤ 1048576) (hr : nDs ds ≤ 1048576) {B2 : Nat} {u : Value} {av : List (List Int)} (hl2 : av.length ≤ 1048576) (hr2 : nS av ≤ 1048576)  {B3 : Nat} {kv9 : Value} {kk : KgD} (hlk : kk.n ≤ 1048576) {w : World} (hz : InDs B w v ds) (hu : InS B2 w u av) (hkk : InK B3 w kv9 kk) :
    Calls Try.prog 17 #[gv P Q G, v, u, kv9] w fun e w' => e = .returned (.tuple #[.int .i64 (kcV P Q G ds av kk), .bool (cgB P Q G ds av)]) ∧ Below w.heap.size w w' := by
  obtain ⟨la, lc, rfl⟩ := hz.shape
  obtain ⟨ua, uc, rfl⟩ := hu.shape
  obtain ⟨j0, j1, j2, j3, j4, j5, rfl, hq1, hq2, hq3⟩ := hkk.shape
  have hkn : kk.q.length ≤ 1048576 ∧ kk.c.length ≤ 1048576 ∧ kk.s.length ≤ 1048576 := by unfold KgD.n at hlk; omega
  obtain ⟨hn1, hn2, hn3⟩ := hkn
  have G_0 := Lib.hid ((gr_atS w w.heap.size rfl P Q G 24).below (ba (w.alloc (.cells #[.int .i64 P, .int .i64 Q, .int .i64 G] 24)) (.cells #[.slice j0 kk.q.length j1, .int .i64 kk.k, .slice j2 kk.c.length j3, .slice j4 kk.s.length j5] 31)))
  have K_0 := Lib.hid (vl_at (w.alloc (.cells #[.int .i64 P, .int .i64 Q, .int .i64 G] 24)) (w.heap.size + 1) (by simp) [.slice j0 kk.q.length j1, .int .i64 kk.k, .slice j2 kk.c.length j3, .slice j4 kk.s.length j5] 31)
  have HB_0 := Lib.hid (show Below w.heap.size w ((w.alloc (.cells #[.int .i64 P, .int .i64 Q, .int .i64 G] 24)).alloc (.cells #[.slice j0 kk.q.length j1, .int .i64 kk.k, .slice j2 kk.c.length j3, .slice j4 kk.s.length j5] 31)) from bt (ba _ _) (ba _ _))
  have L_0 := Lib.hid (hz.below HB_0.out)
  have U_0 := Lib.hid (hu.below HB_0.out)
  have A_0 := Lib.hid (hq1.below HB_0.out)
  have B_0 := Lib.hid (hq2.below HB_0.out)
  have C_0 := Lib.hid (hq3.below HB_0.out)
  clear hz hu hkk hq1 hq2 hq3
  have hrb := cgV_bound P Q G ds av
  have HEK := Lib.hid (show kcV P Q G ds av kk = if cgB P Q G ds av then (if decide (kk.q = (cgV P Q G ds av).q) = false then 1 else if decide (kk.k = (cgV P Q G ds av).k) = false then 2 else if decide (kk.c = (cgV P Q G ds av).c) = false then 3 else if decide (kk.s = (cgV P Q G ds av).s) = false then 4 else 0) else 0 from rfl)
  obtain ⟨res, hres⟩ : ∃ r, cgV P Q G ds av = r := ⟨_, rfl⟩
  obtain ⟨ok, hok⟩ : ∃ r, cgB P Q G ds av = r := ⟨_, rfl⟩
  obtain ⟨kc, hkc⟩ : ∃ r, kcV P Q G ds av kk = r := ⟨_, rfl⟩
  rw [hres] at hrb HEK
  rw [hok, hkc] at HEK
  rw [hok, hkc]
  have HR := Lib.hid hres
  have HO := Lib.hid hok
  clear hres hok hkc
  have hrn : res.q.length ≤ 1048576 ∧ res.c.length ≤ 1048576 ∧ res.s.length ≤ 1048576 := by unfold KgD.n at hrb; omega
  obtain ⟨hm1, hm2, hm3⟩ := hrn
  clear hrb
  obtain ⟨gG0, gG1, gG2⟩ := G_0.out
  go_enter Try.func17, Try.ntmps17
  go_wp2_with fail
  refine (combineKey_any P Q G hl hr hl2 hr2 L_0.out U_0.out).mono ?_
  rw [HR.out, HO.out]
  rintro e w4 ⟨kvz, rfl, hk9, hb4⟩
  obtain ⟨r0, r1, r2, r3, r4, r5, hsh, hx1, hx2, hx3⟩ := hk9.toIn.shape
  subst hsh
  have ha4 := ba w4 (.cells #[.slice r0 res.q.length r1, .int .i64 res.k, .slice r2 res.c.length r3, .slice r4 res.s.length r5] 31)
  have HB_1 := Lib.hid (bt (bt HB_0.out hb4) ha4)
  have K_1 := Lib.hid ((K_0.out.below hb4).below ha4)
  have R_1 := Lib.hid (vl_at w4 w4.heap.size rfl [.slice r0 res.q.length r1, .int .i64 res.k, .slice r2 res.c.length r3, .slice r4 res.s.length r5] 31)
  have A_1 := Lib.hid ((A_0.out.below hb4).below ha4)
  have B_1 := Lib.hid ((B_0.out.below hb4).below ha4)
  have C_1 := Lib.hid ((C_0.out.below hb4).below ha4)
  have X_1 := Lib.hid (hx1.below ha4)
  have Y_1 := Lib.hid (hx2.below ha4)
  have Z_1 := Lib.hid (hx3.below ha4)
  clear hk9 hb4 ha4 hx1 hx2 hx3 gG0 gG1 gG2
  have kk0 := K_1.out.1 0 _ rfl
  have kk1 := K_1.out.1 1 _ rfl
  have kk2 := K_1.out.1 2 _ rfl
  have kk3 := K_1.out.1 3 _ rfl
  have rr0 := R_1.out.1 0 _ rfl
  have rr1 := R_1.out.1 1 _ rfl
  have rr2 := R_1.out.1 2 _ rfl
  have rr3 := R_1.out.1 3 _ rfl
  cases ok
  · have E1 := Lib.hid (show kc = 0 from HEK.out)
    go_wp2
    go_ret2
    exact ⟨by rw [E1.out]; rfl, HB_1.out⟩
  have HEK2 := Lib.hid (show kc = if decide (kk.q = res.q) = false then 1 else if decide (kk.k = res.k) = false then 2 else if decide (kk.c = res.c) = false then 3 else if decide (kk.s = res.s) = false then 4 else 0 from HEK.out)
  clear HEK
  cases hq : decide (kk.q = res.q)
  · have HQ := Lib.hid hq
    have E1 := Lib.hid (show kc = 1 by rw [HEK2.out]; simp only [HQ.out, if_true] <;> first | rfl | simp)
    clear hq
    go_wp2_with fail
    refine (equal9_any j0 r0 kk.q.length res.q.length j1 r1 kk.q res.q rfl rfl (by omega) (by omega) _ (inI_ints A_1.out) (inI_ints X_1.out)).mono ?_
    rw [HQ.out]
    rintro e w5 ⟨rfl, hb5⟩
    have HB_9 := Lib.hid (bt HB_1.out hb5)
    clear hb5 kk0 rr0 kk1 rr1 kk2 rr2 kk3 rr3
    go_wp2
    go_ret2
    exact ⟨by rw [E1.out]; rfl, HB_9.out⟩
  have HQq := Lib.hid hq
  clear hq
  go_wp2_with fail
  refine (equal9_any j0 r0 kk.q.length res.q.length j1 r1 kk.q res.q rfl rfl (by omega) (by omega) _ (inI_ints A_1.out) (inI_ints X_1.out)).mono ?_
  rw [HQq.out]
  rintro e v2 ⟨rfl, hb5⟩
  have HB_2 := Lib.hid (bt HB_1.out hb5)
  have K_2 := Lib.hid (K_1.out.below hb5)
  have R_2 := Lib.hid (R_1.out.below hb5)
  have A_2 := Lib.hid (A_1.out.below hb5)
  have B_2 := Lib.hid (B_1.out.below hb5)
  have C_2 := Lib.hid (C_1.out.below hb5)
  have X_2 := Lib.hid (X_1.out.below hb5)
  have Y_2 := Lib.hid (Y_1.out.below hb5)
  have Z_2 := Lib.hid (Z_1.out.below hb5)
  clear hb5 kk0 rr0 kk1 rr1 kk2 rr2 kk3 rr3
  have kk0 := K_2.out.1 0 _ rfl
  have kk1 := K_2.out.1 1 _ rfl
  have kk2 := K_2.out.1 2 _ rfl
  have kk3 := K_2.out.1 3 _ rfl
  have rr0 := R_2.out.1 0 _ rfl
  have rr1 := R_2.out.1 1 _ rfl
  have rr2 := R_2.out.1 2 _ rfl
  have rr3 := R_2.out.1 3 _ rfl
  by_cases hkq : kk.k = res.k
  case neg =>
    have hne : (kk.k != res.k) = true := by simp [hkq]
    have E1 := Lib.hid (show kc = 2 by rw [HEK2.out]; simp only [HQq.out, decide_eq_false hkq] <;> first | rfl | simp)
    clear hkq
    go_wp2
    go_ret2
    exact ⟨by rw [E1.out]; rfl, HB_2.out⟩
  have hne : (kk.k != res.k) = false := by simp [hkq]
  have HQk := Lib.hid (decide_eq_true hkq)
  clear hkq
  cases hq : decide (kk.c = res.c)
  · have HQ := Lib.hid hq
    have E1 := Lib.hid (show kc = 3 by rw [HEK2.out]; simp only [HQq.out, HQk.out, HQ.out] <;> first | rfl | simp)
    clear hq
    go_wp2_with fail
    refine (equal9_any j2 r2 kk.c.length res.c.length j3 r3 kk.c res.c rfl rfl (by omega) (by omega) _ (inI_ints B_2.out) (inI_ints Y_2.out)).mono ?_
    rw [HQ.out]
    rintro e w5 ⟨rfl, hb5⟩
    have HB_9 := Lib.hid (bt HB_2.out hb5)
    clear hb5 kk0 rr0 kk1 rr1 kk2 rr2 kk3 rr3
    go_wp2
    go_ret2
    exact ⟨by rw [E1.out]; rfl, HB_9.out⟩
  have HQc := Lib.hid hq
  clear hq
  go_wp2_with fail
  refine (equal9_any j2 r2 kk.c.length res.c.length j3 r3 kk.c res.c rfl rfl (by omega) (by omega) _ (inI_ints B_2.out) (inI_ints Y_2.out)).mono ?_
  rw [HQc.out]
  rintro e v3 ⟨rfl, hb5⟩
  have HB_3 := Lib.hid (bt HB_2.out hb5)
  have K_3 := Lib.hid (K_2.out.below hb5)
  have R_3 := Lib.hid (R_2.out.below hb5)
  have A_3 := Lib.hid (A_2.out.below hb5)
  have B_3 := Lib.hid (B_2.out.below hb5)
  have C_3 := Lib.hid (C_2.out.below hb5)
  have X_3 := Lib.hid (X_2.out.below hb5)
  have Y_3 := Lib.hid (Y_2.out.below hb5)
  have Z_3 := Lib.hid (Z_2.out.below hb5)
  clear hb5 kk0 rr0 kk1 rr1 kk2 rr2 kk3 rr3
  have kk0 := K_3.out.1 0 _ rfl
  have kk1 := K_3.out.1 1 _ rfl
  have kk2 := K_3.out.1 2 _ rfl
  have kk3 := K_3.out.1 3 _ rfl
  have rr0 := R_3.out.1 0 _ rfl
  have rr1 := R_3.out.1 1 _ rfl
  have rr2 := R_3.out.1 2 _ rfl
  have rr3 := R_3.out.1 3 _ rfl
  cases hq : decide (kk.s = res.s)
  · have HQ := Lib.hid hq
    have E1 := Lib.hid (show kc = 4 by rw [HEK2.out]; simp only [HQq.out, HQk.out, HQc.out, HQ.out] <;> first | rfl | simp)
    clear hq
    go_wp2_with fail
    refine (equal9_any j4 r4 kk.s.length res.s.length j5 r5 kk.s res.s rfl rfl (by omega) (by omega) _ (inI_ints C_3.out) (inI_ints Z_3.out)).mono ?_
    rw [HQ.out]
    rintro e w5 ⟨rfl, hb5⟩
    have HB_9 := Lib.hid (bt HB_3.out hb5)
    clear hb5 kk0 rr0 kk1 rr1 kk2 rr2 kk3 rr3
    go_wp2
    go_ret2
    exact ⟨by rw [E1.out]; rfl, HB_9.out⟩
  have HQs := Lib.hid hq
  clear hq
  go_wp2_with fail
  refine (equal9_any j4 r4 kk.s.length res.s.length j5 r5 kk.s res.s rfl rfl (by omega) (by omega) _ (inI_ints C_3.out) (inI_ints Z_3.out)).mono ?_
  rw [HQs.out]
  rintro e v4 ⟨rfl, hb5⟩
  have HB_9 := Lib.hid (bt HB_3.out hb5)
  have E1 := Lib.hid (show kc = 0 by rw [HEK2.out]; simp only [HQq.out, HQk.out, HQc.out, HQs.out] <;> first | rfl | simp)
  clear hb5 kk0 rr0 kk1 rr1 kk2 rr2 kk3 rr3
  go_wp2
  go_ret2
  exact ⟨by rw [E1.out]; rfl, HB_9.out⟩

set_option maxRecDepth 100000 in
set_option maxHeartbeats 3200000 in
theorem sCheckKeyGen_any (P Q G : Int) {B : Nat} {v : Value} {ds : List DlD} (hl : ds.length ≤ 1048576) (hr : nDs ds ≤ 1048576) {B2 : Nat} {u : Value} {av : List (List Int)} (hl2 : av.length ≤ 1048576) (hr2 : nS av ≤ 1048576)  {B3 : Nat} {kv9 : Value} {kk : KgD} (hlk : kk.n ≤ 1048576) {w : World} (hz : InDs B w v ds) (hu : InS B2 w u av) (hkk : InK B3 w kv9 kk) :
    Calls Try.prog 18 #[gv P Q G, v, u, kv9] w fun e w' => e = .returned (.tuple #[.int .i64 (kcV P Q G ds av kk), .bool (cgB P Q G ds av)]) ∧ Below w.heap.size w w' := by
  obtain ⟨la, lc, rfl⟩ := hz.shape
  obtain ⟨ua, uc, rfl⟩ := hu.shape
  obtain ⟨j0, j1, j2, j3, j4, j5, rfl, hq1, hq2, hq3⟩ := hkk.shape
  have hkn : kk.q.length ≤ 1048576 ∧ kk.c.length ≤ 1048576 ∧ kk.s.length ≤ 1048576 := by unfold KgD.n at hlk; omega
  obtain ⟨hn1, hn2, hn3⟩ := hkn
  have G_0 := Lib.hid ((gr_atS w w.heap.size rfl P Q G 24).below (ba (w.alloc (.cells #[.int .i64 P, .int .i64 Q, .int .i64 G] 24)) (.cells #[.slice j0 kk.q.length j1, .int .i64 kk.k, .slice j2 kk.c.length j3, .slice j4 kk.s.length j5] 31)))
  have K_0 := Lib.hid (vl_at (w.alloc (.cells #[.int .i64 P, .int .i64 Q, .int .i64 G] 24)) (w.heap.size + 1) (by simp) [.slice j0 kk.q.length j1, .int .i64 kk.k, .slice j2 kk.c.length j3, .slice j4 kk.s.length j5] 31)
  have HB_0 := Lib.hid (show Below w.heap.size w ((w.alloc (.cells #[.int .i64 P, .int .i64 Q, .int .i64 G] 24)).alloc (.cells #[.slice j0 kk.q.length j1, .int .i64 kk.k, .slice j2 kk.c.length j3, .slice j4 kk.s.length j5] 31)) from bt (ba _ _) (ba _ _))
  have L_0 := Lib.hid (hz.below HB_0.out)
  have U_0 := Lib.hid (hu.below HB_0.out)
  have A_0 := Lib.hid (hq1.below HB_0.out)
  have B_0 := Lib.hid (hq2.below HB_0.out)
  have C_0 := Lib.hid (hq3.below HB_0.out)
  clear hz hu hkk hq1 hq2 hq3
  have hrb := cgV_bound P Q G ds av
  have HEK := Lib.hid (show kcV P Q G ds av kk = if cgB P Q G ds av then (if decide (kk.q = (cgV P Q G ds av).q) = false then 1 else if decide (kk.k = (cgV P Q G ds av).k) = false then 2 else if decide (kk.c = (cgV P Q G ds av).c) = false then 3 else if decide (kk.s = (cgV P Q G ds av).s) = false then 4 else 0) else 0 from rfl)
  obtain ⟨res, hres⟩ : ∃ r, cgV P Q G ds av = r := ⟨_, rfl⟩
  obtain ⟨ok, hok⟩ : ∃ r, cgB P Q G ds av = r := ⟨_, rfl⟩
  obtain ⟨kc, hkc⟩ : ∃ r, kcV P Q G ds av kk = r := ⟨_, rfl⟩
  rw [hres] at hrb HEK
  rw [hok, hkc] at HEK
  rw [hok, hkc]
  have HR := Lib.hid hres
  have HO := Lib.hid hok
  clear hres hok hkc
  have hrn : res.q.length ≤ 1048576 ∧ res.c.length ≤ 1048576 ∧ res.s.length ≤ 1048576 := by unfold KgD.n at hrb; omega
  obtain ⟨hm1, hm2, hm3⟩ := hrn
  clear hrb
  obtain ⟨gG0, gG1, gG2⟩ := G_0.out
  go_enter Try.func18, Try.ntmps18
  go_wp2_with fail
  refine (sCombineKey_any P Q G hl hr hl2 hr2 L_0.out U_0.out).mono ?_
  rw [HR.out, HO.out]
  rintro e w4 ⟨kvz, rfl, hk9, hb4⟩
  obtain ⟨r0, r1, r2, r3, r4, r5, hsh, hx1, hx2, hx3⟩ := hk9.toIn.shape
  subst hsh
  have ha4 := ba w4 (.cells #[.slice r0 res.q.length r1, .int .i64 res.k, .slice r2 res.c.length r3, .slice r4 res.s.length r5] 31)
  have HB_1 := Lib.hid (bt (bt HB_0.out hb4) ha4)
  have K_1 := Lib.hid ((K_0.out.below hb4).below ha4)
  have R_1 := Lib.hid (vl_at w4 w4.heap.size rfl [.slice r0 res.q.length r1, .int .i64 res.k, .slice r2 res.c.length r3, .slice r4 res.s.length r5] 31)
  have A_1 := Lib.hid ((A_0.out.below hb4).below ha4)
  have B_1 := Lib.hid ((B_0.out.below hb4).below ha4)
  have C_1 := Lib.hid ((C_0.out.below hb4).below ha4)
  have X_1 := Lib.hid (hx1.below ha4)
  have Y_1 := Lib.hid (hx2.below ha4)
  have Z_1 := Lib.hid (hx3.below ha4)
  clear hk9 hb4 ha4 hx1 hx2 hx3 gG0 gG1 gG2
  have kk0 := K_1.out.1 0 _ rfl
  have kk1 := K_1.out.1 1 _ rfl
  have kk2 := K_1.out.1 2 _ rfl
  have kk3 := K_1.out.1 3 _ rfl
  have rr0 := R_1.out.1 0 _ rfl
  have rr1 := R_1.out.1 1 _ rfl
  have rr2 := R_1.out.1 2 _ rfl
  have rr3 := R_1.out.1 3 _ rfl
  cases ok
  · have E1 := Lib.hid (show kc = 0 from HEK.out)
    go_wp2
    go_ret2
    exact ⟨by rw [E1.out]; rfl, HB_1.out⟩
  have HEK2 := Lib.hid (show kc = if decide (kk.q = res.q) = false then 1 else if decide (kk.k = res.k) = false then 2 else if decide (kk.c = res.c) = false then 3 else if decide (kk.s = res.s) = false then 4 else 0 from HEK.out)
  clear HEK
  cases hq : decide (kk.q = res.q)
  · have HQ := Lib.hid hq
    have E1 := Lib.hid (show kc = 1 by rw [HEK2.out]; simp only [HQ.out, if_true] <;> first | rfl | simp)
    clear hq
    go_wp2_with fail
    refine (same9_any j0 r0 kk.q.length res.q.length j1 r1 kk.q res.q rfl rfl (by omega) (by omega) _ (inI_ints A_1.out) (inI_ints X_1.out)).mono ?_
    rw [HQ.out]
    rintro e w5 ⟨rfl, hb5⟩
    have HB_9 := Lib.hid (bt HB_1.out hb5)
    clear hb5 kk0 rr0 kk1 rr1 kk2 rr2 kk3 rr3
    go_wp2
    go_ret2
    exact ⟨by rw [E1.out]; rfl, HB_9.out⟩
  have HQq := Lib.hid hq
  clear hq
  go_wp2_with fail
  refine (same9_any j0 r0 kk.q.length res.q.length j1 r1 kk.q res.q rfl rfl (by omega) (by omega) _ (inI_ints A_1.out) (inI_ints X_1.out)).mono ?_
  rw [HQq.out]
  rintro e v2 ⟨rfl, hb5⟩
  have HB_2 := Lib.hid (bt HB_1.out hb5)
  have K_2 := Lib.hid (K_1.out.below hb5)
  have R_2 := Lib.hid (R_1.out.below hb5)
  have A_2 := Lib.hid (A_1.out.below hb5)
  have B_2 := Lib.hid (B_1.out.below hb5)
  have C_2 := Lib.hid (C_1.out.below hb5)
  have X_2 := Lib.hid (X_1.out.below hb5)
  have Y_2 := Lib.hid (Y_1.out.below hb5)
  have Z_2 := Lib.hid (Z_1.out.below hb5)
  clear hb5 kk0 rr0 kk1 rr1 kk2 rr2 kk3 rr3
  have kk0 := K_2.out.1 0 _ rfl
  have kk1 := K_2.out.1 1 _ rfl
  have kk2 := K_2.out.1 2 _ rfl
  have kk3 := K_2.out.1 3 _ rfl
  have rr0 := R_2.out.1 0 _ rfl
  have rr1 := R_2.out.1 1 _ rfl
  have rr2 := R_2.out.1 2 _ rfl
  have rr3 := R_2.out.1 3 _ rfl
  by_cases hkq : kk.k = res.k
  case neg =>
    have hne : (kk.k != res.k) = true := by simp [hkq]
    have E1 := Lib.hid (show kc = 2 by rw [HEK2.out]; simp only [HQq.out, decide_eq_false hkq] <;> first | rfl | simp)
    clear hkq
    go_wp2
    go_ret2
    exact ⟨by rw [E1.out]; rfl, HB_2.out⟩
  have hne : (kk.k != res.k) = false := by simp [hkq]
  have HQk := Lib.hid (decide_eq_true hkq)
  clear hkq
  cases hq : decide (kk.c = res.c)
  · have HQ := Lib.hid hq
    have E1 := Lib.hid (show kc = 3 by rw [HEK2.out]; simp only [HQq.out, HQk.out, HQ.out] <;> first | rfl | simp)
    clear hq
    go_wp2_with fail
    refine (same9_any j2 r2 kk.c.length res.c.length j3 r3 kk.c res.c rfl rfl (by omega) (by omega) _ (inI_ints B_2.out) (inI_ints Y_2.out)).mono ?_
    rw [HQ.out]
    rintro e w5 ⟨rfl, hb5⟩
    have HB_9 := Lib.hid (bt HB_2.out hb5)
    clear hb5 kk0 rr0 kk1 rr1 kk2 rr2 kk3 rr3
    go_wp2
    go_ret2
    exact ⟨by rw [E1.out]; rfl, HB_9.out⟩
  have HQc := Lib.hid hq
  clear hq
  go_wp2_with fail
  refine (same9_any j2 r2 kk.c.length res.c.length j3 r3 kk.c res.c rfl rfl (by omega) (by omega) _ (inI_ints B_2.out) (inI_ints Y_2.out)).mono ?_
  rw [HQc.out]
  rintro e v3 ⟨rfl, hb5⟩
  have HB_3 := Lib.hid (bt HB_2.out hb5)
  have K_3 := Lib.hid (K_2.out.below hb5)
  have R_3 := Lib.hid (R_2.out.below hb5)
  have A_3 := Lib.hid (A_2.out.below hb5)
  have B_3 := Lib.hid (B_2.out.below hb5)
  have C_3 := Lib.hid (C_2.out.below hb5)
  have X_3 := Lib.hid (X_2.out.below hb5)
  have Y_3 := Lib.hid (Y_2.out.below hb5)
  have Z_3 := Lib.hid (Z_2.out.below hb5)
  clear hb5 kk0 rr0 kk1 rr1 kk2 rr2 kk3 rr3
  have kk0 := K_3.out.1 0 _ rfl
  have kk1 := K_3.out.1 1 _ rfl
  have kk2 := K_3.out.1 2 _ rfl
  have kk3 := K_3.out.1 3 _ rfl
  have rr0 := R_3.out.1 0 _ rfl
  have rr1 := R_3.out.1 1 _ rfl
  have rr2 := R_3.out.1 2 _ rfl
  have rr3 := R_3.out.1 3 _ rfl
  cases hq : decide (kk.s = res.s)
  · have HQ := Lib.hid hq
    have E1 := Lib.hid (show kc = 4 by rw [HEK2.out]; simp only [HQq.out, HQk.out, HQc.out, HQ.out] <;> first | rfl | simp)
    clear hq
    go_wp2_with fail
    refine (same9_any j4 r4 kk.s.length res.s.length j5 r5 kk.s res.s rfl rfl (by omega) (by omega) _ (inI_ints C_3.out) (inI_ints Z_3.out)).mono ?_
    rw [HQ.out]
    rintro e w5 ⟨rfl, hb5⟩
    have HB_9 := Lib.hid (bt HB_3.out hb5)
    clear hb5 kk0 rr0 kk1 rr1 kk2 rr2 kk3 rr3
    go_wp2
    go_ret2
    exact ⟨by rw [E1.out]; rfl, HB_9.out⟩
  have HQs := Lib.hid hq
  clear hq
  go_wp2_with fail
  refine (same9_any j4 r4 kk.s.length res.s.length j5 r5 kk.s res.s rfl rfl (by omega) (by omega) _ (inI_ints C_3.out) (inI_ints Z_3.out)).mono ?_
  rw [HQs.out]
  rintro e v4 ⟨rfl, hb5⟩
  have HB_9 := Lib.hid (bt HB_3.out hb5)
  have E1 := Lib.hid (show kc = 0 by rw [HEK2.out]; simp only [HQq.out, HQk.out, HQc.out, HQs.out] <;> first | rfl | simp)
  clear hb5 kk0 rr0 kk1 rr1 kk2 rr2 kk3 rr3
  go_wp2
  go_ret2
  exact ⟨by rw [E1.out]; rfl, HB_9.out⟩

end Go.Proofs.Ytchlnkdlnfjijaa

