/-
For all bytes the law FnPowers returns true: products of powers are products of the single powers, and logarithms are inverse to powers, for what is drawn.
No condition.
-/
import Derived.Test.YtafoenoilcgjdaaRows
import Derived.WalkKit
import Derived.ProofKit
import Derived.OpenShut
import Derived.SizedLaws
import Derived.ShutString
import Derived.ChangeOld
import Derived.Below
import Derived.Test.YtafoenoilcgjdaaGrG
import Derived.Test.YtafoenoilcgjdaaDrG12
import Derived.Test.YtafoenoilcgjdaaResid
import Derived.Test.YtafoenoilcgjdaaFacts
namespace Go.Proofs.Ytafoenoilcgjdaa.fnPowers
open Go.ChangeShapes Go.WideShapes Go.ChangeAt Go.RowKit
open Go.ChangeMaps (open_string shut_string)
set_option linter.unusedVariables false

theorem own : ownKnob Try.prog.godebug = none := by kernel_rfl
theorem laidOut : laidOutB Try.prog = true := by kernel_rfl

theorem bytes5 : Try.prog.bytesOf 5 = 1 := by kernel_rfl

/-- WHAT THE WALK IS TOLD OF A SLICE OF INTEGERS THAT CAME IN: it is nil; or it leads to a row of 'cap' cells, the numbers 'zs' (the first 'len' are its elements, the rest its spare room), each fitting its kind. -/
def IsRow (k : IntKind) (w : World) (a : Option Addr) (len cap : Nat) (zs : List Int) : Prop :=
  (a = none ∧ len = 0 ∧ cap = 0 ∧ zs = []) ∨
  ∃ x, a = some x ∧ len ≤ cap ∧ cap ≤ maxLen ∧ zs.length = cap ∧ (∀ i, i < zs.length → w.cell? (x.add i) = some (.int k (zs.getD i 0))) ∧ ∀ n ∈ zs, (Lit.int k n).wf = true



/-! ### STEP 1: THE WALK: the Go text returns true, AND WRITES NOTHING THAT WAS THERE: 'Below w.heap.size w w'' (Derived/Below.lean: '.refl', '.alloc', '.drew', '.setCell' at a new block, '.trans'). Open each 'IsRow' by 'rcases' AHEAD of 'go_enter'; part every test ahead of the walk. -/
set_option maxRecDepth 100000 in
set_option maxHeartbeats 3200000 in
theorem walk (a0 : Option Addr) (len0 cap0 : Nat) (z0 : List Int) (a1 : Option Addr) (len1 cap1 : Nat) (z1 : List Int) (w : World) (w0 : IsRow .u8 w a0 len0 cap0 z0) (w1 : IsRow .u8 w a1 len1 cap1 z1) (s0 : len0 ≤ 140737488351232) (s1 : len1 ≤ 140737488351232) :
    Calls Try.prog 5 #[.slice a0 len0 cap0, .slice a1 len1 cap1] w fun e w' => e = .returned (.bool true) ∧ Below w.heap.size w w' := by
  have hb0 := isB_of_row w0
  have hb1 := isB_of_row w1
  clear w0 w1
  by_cases hbig : 1048576 < (len0 : Int) + len1
  · go_enter Try.func5, Try.ntmps5
    go_wp2
    go_ret
    exact ⟨rfl, Below.refl _ _⟩
  have HB0 := Lib.hid hb0
  have HB1 := Lib.hid hb1
  clear hb0 hb1
  obtain ⟨i0, hi, hz0, hz1, hz2⟩ := info_parts Try.info3
  go_enter Try.func5, Try.ntmps5
  go_wp2_with fail
  refine (drawProductOfPowers_any _ _ _ _ HB0.out).mono ?_
  rintro e v1 ⟨P, Q, G, al, nl, cl, zs, ae, ne, ce, es, rfl, ⟨_, ⟨q0, q1⟩, _⟩, ⟨hzl, hll, hnl⟩, ⟨hze, hle, hne⟩, hv1⟩
  have hal1 := ba v1 (.cells #[.int .i64 P, .int .i64 Q, .int .i64 G] 27)
  have HV1 := Lib.hid (bt hv1 hal1)
  have HR1 := Lib.hid (gr_new v1 P Q G 27)
  have HZ1 := Lib.hid (hzl.below hal1 (Nat.le_refl _))
  have HE1 := Lib.hid (hze.below hal1 (Nat.le_refl _))
  have HLz := Lib.hid hll
  have HLe := Lib.hid hle
  clear hv1 hal1 hbig hzl hze hll hle
  obtain ⟨c0, c1, c2⟩ := HR1.out
  go_wp2_with fail
  refine (productOfPowers_any P Q G _ _ _ _ _ _ zs es HLz.out HLe.out (by omega) (by omega) _ HZ1.out HE1.out).mono ?_
  rintro e v2 ⟨rfl, hv2⟩
  have HV2 := Lib.hid (bt HV1.out hv2)
  have HR2 := Lib.hid (HR1.out.below hv2)
  have HZ2 := Lib.hid (HZ1.out.below hv2 (Nat.le_refl _))
  have HE2 := Lib.hid (HE1.out.below hv2 (Nat.le_refl _))
  clear hv2 c0 c1 c2
  obtain ⟨c0, c1, c2⟩ := HR2.out
  go_wp2_with fail
  refine (sProductOfPowers_any P Q G _ _ _ _ _ _ zs es HLz.out HLe.out (by omega) (by omega) _ HZ2.out HE2.out).mono ?_
  rintro e v3 ⟨rfl, hv3⟩
  have HV3 := Lib.hid (bt HV2.out hv3)
  have HR3 := Lib.hid (HR2.out.below hv3)
  have HZ3 := Lib.hid (HZ2.out.below hv3 (Nat.le_refl _))
  have HE3 := Lib.hid (HE2.out.below hv3 (Nat.le_refl _))
  clear hv3 c0 c1 c2
  go_wp2_with fail
  refine (drawLogOf_any _ _ _ _ (HB1.out.below HV3.out)).mono ?_
  rintro e v4 ⟨P', Q', G', b, y, m, rfl, ⟨_, ⟨q0', q1'⟩, _⟩, hv4⟩
  have hal4 := ba v4 (.cells #[.int .i64 P', .int .i64 Q', .int .i64 G'] 27)
  have HV4 := Lib.hid (bt (bt HV3.out hv4) hal4)
  have HR4 := Lib.hid ((HR3.out.below hv4).below hal4)
  have HZ4 := Lib.hid ((HZ3.out.below hv4 (Nat.le_refl _)).below hal4 (Nat.le_refl _))
  have HE4 := Lib.hid ((HE3.out.below hv4 (Nat.le_refl _)).below hal4 (Nat.le_refl _))
  have HS4 := Lib.hid (gr_new v4 P' Q' G' 27)
  clear hv4 hal4
  obtain ⟨c0, c1, c2⟩ := HS4.out
  cases hlog : logB P' Q' G' b y m
  · have HG := Lib.hid hlog
    clear hlog
    go_wp2_with fail
    refine (logOf_any P' Q' G' b y m _).mono ?_
    rw [HG.out]
    rintro e v5 ⟨rfl, hv5⟩
    have HV5 := Lib.hid (bt HV4.out hv5)
    have HR5 := Lib.hid (HR4.out.below hv5)
    have HZ5 := Lib.hid (HZ4.out.below hv5 (Nat.le_refl _))
    have HE5 := Lib.hid (HE4.out.below hv5 (Nat.le_refl _))
    have HS5 := Lib.hid (HS4.out.below hv5)
    clear hv5 c0 c1 c2
    obtain ⟨c0, c1, c2⟩ := HS5.out
    go_wp2_with fail
    refine (sLogOf_any P' Q' G' b y m _).mono ?_
    rw [HG.out]
    rintro e v6 ⟨rfl, hv6⟩
    have HV6 := Lib.hid (bt HV5.out hv6)
    have HR6 := Lib.hid (HR5.out.below hv6)
    have HZ6 := Lib.hid (HZ5.out.below hv6 (Nat.le_refl _))
    have HE6 := Lib.hid (HE5.out.below hv6 (Nat.le_refl _))
    have HS6 := Lib.hid (HS5.out.below hv6)
    clear hv6 c0 c1 c2
    cases hpop : popB P Q G zs es
    · have HP := Lib.hid hpop
      clear hpop
      go_wp2
      go_ret
      exact ⟨rfl, HV6.out⟩
    · have HP := Lib.hid hpop
      obtain ⟨hel, h24, hget, hmb, hmv⟩ := pop_facts hpop
      obtain rfl : nl = ne := by have := HLz.out; have := HLe.out; omega
      have HEL := Lib.hid hel
      have HGET := Lib.hid hget
      have HMB := Lib.hid hmb
      have HMV := Lib.hid hmv
      have HPL := Lib.hid (powL_length P zs es hel)
      have hn24 : nl ≤ 24 := by have := HLz.out; omega
      clear hpop hel h24 hget hmb hmv
      go_wp2
      go_loopw [22, 23, 122] (fun V _ K wr => ∃ (k : Nat) (va : Option Addr) (vc : Nat), k ≤ nl ∧ K = .int .i64 k ∧ V = .slice va k vc ∧ wr.ownsRow v6.heap.size 3 1 (.slice va k vc) k (((powL P zs es).take k).map (Value.int .i64)) ∧ Below v6.heap.size v6 wr) (fun _ _ K _ => nl - (intOf K).toNat)
      case atStart => exact ⟨0, none, 0, Nat.zero_le _, rfl, rfl, World.ownsRow_nil _ _ _ _, Below.refl _ _⟩
      case round =>
        obtain ⟨k, va, vc, hk, rfl, rfl, hown, hbel⟩ := hrel
        have HO := Lib.hid hown
        have HBr := Lib.hid hbel
        have HRr := Lib.hid (HR6.out.below hbel)
        clear hown hbel
        by_cases hkn : k < nl
        · have hki : (k : Int) < (nl : Int) := by omega
          obtain ⟨bb, off, z, hbl, hbs, hcz, hdz⟩ := (HZ6.out.below HBr.out (Nat.le_refl _)).at (k := k) (by have := HLz.out; omega)
          obtain ⟨bb', off', ex, hbl', hbs', hce, hde⟩ := (HE6.out.below HBr.out (Nat.le_refl _)).at (k := k) (by have := HLe.out; omega)
          have hzk : zs.getD k 0 = z := by
            have hk' : k < zs.length := by have := HLz.out; omega
            rw [List.drop_eq_getElem_cons hk'] at hdz
            have := (List.cons.inj hdz).1
            simpa [List.getD, hk'] using this
          have hek : es.getD k 0 = ex := by
            have hk' : k < es.length := by have := HLe.out; omega
            rw [List.drop_eq_getElem_cons hk'] at hde
            have := (List.cons.inj hde).1
            simpa [List.getD, hk'] using this
          have hg := HGET.out k (by have := HLz.out; omega)
          have hg3 := powL_get P zs es k HEL.out (by have := HLz.out; omega)
          rw [hzk, hek] at hg hg3
          have HGK := Lib.hid hg
          have HGS := Lib.hid hg3
          subst hbl hbl'
          obtain ⟨c0, c1, c2⟩ := HRr.out
          have HC := Lib.hid (And.intro hcz hce)
          have HBB := Lib.hid (And.intro hbs hbs')
          clear hg hg3 hzk hek hdz hde
          go_wp2_with fail
          go_region_held3 (fun w' => w'.cell? ⟨v1.heap.size, 0, none⟩ = some (.int .i64 P) ∧ w'.cell? ⟨v1.heap.size, 1, none⟩ = some (.int .i64 Q) ∧ w'.cell? ⟨v1.heap.size, 2, none⟩ = some (.int .i64 G) ∧ w'.cell? ⟨bb, off + k, none⟩ = some (.int .i64 z) ∧ w'.cell? ⟨bb', off' + k, none⟩ = some (.int .i64 ex)) (first | exact ⟨c0, c1, c2, hcz, hce⟩ | exact HKX.out) ((first
            | (go_at_call 25; refine (expOf_any P Q G z ex _).mono ?_; rw [HGK.out.1, HGK.out.2]; rintro e x1 ⟨rfl, hx1⟩; have hx2 := (show Below wr.heap.size wr x1 from bt (Below.refl _ _).drew hx1); have HRx := Lib.hid (HRr.out.below hx2); have HKX := Lib.hid (show x1.cell? ⟨v1.heap.size, 0, none⟩ = some (.int .i64 P) ∧ x1.cell? ⟨v1.heap.size, 1, none⟩ = some (.int .i64 Q) ∧ x1.cell? ⟨v1.heap.size, 2, none⟩ = some (.int .i64 G) ∧ x1.cell? ⟨bb, off + k, none⟩ = some (.int .i64 z) ∧ x1.cell? ⟨bb', off' + k, none⟩ = some (.int .i64 ex) from ⟨HRx.out.1, HRx.out.2.1, HRx.out.2.2, (hx2.cell (p := ⟨bb, off + k, none⟩) HBB.out.1).trans HC.out.1, (hx2.cell (p := ⟨bb', off' + k, none⟩) HBB.out.2).trans HC.out.2⟩); have HOx := Lib.hid (own_below HO.out hx2); have HBx := Lib.hid (HBr.out.trans (hx2.mono HBr.out.size)); clear hx1 hx2)))
          clear c0 c1 c2 hcz hce
          go_wp2_with (at_builtin; refine wpList_append_ints rfl _ _ 24 rfl v6.heap.size 3 i0 Try.underlying24 hi hz0 hz1 hz2 _ k ((powL P zs es).take k) rfl (HOx.out.alloc _) (some ⟨x1.heap.size, 0, none⟩) 1 1 [Num.pow z ex P] rfl rfl (ints_spot x1 _ rfl [Num.pow z ex P] 3) (fun h => by cases h) (by omega) ?_ ?_)
          · have := HBx.out.size; simp; omega
          · intro v' x2 hown' hgrow
            obtain ⟨va', vc', rfl⟩ := own_shape hown'
            have HO2 := Lib.hid hown'
            have hal := ba x1 (.cells #[.int .i64 (Num.pow z ex P)] 3)
            have HB2 := Lib.hid ((HBx.out.trans (hal.mono HBx.out.size)).grown hgrow (by have := HBx.out.size; simp; omega) (fun q hq => (HOx.out.lt q hq).1))
            clear hown' hgrow hal
            go_wp2
            go_roundw
            case rel => exact ⟨k + 1, va', vc', by omega, by go_num, rfl, by rw [HGS.out]; simpa using HO2.out, HB2.out⟩
            case measure => simp only [intOf]; omega
        · have hki : (nl : Int) ≤ (k : Int) := by omega
          obtain rfl : k = nl := by omega
          have hfull : (powL P zs es).take k = powL P zs es := List.take_of_length_le (by rw [HPL.out, HLz.out]; omega)
          obtain ⟨hio, hlo, -⟩ := own_ints (zs := powL P zs es) (by have h := HO.out; rw [hfull] at h; exact h)
          have HIO := Lib.hid hio
          have HLO := Lib.hid hlo
          obtain ⟨c0, c1, c2⟩ := HRr.out
          clear hfull hio hlo
          go_wp2_with fail
          refine (mulOf_any P Q G _ _ _ (powL P zs es) HLO.out (by omega) _ HIO.out).mono ?_
          rw [HMB.out, HMV.out]
          rintro e x3 ⟨rfl, hx3⟩
          have HX3 := Lib.hid (bt (HV6.out.trans (HBr.out.mono HV6.out.size)) hx3)
          clear hx3
          go_wp2
          go_ret
          exact ⟨rfl, HX3.out⟩
  · have HG := Lib.hid hlog
    obtain ⟨r, hr⟩ := log_facts hlog
    have HLR := Lib.hid hr
    have hrm : (r : Int) ≤ m := hr.2.1
    have hrq2 : 2 ≤ Q' := hr.2.2.1.1
    have hrq3 : Q' ≤ 2000000000 := hr.2.2.1.2
    clear hr
    clear hlog
    go_wp2_with fail
    refine (logOf_any P' Q' G' b y m _).mono ?_
    rw [HG.out, HLR.out.1]
    rintro e v5 ⟨rfl, hv5⟩
    have HV5 := Lib.hid (bt HV4.out hv5)
    have HR5 := Lib.hid (HR4.out.below hv5)
    have HZ5 := Lib.hid (HZ4.out.below hv5 (Nat.le_refl _))
    have HE5 := Lib.hid (HE4.out.below hv5 (Nat.le_refl _))
    have HS5 := Lib.hid (HS4.out.below hv5)
    clear hv5 c0 c1 c2
    obtain ⟨c0, c1, c2⟩ := HS5.out
    go_wp2_with fail
    refine (sLogOf_any P' Q' G' b y m _).mono ?_
    rw [HG.out, HLR.out.1]
    rintro e v6 ⟨rfl, hv6⟩
    have HV6 := Lib.hid (bt HV5.out hv6)
    have HR6 := Lib.hid (HR5.out.below hv6)
    have HZ6 := Lib.hid (HZ5.out.below hv6 (Nat.le_refl _))
    have HE6 := Lib.hid (HE5.out.below hv6 (Nat.le_refl _))
    have HS6 := Lib.hid (HS5.out.below hv6)
    clear hv6 c0 c1 c2
    obtain ⟨c0, c1, c2⟩ := HS6.out
    have hrt : (r : Int).tmod Q' = r := (Int.tmod_eq_emod_of_nonneg (by omega)).trans HLR.out.2.2.2.1
    have hre : (r : Int) % Q' = r := HLR.out.2.2.2.1
    have hrm' : decide (m < (r : Int)) = false := by simp; omega
    have hrqn : Q' ≠ 0 := by omega
    go_wp2_with fail
    go_region_held3 (fun w' => w'.cell? ⟨v4.heap.size, 0, none⟩ = some (.int .i64 P') ∧ w'.cell? ⟨v4.heap.size, 1, none⟩ = some (.int .i64 Q') ∧ w'.cell? ⟨v4.heap.size, 2, none⟩ = some (.int .i64 G')) (first | exact ⟨c0, c1, c2⟩ | exact HSx.out) ((first
      | (go_at_call 25; refine (expOf_any P' Q' G' b r _).mono ?_; rw [HLR.out.2.2.2.2.1, HLR.out.2.2.2.2.2]; rintro e v7 ⟨rfl, hv7⟩; have HSx := Lib.hid (show GR v7 v4.heap.size P' Q' G' from GR.below (GR.drew HS6.out) hv7); have HV7 := Lib.hid (bt HV6.out.drew hv7); have HR7 := Lib.hid (show GR v7 v1.heap.size P Q G from GR.below (GR.drew HR6.out) hv7); have HZ7 := Lib.hid (show IsInts v7 al zs from IsInts.below (w := v6.drew) HZ6.out hv7 (Nat.le_refl _)); have HE7 := Lib.hid (show IsInts v7 ae es from IsInts.below (w := v6.drew) HE6.out hv7 (Nat.le_refl _)); clear hv7)))
    clear c0 c1 c2 hrt hre hrqn
    cases hpop : popB P Q G zs es
    · have HP := Lib.hid hpop
      clear hpop
      go_wp2
      go_ret
      exact ⟨rfl, HV7.out⟩
    · have HP := Lib.hid hpop
      obtain ⟨hel, h24, hget, hmb, hmv⟩ := pop_facts hpop
      obtain rfl : nl = ne := by have := HLz.out; have := HLe.out; omega
      have HEL := Lib.hid hel
      have HGET := Lib.hid hget
      have HMB := Lib.hid hmb
      have HMV := Lib.hid hmv
      have HPL := Lib.hid (powL_length P zs es hel)
      have hn24 : nl ≤ 24 := by have := HLz.out; omega
      clear hpop hel h24 hget hmb hmv
      go_wp2
      go_loopw [22, 23, 122] (fun V _ K wr => ∃ (k : Nat) (va : Option Addr) (vc : Nat), k ≤ nl ∧ K = .int .i64 k ∧ V = .slice va k vc ∧ wr.ownsRow v7.heap.size 3 1 (.slice va k vc) k (((powL P zs es).take k).map (Value.int .i64)) ∧ Below v7.heap.size v7 wr) (fun _ _ K _ => nl - (intOf K).toNat)
      case atStart => exact ⟨0, none, 0, Nat.zero_le _, rfl, rfl, World.ownsRow_nil _ _ _ _, Below.refl _ _⟩
      case round =>
        obtain ⟨k, va, vc, hk, rfl, rfl, hown, hbel⟩ := hrel
        have HO := Lib.hid hown
        have HBr := Lib.hid hbel
        have HRr := Lib.hid (HR7.out.below hbel)
        clear hown hbel
        by_cases hkn : k < nl
        · have hki : (k : Int) < (nl : Int) := by omega
          obtain ⟨bb, off, z, hbl, hbs, hcz, hdz⟩ := (HZ7.out.below HBr.out (Nat.le_refl _)).at (k := k) (by have := HLz.out; omega)
          obtain ⟨bb', off', ex, hbl', hbs', hce, hde⟩ := (HE7.out.below HBr.out (Nat.le_refl _)).at (k := k) (by have := HLe.out; omega)
          have hzk : zs.getD k 0 = z := by
            have hk' : k < zs.length := by have := HLz.out; omega
            rw [List.drop_eq_getElem_cons hk'] at hdz
            have := (List.cons.inj hdz).1
            simpa [List.getD, hk'] using this
          have hek : es.getD k 0 = ex := by
            have hk' : k < es.length := by have := HLe.out; omega
            rw [List.drop_eq_getElem_cons hk'] at hde
            have := (List.cons.inj hde).1
            simpa [List.getD, hk'] using this
          have hg := HGET.out k (by have := HLz.out; omega)
          have hg3 := powL_get P zs es k HEL.out (by have := HLz.out; omega)
          rw [hzk, hek] at hg hg3
          have HGK := Lib.hid hg
          have HGS := Lib.hid hg3
          subst hbl hbl'
          obtain ⟨c0, c1, c2⟩ := HRr.out
          have HC := Lib.hid (And.intro hcz hce)
          have HBB := Lib.hid (And.intro hbs hbs')
          clear hg hg3 hzk hek hdz hde
          go_wp2_with fail
          go_region_held3 (fun w' => w'.cell? ⟨v1.heap.size, 0, none⟩ = some (.int .i64 P) ∧ w'.cell? ⟨v1.heap.size, 1, none⟩ = some (.int .i64 Q) ∧ w'.cell? ⟨v1.heap.size, 2, none⟩ = some (.int .i64 G) ∧ w'.cell? ⟨bb, off + k, none⟩ = some (.int .i64 z) ∧ w'.cell? ⟨bb', off' + k, none⟩ = some (.int .i64 ex)) (first | exact ⟨c0, c1, c2, hcz, hce⟩ | exact HKX.out) ((first
            | (go_at_call 25; refine (expOf_any P Q G z ex _).mono ?_; rw [HGK.out.1, HGK.out.2]; rintro e x1 ⟨rfl, hx1⟩; have hx2 := (show Below wr.heap.size wr x1 from bt (Below.refl _ _).drew hx1); have HRx := Lib.hid (HRr.out.below hx2); have HKX := Lib.hid (show x1.cell? ⟨v1.heap.size, 0, none⟩ = some (.int .i64 P) ∧ x1.cell? ⟨v1.heap.size, 1, none⟩ = some (.int .i64 Q) ∧ x1.cell? ⟨v1.heap.size, 2, none⟩ = some (.int .i64 G) ∧ x1.cell? ⟨bb, off + k, none⟩ = some (.int .i64 z) ∧ x1.cell? ⟨bb', off' + k, none⟩ = some (.int .i64 ex) from ⟨HRx.out.1, HRx.out.2.1, HRx.out.2.2, (hx2.cell (p := ⟨bb, off + k, none⟩) HBB.out.1).trans HC.out.1, (hx2.cell (p := ⟨bb', off' + k, none⟩) HBB.out.2).trans HC.out.2⟩); have HOx := Lib.hid (own_below HO.out hx2); have HBx := Lib.hid (HBr.out.trans (hx2.mono HBr.out.size)); clear hx1 hx2)))
          clear c0 c1 c2 hcz hce
          go_wp2_with (at_builtin; refine wpList_append_ints rfl _ _ 24 rfl v7.heap.size 3 i0 Try.underlying24 hi hz0 hz1 hz2 _ k ((powL P zs es).take k) rfl (HOx.out.alloc _) (some ⟨x1.heap.size, 0, none⟩) 1 1 [Num.pow z ex P] rfl rfl (ints_spot x1 _ rfl [Num.pow z ex P] 3) (fun h => by cases h) (by omega) ?_ ?_)
          · have := HBx.out.size; simp; omega
          · intro v' x2 hown' hgrow
            obtain ⟨va', vc', rfl⟩ := own_shape hown'
            have HO2 := Lib.hid hown'
            have hal := ba x1 (.cells #[.int .i64 (Num.pow z ex P)] 3)
            have HB2 := Lib.hid ((HBx.out.trans (hal.mono HBx.out.size)).grown hgrow (by have := HBx.out.size; simp; omega) (fun q hq => (HOx.out.lt q hq).1))
            clear hown' hgrow hal
            go_wp2
            go_roundw
            case rel => exact ⟨k + 1, va', vc', by omega, by go_num, rfl, by rw [HGS.out]; simpa using HO2.out, HB2.out⟩
            case measure => simp only [intOf]; omega
        · have hki : (nl : Int) ≤ (k : Int) := by omega
          obtain rfl : k = nl := by omega
          have hfull : (powL P zs es).take k = powL P zs es := List.take_of_length_le (by rw [HPL.out, HLz.out]; omega)
          obtain ⟨hio, hlo, -⟩ := own_ints (zs := powL P zs es) (by have h := HO.out; rw [hfull] at h; exact h)
          have HIO := Lib.hid hio
          have HLO := Lib.hid hlo
          obtain ⟨c0, c1, c2⟩ := HRr.out
          clear hfull hio hlo
          go_wp2_with fail
          refine (mulOf_any P Q G _ _ _ (powL P zs es) HLO.out (by omega) _ HIO.out).mono ?_
          rw [HMB.out, HMV.out]
          rintro e x3 ⟨rfl, hx3⟩
          have HX3 := Lib.hid (bt (HV7.out.trans (HBr.out.mono HV7.out.size)) hx3)
          clear hx3
          go_wp2
          go_ret
          exact ⟨rfl, HX3.out⟩

/-! ### THE ROW's STEP: WRITTEN OUT: LEAVE IT -/
set_option maxRecDepth 100000 in
theorem lifted (os : Os) (started : os.Started) (H : Type) (enc : TypeId × Value → H) :
    ReturnsInHanded {} Try.checked os 5 .any (Rows.fnPowersSpec.pre6 enc Try.prog Try.f5 Rows.fnPowersRow.domain false) (Rows.fnPowersSpec.post enc Try.prog Try.f5 false true false false) := by
  refine returnsInHanded_of_change_sized (C := Try.checked) own started (by kernel_rfl) Try.func5
    (ChangeSpec.witness6 (enc := enc) (C := Try.checked) false ⟨#[], #[.slice none 0 0, .slice none 0 0], []⟩ 8 (by kernel_rfl) (by kernel_rfl) (by kernel_rfl) (by kernel_rfl)) ?_
  intro W base args ds gs before hval0 hW hcnd hsz0 _
  have hsz : (DataW.weightsEach Try.prog (Try.f5.params.toList ++ Rows.fnPowersSpec.plain.varTypes Try.prog) (ds ++ gs)).all (· ≤ reachBytes) = true := hsz0
  clear hsz0
  have hval : ∀ (j : Nat) t v, Try.f5.params[j]? = some t → args[j]? = some v → Value.okWide Try.prog W .any base t v := hval0
  have hW' := hW
  obtain ⟨p, q, hA0, hV, rfl, hfz, hnd⟩ := hW
  have hA : DataW.TrodAll enc Try.prog W 0 (fun _ => true) true Try.f5.params.toList args.toList ds p := hA0
  rw [Try.params5] at hA hval hsz
  obtain ⟨v0, vs0, d0, ds0, p0, q0, hargs, rfl, rfl, h0, r0⟩ := trodAll_cons hA
  obtain ⟨v1, vs1, d1, ds1, p1, q1, rfl, rfl, rfl, h1, r1⟩ := trodAll_cons r0
  obtain ⟨rfl, rfl, rfl⟩ := trodAll_nil r1
  obtain rfl : args = #[v0, v1] := by cases args; simp_all
  obtain ⟨rfl, rfl⟩ := trodVars_none hV
  obtain ⟨a0, len0, cap0, rfl⟩ := okWide_slice Try.underlying32 (hval 0 32 v0 rfl rfl)
  have k0 := h0
  have lt0 : ∀ x ∈ p0, x.block < W.heap.size := by obtain ⟨m, hm⟩ := k0; exact DataW.trod_lt m _ _ _ hm
  obtain ⟨z0, w0, s0⟩ : ∃ zs, IsRow .u8 W a0 len0 cap0 zs ∧ len0 ≤ 140737488351232 := by
    obtain ⟨fuel, hf⟩ := h0
    rcases open_ints Try.underlying32 Try.underlying5 (by kernel_rfl) hf with ⟨hcs, hx⟩ | ⟨x, l, c, zs, hcs, _, hl, hm, hz, hx, hcell, hwz⟩
    · simp [Value.cells] at hcs
      obtain ⟨rfl, rfl, rfl⟩ := hcs
      exact ⟨[], .inl ⟨rfl, rfl, rfl, rfl⟩, by decide⟩
    · simp [Value.cells] at hcs
      obtain ⟨rfl, rfl, rfl⟩ := hcs
      simp only [Prod.mk.injEq] at hx
      have hq := sized_slice hsz (j := 0) (t := 32) (e := 5) rfl (congrArg some hx.1) Try.underlying32
      rw [bytes5] at hq
      simp only [lits, List.length_map, List.length_take, List.length_drop, reachBytes] at hq
      simp only [if_true] at hz
      exact ⟨zs, .inr ⟨_, rfl, hl, hm, by simpa using hz, hcell, hwz⟩, by omega⟩
  obtain ⟨a1, len1, cap1, rfl⟩ := okWide_slice Try.underlying32 (hval 1 32 v1 rfl rfl)
  have k1 := h1
  have lt1 : ∀ x ∈ p1, x.block < W.heap.size := by obtain ⟨m, hm⟩ := k1; exact DataW.trod_lt m _ _ _ hm
  obtain ⟨z1, w1, s1⟩ : ∃ zs, IsRow .u8 W a1 len1 cap1 zs ∧ len1 ≤ 140737488351232 := by
    obtain ⟨fuel, hf⟩ := h1
    rcases open_ints Try.underlying32 Try.underlying5 (by kernel_rfl) hf with ⟨hcs, hx⟩ | ⟨x, l, c, zs, hcs, _, hl, hm, hz, hx, hcell, hwz⟩
    · simp [Value.cells] at hcs
      obtain ⟨rfl, rfl, rfl⟩ := hcs
      exact ⟨[], .inl ⟨rfl, rfl, rfl, rfl⟩, by decide⟩
    · simp [Value.cells] at hcs
      obtain ⟨rfl, rfl, rfl⟩ := hcs
      simp only [Prod.mk.injEq] at hx
      have hq := sized_slice hsz (j := 1) (t := 32) (e := 5) rfl (congrArg some hx.1) Try.underlying32
      rw [bytes5] at hq
      simp only [lits, List.length_map, List.length_take, List.length_drop, reachBytes] at hq
      simp only [if_true] at hz
      exact ⟨zs, .inr ⟨_, rfl, hl, hm, by simpa using hz, hcell, hwz⟩, by omega⟩
  clear hA0 hval0
  refine (walk a0 len0 cap0 z0 a1 len1 cap1 z1 W w0 w1 s0 s1).mono fun e W' ⟨he, bel⟩ => ?_
  subst he
  exact ⟨_, rfl, _, _, _, [], _, [], hW', trodAll_mk1 (shut_bool Try.underlying4 _), (trodAll_cons_mk (Below.trod laidOut (by kernel_rfl) (of_decide_eq_true (by kernel_rfl)) k0 bel lt0) (trodAll_cons_mk (Below.trod laidOut (by kernel_rfl) (of_decide_eq_true (by kernel_rfl)) k1 bel lt1) trodAll_mk0)), rfl, bel.frame _, fun h => by cases h⟩

theorem over : Rows.fnPowersRow.holds Try.pinned (OpenSpec.ofChange Rows.fnPowersSpec) :=
  OpenClaim.holds_of_wide 5 Try.f5 rfl rfl rfl rfl rfl rfl rfl ⟨rfl, rfl, rfl, rfl, rfl⟩ rfl rfl rfl rfl rfl (by kernel_rfl) Try.func5
    (show joinedFacts Try.prog 5 Try.f5 Rows.fnPowersSpec Rows.fnPowersRow = true by unfold joinedFacts; rw [Head.make, Head.lifts, Head.enters]; kernel_rfl)
    (of_decide_eq_true (by kernel_rfl)) (by unfold Func.isWrapper; first | (rw [if_pos (by decide +kernel)]; kernel_rfl) | (rw [if_neg (by decide +kernel)]; exact ⟨rfl, rfl⟩))
    (fun os started H enc _ => lifted os started H enc)

/-- ████ THE STATEMENT ████ -/
theorem proved : Rows.FnPowersSaid := over
#print axioms proved
end Go.Proofs.Ytafoenoilcgjdaa.fnPowers
