/-
For all bytes the law FnReencryption returns true: for what is drawn the program re-encrypts lists and raises ciphertexts as the reference does, re-encrypting all is re-encrypting each, and coins add up.
No condition.
-/
import Derived.Test.YtafoenoilcgjdaaRows
import Derived.WalkKit
import Derived.ProofKit
import Derived.OpenShut
import Derived.SizedLaws
import Derived.ShutString
import Derived.ChangeOld
import Derived.Below
import Derived.Deep.DeepCutAuto
import Derived.Test.YtafoenoilcgjdaaElM
import Derived.Test.YtafoenoilcgjdaaFacts
namespace Go.Proofs.Ytafoenoilcgjdaa.fnReencryption
open Go.ChangeShapes Go.WideShapes Go.ChangeAt Go.RowKit
open Go.ChangeMaps (open_string shut_string)
set_option linter.unusedVariables false

theorem own : ownKnob Try.prog.godebug = none := by kernel_rfl
theorem laidOut : laidOutB Try.prog = true := by kernel_rfl

theorem bytes5 : Try.prog.bytesOf 5 = 1 := by kernel_rfl

/-- WHAT THE WALK IS TOLD OF A SLICE OF INTEGERS THAT CAME IN: it is nil; or it leads to a row of 'cap' cells, the numbers 'zs' (the first 'len' are its elements, the rest its spare room), each fitting its kind. -/
def IsRow (k : IntKind) (w : World) (a : Option Addr) (len cap : Nat) (zs : List Int) : Prop :=
  (a = none ∧ len = 0 ∧ cap = 0 ∧ zs = []) ∨
  ∃ x, a = some x ∧ len ≤ cap ∧ cap ≤ maxLen ∧ zs.length = cap ∧ (∀ i, i < zs.length → w.cell? (x.add i) = some (.int k (zs.getD i 0))) ∧ ∀ n ∈ zs, (Lit.int k n).wf = true



/-! ### STEP 1: THE WALK: the Go text returns true, AND WRITES NOTHING THAT WAS THERE: 'Below w.heap.size w w'' (Derived/Below.lean: '.refl', '.alloc', '.drew', '.setCell' at a new block, '.trans'). Open each 'IsRow' by 'rcases' AHEAD of 'go_enter'; part every test ahead of the walk. -/
set_option maxRecDepth 100000 in
set_option maxHeartbeats 3200000 in
theorem walk (a0 : Option Addr) (len0 cap0 : Nat) (z0 : List Int) (a1 : Option Addr) (len1 cap1 : Nat) (z1 : List Int) (w : World) (w0 : IsRow .u8 w a0 len0 cap0 z0) (w1 : IsRow .u8 w a1 len1 cap1 z1) (s0 : len0 ≤ 140737488351232) (s1 : len1 ≤ 140737488351232) :
    Calls Try.prog 11 #[.slice a0 len0 cap0, .slice a1 len1 cap1] w fun e w' => e = .returned (.bool true) ∧ Below w.heap.size w w' := by
  have hb0 := isB_of_row w0
  have hb1 := isB_of_row w1
  clear w0 w1
  by_cases hbig : 1048576 < (len0 : Int) + len1
  · go_enter Try.func11, Try.ntmps11
    go_wp2
    go_ret
    exact ⟨rfl, Below.refl _ _⟩
  have HB0 := Lib.hid hb0
  have HB1 := Lib.hid hb1
  clear hb0 hb1
  go_enter Try.func11, Try.ntmps11
  go_wp2_with fail
  refine (drawReencryptAll_any _ _ _ _ HB0.out).mono ?_
  rintro e v1 ⟨P, Q, G, key, va, n, vc, zs, ea, mm, ec, es, rfl, _, ⟨hz, hzl, hn⟩, ⟨he, hel, hmm⟩, hv1⟩
  have hal := ba v1 (.cells #[.int .i64 P, .int .i64 Q, .int .i64 G] 27)
  have HV_1 := Lib.hid (bt hv1 hal)
  have HR_1 := Lib.hid (gr_new v1 P Q G 27)
  have HZ_1 := Lib.hid (hz.below hal (Nat.le_refl _))
  have HE_1 := Lib.hid (he.below hal (Nat.le_refl _))
  have HZL := Lib.hid hzl
  have HEL := Lib.hid hel
  clear hv1 hal hbig hz he hzl hel
  cases hd : raB P Q G key zs es
  · skip
    have HD := Lib.hid hd
    clear hd
    obtain ⟨eR0, eR1, eR2⟩ := HR_1.out
    go_wp2_with fail
    refine (reencryptAll_any P Q G key va ea n mm vc ec zs es HZL.out HEL.out (by omega) (by omega) _ HZ_1.out HE_1.out).mono ?_
    rw [HD.out]
    rintro e v2 ⟨_, rfl, ho, hb⟩
    clear eR0 eR1 eR2
    have HV_2 := Lib.hid (bt HV_1.out hb)
    have HR_2 := Lib.hid (HR_1.out.below hb)
    have HZ_2 := Lib.hid (HZ_1.out.below hb (Nat.le_refl _))
    have HE_2 := Lib.hid (HE_1.out.below hb (Nat.le_refl _))
    clear HV_1 HR_1 HZ_1 HE_1
    obtain ⟨_, oa, on, oc, rfl, hol, hob, _⟩ := ho.toIn
    have HO_2 := Lib.hid hob.ints
    have HOL := Lib.hid hol
    clear hb ho hol hob
    obtain ⟨eR0, eR1, eR2⟩ := HR_2.out
    go_wp2_with fail
    refine (sReencryptAll_any P Q G key va ea n mm vc ec zs es HZL.out HEL.out (by omega) (by omega) _ HZ_2.out HE_2.out).mono ?_
    rw [HD.out]
    rintro e v3 ⟨_, rfl, ho, hb⟩
    clear eR0 eR1 eR2
    have HV_3 := Lib.hid (bt HV_2.out hb)
    have HR_3 := Lib.hid (HR_2.out.below hb)
    have HZ_3 := Lib.hid (HZ_2.out.below hb (Nat.le_refl _))
    have HE_3 := Lib.hid (HE_2.out.below hb (Nat.le_refl _))
    have HO_3 := Lib.hid (HO_2.out.below hb (Nat.le_refl _))
    clear HV_2 HR_2 HZ_2 HE_2 HO_2
    obtain ⟨_, ra, rn, rc, rfl, hol, hob, _⟩ := ho.toIn
    have HW_3 := Lib.hid hob.ints
    have HWL := Lib.hid hol
    clear hb ho hol hob
    go_wp2_with fail
    refine (drawPowCipher_any _ _ _ _ (HB1.out.below HV_3.out)).mono ?_
    rintro e v4 ⟨P', Q', G', x, a, b, rfl, _, hb⟩
    have HV_4 := Lib.hid (bt HV_3.out hb)
    have HR_4 := Lib.hid (HR_3.out.below hb)
    have HZ_4 := Lib.hid (HZ_3.out.below hb (Nat.le_refl _))
    have HE_4 := Lib.hid (HE_3.out.below hb (Nat.le_refl _))
    have HO_4 := Lib.hid (HO_3.out.below hb (Nat.le_refl _))
    have HW_4 := Lib.hid (HW_3.out.below hb (Nat.le_refl _))
    clear HV_3 HR_3 HZ_3 HE_3 HO_3 HW_3
    clear hb
    have hal1 := ba v4 (.cells #[.int .i64 P', .int .i64 Q', .int .i64 G'] 27)
    have hal2 := ba (v4.alloc (.cells #[.int .i64 P', .int .i64 Q', .int .i64 G'] 27)) (.cells #[.int .i64 (a), .int .i64 (b)] 61)
    have hal := bt hal1 hal2
    have HV_5 := Lib.hid (bt HV_4.out hal)
    have HR_5 := Lib.hid (HR_4.out.below hal)
    have HZ_5 := Lib.hid (HZ_4.out.below hal (Nat.le_refl _))
    have HE_5 := Lib.hid (HE_4.out.below hal (Nat.le_refl _))
    have HO_5 := Lib.hid (HO_4.out.below hal (Nat.le_refl _))
    have HW_5 := Lib.hid (HW_4.out.below hal (Nat.le_refl _))
    clear HV_4 HR_4 HZ_4 HE_4 HO_4 HW_4
    have HS_5 := Lib.hid ((gr_new v4 P' Q' G' 27).below hal2)
    have HC_5 := Lib.hid (c2_at (v4.alloc (.cells #[.int .i64 P', .int .i64 Q', .int .i64 G'] 27)) (v4.heap.size + 1) (by simp) a b 61)
    clear hal hal1 hal2
    cases he : pcB P' Q' G' a b x
    · skip
      have HE9 := Lib.hid he
      clear he
      obtain ⟨eS0, eS1, eS2⟩ := HS_5.out
      obtain ⟨eC0, eC1, _⟩ := HC_5.out
      go_wp2_with fail
      refine (powCipher_any P' Q' G' a b x _).mono ?_
      rw [HE9.out]
      rintro e v6 ⟨rfl, hb⟩
      clear eS0 eS1 eS2 eC0 eC1
      have HV_6 := Lib.hid (bt HV_5.out hb)
      have HR_6 := Lib.hid (HR_5.out.below hb)
      have HZ_6 := Lib.hid (HZ_5.out.below hb (Nat.le_refl _))
      have HE_6 := Lib.hid (HE_5.out.below hb (Nat.le_refl _))
      have HO_6 := Lib.hid (HO_5.out.below hb (Nat.le_refl _))
      have HW_6 := Lib.hid (HW_5.out.below hb (Nat.le_refl _))
      have HS_6 := Lib.hid (HS_5.out.below hb)
      have HC_6 := Lib.hid (HC_5.out.below hb)
      clear HV_5 HR_5 HZ_5 HE_5 HO_5 HW_5 HS_5 HC_5
      clear hb
      have hal := ba v6 (.cells #[.int .i64 (pcA P' Q' G' a b x), .int .i64 (pcM P' Q' G' a b x)] 61)
      have HV_7 := Lib.hid (bt HV_6.out hal)
      have HR_7 := Lib.hid (HR_6.out.below hal)
      have HZ_7 := Lib.hid (HZ_6.out.below hal (Nat.le_refl _))
      have HE_7 := Lib.hid (HE_6.out.below hal (Nat.le_refl _))
      have HO_7 := Lib.hid (HO_6.out.below hal (Nat.le_refl _))
      have HW_7 := Lib.hid (HW_6.out.below hal (Nat.le_refl _))
      have HS_7 := Lib.hid (HS_6.out.below hal)
      have HC_7 := Lib.hid (HC_6.out.below hal)
      clear HV_6 HR_6 HZ_6 HE_6 HO_6 HW_6 HS_6 HC_6
      have HX_7 := Lib.hid (c2_new v6 (pcA P' Q' G' a b x) (pcM P' Q' G' a b x) 61)
      clear hal
      obtain ⟨eS0, eS1, eS2⟩ := HS_7.out
      obtain ⟨eC0, eC1, _⟩ := HC_7.out
      go_wp2_with fail
      refine (sPowCipher_any P' Q' G' a b x _).mono ?_
      rw [HE9.out]
      rintro e v8 ⟨rfl, hb⟩
      clear eS0 eS1 eS2 eC0 eC1
      have HV_8 := Lib.hid (bt HV_7.out hb)
      have HR_8 := Lib.hid (HR_7.out.below hb)
      have HZ_8 := Lib.hid (HZ_7.out.below hb (Nat.le_refl _))
      have HE_8 := Lib.hid (HE_7.out.below hb (Nat.le_refl _))
      have HO_8 := Lib.hid (HO_7.out.below hb (Nat.le_refl _))
      have HW_8 := Lib.hid (HW_7.out.below hb (Nat.le_refl _))
      have HS_8 := Lib.hid (HS_7.out.below hb)
      have HC_8 := Lib.hid (HC_7.out.below hb)
      have HX_8 := Lib.hid (HX_7.out.below hb)
      clear HV_7 HR_7 HZ_7 HE_7 HO_7 HW_7 HS_7 HC_7 HX_7
      clear hb
      have hal := ba v8 (.cells #[.int .i64 (pcA P' Q' G' a b x), .int .i64 (pcM P' Q' G' a b x)] 61)
      have HV_9 := Lib.hid (bt HV_8.out hal)
      have HR_9 := Lib.hid (HR_8.out.below hal)
      have HZ_9 := Lib.hid (HZ_8.out.below hal (Nat.le_refl _))
      have HE_9 := Lib.hid (HE_8.out.below hal (Nat.le_refl _))
      have HO_9 := Lib.hid (HO_8.out.below hal (Nat.le_refl _))
      have HW_9 := Lib.hid (HW_8.out.below hal (Nat.le_refl _))
      have HS_9 := Lib.hid (HS_8.out.below hal)
      have HC_9 := Lib.hid (HC_8.out.below hal)
      have HX_9 := Lib.hid (HX_8.out.below hal)
      clear HV_8 HR_8 HZ_8 HE_8 HO_8 HW_8 HS_8 HC_8 HX_8
      have HY_9 := Lib.hid (c2_new v8 (pcA P' Q' G' a b x) (pcM P' Q' G' a b x) 61)
      clear hal
      obtain ⟨eX0, eX1, _⟩ := HX_9.out
      obtain ⟨eY0, eY1, _⟩ := HY_9.out
      have hbd := ra_bound P Q G key zs es
      go_wp2_with fail
      refine (qCiphers_same oa ra on rn oc rc (raV P Q G key zs es) HOL.out HWL.out (by have := HOL.out; omega) _ HO_9.out HW_9.out).mono ?_
      rintro e v10 ⟨rfl, hb⟩
      clear eX0 eX1 eY0 eY1
      have HV_10 := Lib.hid (bt HV_9.out hb)
      have HR_10 := Lib.hid (HR_9.out.below hb)
      have HZ_10 := Lib.hid (HZ_9.out.below hb (Nat.le_refl _))
      have HE_10 := Lib.hid (HE_9.out.below hb (Nat.le_refl _))
      have HO_10 := Lib.hid (HO_9.out.below hb (Nat.le_refl _))
      have HX_10 := Lib.hid (HX_9.out.below hb)
      have HY_10 := Lib.hid (HY_9.out.below hb)
      clear HV_9 HR_9 HZ_9 HE_9 HO_9 HW_9 HS_9 HC_9 HX_9 HY_9
      clear hb
      obtain ⟨eX0, eX1, _⟩ := HX_10.out
      obtain ⟨eY0, eY1, _⟩ := HY_10.out
      go_wp2
      go_ret
      exact ⟨rfl, HV_10.out⟩
    · skip
      have HE9 := Lib.hid he
      clear he
      obtain ⟨eS0, eS1, eS2⟩ := HS_5.out
      obtain ⟨eC0, eC1, _⟩ := HC_5.out
      go_wp2_with fail
      refine (powCipher_any P' Q' G' a b x _).mono ?_
      rw [HE9.out]
      rintro e v6 ⟨rfl, hb⟩
      clear eS0 eS1 eS2 eC0 eC1
      have HV_6 := Lib.hid (bt HV_5.out hb)
      have HR_6 := Lib.hid (HR_5.out.below hb)
      have HZ_6 := Lib.hid (HZ_5.out.below hb (Nat.le_refl _))
      have HE_6 := Lib.hid (HE_5.out.below hb (Nat.le_refl _))
      have HO_6 := Lib.hid (HO_5.out.below hb (Nat.le_refl _))
      have HW_6 := Lib.hid (HW_5.out.below hb (Nat.le_refl _))
      have HS_6 := Lib.hid (HS_5.out.below hb)
      have HC_6 := Lib.hid (HC_5.out.below hb)
      clear HV_5 HR_5 HZ_5 HE_5 HO_5 HW_5 HS_5 HC_5
      clear hb
      have hal := ba v6 (.cells #[.int .i64 (pcA P' Q' G' a b x), .int .i64 (pcM P' Q' G' a b x)] 61)
      have HV_7 := Lib.hid (bt HV_6.out hal)
      have HR_7 := Lib.hid (HR_6.out.below hal)
      have HZ_7 := Lib.hid (HZ_6.out.below hal (Nat.le_refl _))
      have HE_7 := Lib.hid (HE_6.out.below hal (Nat.le_refl _))
      have HO_7 := Lib.hid (HO_6.out.below hal (Nat.le_refl _))
      have HW_7 := Lib.hid (HW_6.out.below hal (Nat.le_refl _))
      have HS_7 := Lib.hid (HS_6.out.below hal)
      have HC_7 := Lib.hid (HC_6.out.below hal)
      clear HV_6 HR_6 HZ_6 HE_6 HO_6 HW_6 HS_6 HC_6
      have HX_7 := Lib.hid (c2_new v6 (pcA P' Q' G' a b x) (pcM P' Q' G' a b x) 61)
      clear hal
      obtain ⟨eS0, eS1, eS2⟩ := HS_7.out
      obtain ⟨eC0, eC1, _⟩ := HC_7.out
      go_wp2_with fail
      refine (sPowCipher_any P' Q' G' a b x _).mono ?_
      rw [HE9.out]
      rintro e v8 ⟨rfl, hb⟩
      clear eS0 eS1 eS2 eC0 eC1
      have HV_8 := Lib.hid (bt HV_7.out hb)
      have HR_8 := Lib.hid (HR_7.out.below hb)
      have HZ_8 := Lib.hid (HZ_7.out.below hb (Nat.le_refl _))
      have HE_8 := Lib.hid (HE_7.out.below hb (Nat.le_refl _))
      have HO_8 := Lib.hid (HO_7.out.below hb (Nat.le_refl _))
      have HW_8 := Lib.hid (HW_7.out.below hb (Nat.le_refl _))
      have HS_8 := Lib.hid (HS_7.out.below hb)
      have HC_8 := Lib.hid (HC_7.out.below hb)
      have HX_8 := Lib.hid (HX_7.out.below hb)
      clear HV_7 HR_7 HZ_7 HE_7 HO_7 HW_7 HS_7 HC_7 HX_7
      clear hb
      have hal := ba v8 (.cells #[.int .i64 (pcA P' Q' G' a b x), .int .i64 (pcM P' Q' G' a b x)] 61)
      have HV_9 := Lib.hid (bt HV_8.out hal)
      have HR_9 := Lib.hid (HR_8.out.below hal)
      have HZ_9 := Lib.hid (HZ_8.out.below hal (Nat.le_refl _))
      have HE_9 := Lib.hid (HE_8.out.below hal (Nat.le_refl _))
      have HO_9 := Lib.hid (HO_8.out.below hal (Nat.le_refl _))
      have HW_9 := Lib.hid (HW_8.out.below hal (Nat.le_refl _))
      have HS_9 := Lib.hid (HS_8.out.below hal)
      have HC_9 := Lib.hid (HC_8.out.below hal)
      have HX_9 := Lib.hid (HX_8.out.below hal)
      clear HV_8 HR_8 HZ_8 HE_8 HO_8 HW_8 HS_8 HC_8 HX_8
      have HY_9 := Lib.hid (c2_new v8 (pcA P' Q' G' a b x) (pcM P' Q' G' a b x) 61)
      clear hal
      obtain ⟨eX0, eX1, _⟩ := HX_9.out
      obtain ⟨eY0, eY1, _⟩ := HY_9.out
      have hbd := ra_bound P Q G key zs es
      go_wp2_with fail
      refine (qCiphers_same oa ra on rn oc rc (raV P Q G key zs es) HOL.out HWL.out (by have := HOL.out; omega) _ HO_9.out HW_9.out).mono ?_
      rintro e v10 ⟨rfl, hb⟩
      clear eX0 eX1 eY0 eY1
      have HV_10 := Lib.hid (bt HV_9.out hb)
      have HR_10 := Lib.hid (HR_9.out.below hb)
      have HZ_10 := Lib.hid (HZ_9.out.below hb (Nat.le_refl _))
      have HE_10 := Lib.hid (HE_9.out.below hb (Nat.le_refl _))
      have HO_10 := Lib.hid (HO_9.out.below hb (Nat.le_refl _))
      have HX_10 := Lib.hid (HX_9.out.below hb)
      have HY_10 := Lib.hid (HY_9.out.below hb)
      clear HV_9 HR_9 HZ_9 HE_9 HO_9 HW_9 HS_9 HC_9 HX_9 HY_9
      clear hb
      obtain ⟨eX0, eX1, _⟩ := HX_10.out
      obtain ⟨eY0, eY1, _⟩ := HY_10.out
      go_wp2
      go_ret
      exact ⟨rfl, HV_10.out⟩
  · skip
    have HD := Lib.hid hd
    clear hd
    obtain ⟨eR0, eR1, eR2⟩ := HR_1.out
    go_wp2_with fail
    refine (reencryptAll_any P Q G key va ea n mm vc ec zs es HZL.out HEL.out (by omega) (by omega) _ HZ_1.out HE_1.out).mono ?_
    rw [HD.out]
    rintro e v2 ⟨_, rfl, ho, hb⟩
    clear eR0 eR1 eR2
    have HV_2 := Lib.hid (bt HV_1.out hb)
    have HR_2 := Lib.hid (HR_1.out.below hb)
    have HZ_2 := Lib.hid (HZ_1.out.below hb (Nat.le_refl _))
    have HE_2 := Lib.hid (HE_1.out.below hb (Nat.le_refl _))
    clear HV_1 HR_1 HZ_1 HE_1
    obtain ⟨_, oa, on, oc, rfl, hol, hob, _⟩ := ho.toIn
    have HO_2 := Lib.hid hob.ints
    have HOL := Lib.hid hol
    clear hb ho hol hob
    obtain ⟨eR0, eR1, eR2⟩ := HR_2.out
    go_wp2_with fail
    refine (sReencryptAll_any P Q G key va ea n mm vc ec zs es HZL.out HEL.out (by omega) (by omega) _ HZ_2.out HE_2.out).mono ?_
    rw [HD.out]
    rintro e v3 ⟨_, rfl, ho, hb⟩
    clear eR0 eR1 eR2
    have HV_3 := Lib.hid (bt HV_2.out hb)
    have HR_3 := Lib.hid (HR_2.out.below hb)
    have HZ_3 := Lib.hid (HZ_2.out.below hb (Nat.le_refl _))
    have HE_3 := Lib.hid (HE_2.out.below hb (Nat.le_refl _))
    have HO_3 := Lib.hid (HO_2.out.below hb (Nat.le_refl _))
    clear HV_2 HR_2 HZ_2 HE_2 HO_2
    obtain ⟨_, ra, rn, rc, rfl, hol, hob, _⟩ := ho.toIn
    have HW_3 := Lib.hid hob.ints
    have HWL := Lib.hid hol
    clear hb ho hol hob
    go_wp2_with fail
    refine (drawPowCipher_any _ _ _ _ (HB1.out.below HV_3.out)).mono ?_
    rintro e v4 ⟨P', Q', G', x, a, b, rfl, _, hb⟩
    have HV_4 := Lib.hid (bt HV_3.out hb)
    have HR_4 := Lib.hid (HR_3.out.below hb)
    have HZ_4 := Lib.hid (HZ_3.out.below hb (Nat.le_refl _))
    have HE_4 := Lib.hid (HE_3.out.below hb (Nat.le_refl _))
    have HO_4 := Lib.hid (HO_3.out.below hb (Nat.le_refl _))
    have HW_4 := Lib.hid (HW_3.out.below hb (Nat.le_refl _))
    clear HV_3 HR_3 HZ_3 HE_3 HO_3 HW_3
    clear hb
    have hal1 := ba v4 (.cells #[.int .i64 P', .int .i64 Q', .int .i64 G'] 27)
    have hal2 := ba (v4.alloc (.cells #[.int .i64 P', .int .i64 Q', .int .i64 G'] 27)) (.cells #[.int .i64 (a), .int .i64 (b)] 61)
    have hal := bt hal1 hal2
    have HV_5 := Lib.hid (bt HV_4.out hal)
    have HR_5 := Lib.hid (HR_4.out.below hal)
    have HZ_5 := Lib.hid (HZ_4.out.below hal (Nat.le_refl _))
    have HE_5 := Lib.hid (HE_4.out.below hal (Nat.le_refl _))
    have HO_5 := Lib.hid (HO_4.out.below hal (Nat.le_refl _))
    have HW_5 := Lib.hid (HW_4.out.below hal (Nat.le_refl _))
    clear HV_4 HR_4 HZ_4 HE_4 HO_4 HW_4
    have HS_5 := Lib.hid ((gr_new v4 P' Q' G' 27).below hal2)
    have HC_5 := Lib.hid (c2_at (v4.alloc (.cells #[.int .i64 P', .int .i64 Q', .int .i64 G'] 27)) (v4.heap.size + 1) (by simp) a b 61)
    clear hal hal1 hal2
    cases he : pcB P' Q' G' a b x
    · skip
      have HE9 := Lib.hid he
      clear he
      obtain ⟨eS0, eS1, eS2⟩ := HS_5.out
      obtain ⟨eC0, eC1, _⟩ := HC_5.out
      go_wp2_with fail
      refine (powCipher_any P' Q' G' a b x _).mono ?_
      rw [HE9.out]
      rintro e v6 ⟨rfl, hb⟩
      clear eS0 eS1 eS2 eC0 eC1
      have HV_6 := Lib.hid (bt HV_5.out hb)
      have HR_6 := Lib.hid (HR_5.out.below hb)
      have HZ_6 := Lib.hid (HZ_5.out.below hb (Nat.le_refl _))
      have HE_6 := Lib.hid (HE_5.out.below hb (Nat.le_refl _))
      have HO_6 := Lib.hid (HO_5.out.below hb (Nat.le_refl _))
      have HW_6 := Lib.hid (HW_5.out.below hb (Nat.le_refl _))
      have HS_6 := Lib.hid (HS_5.out.below hb)
      have HC_6 := Lib.hid (HC_5.out.below hb)
      clear HV_5 HR_5 HZ_5 HE_5 HO_5 HW_5 HS_5 HC_5
      clear hb
      have hal := ba v6 (.cells #[.int .i64 (pcA P' Q' G' a b x), .int .i64 (pcM P' Q' G' a b x)] 61)
      have HV_7 := Lib.hid (bt HV_6.out hal)
      have HR_7 := Lib.hid (HR_6.out.below hal)
      have HZ_7 := Lib.hid (HZ_6.out.below hal (Nat.le_refl _))
      have HE_7 := Lib.hid (HE_6.out.below hal (Nat.le_refl _))
      have HO_7 := Lib.hid (HO_6.out.below hal (Nat.le_refl _))
      have HW_7 := Lib.hid (HW_6.out.below hal (Nat.le_refl _))
      have HS_7 := Lib.hid (HS_6.out.below hal)
      have HC_7 := Lib.hid (HC_6.out.below hal)
      clear HV_6 HR_6 HZ_6 HE_6 HO_6 HW_6 HS_6 HC_6
      have HX_7 := Lib.hid (c2_new v6 (pcA P' Q' G' a b x) (pcM P' Q' G' a b x) 61)
      clear hal
      obtain ⟨eS0, eS1, eS2⟩ := HS_7.out
      obtain ⟨eC0, eC1, _⟩ := HC_7.out
      go_wp2_with fail
      refine (sPowCipher_any P' Q' G' a b x _).mono ?_
      rw [HE9.out]
      rintro e v8 ⟨rfl, hb⟩
      clear eS0 eS1 eS2 eC0 eC1
      have HV_8 := Lib.hid (bt HV_7.out hb)
      have HR_8 := Lib.hid (HR_7.out.below hb)
      have HZ_8 := Lib.hid (HZ_7.out.below hb (Nat.le_refl _))
      have HE_8 := Lib.hid (HE_7.out.below hb (Nat.le_refl _))
      have HO_8 := Lib.hid (HO_7.out.below hb (Nat.le_refl _))
      have HW_8 := Lib.hid (HW_7.out.below hb (Nat.le_refl _))
      have HS_8 := Lib.hid (HS_7.out.below hb)
      have HC_8 := Lib.hid (HC_7.out.below hb)
      have HX_8 := Lib.hid (HX_7.out.below hb)
      clear HV_7 HR_7 HZ_7 HE_7 HO_7 HW_7 HS_7 HC_7 HX_7
      clear hb
      have hal := ba v8 (.cells #[.int .i64 (pcA P' Q' G' a b x), .int .i64 (pcM P' Q' G' a b x)] 61)
      have HV_9 := Lib.hid (bt HV_8.out hal)
      have HR_9 := Lib.hid (HR_8.out.below hal)
      have HZ_9 := Lib.hid (HZ_8.out.below hal (Nat.le_refl _))
      have HE_9 := Lib.hid (HE_8.out.below hal (Nat.le_refl _))
      have HO_9 := Lib.hid (HO_8.out.below hal (Nat.le_refl _))
      have HW_9 := Lib.hid (HW_8.out.below hal (Nat.le_refl _))
      have HS_9 := Lib.hid (HS_8.out.below hal)
      have HC_9 := Lib.hid (HC_8.out.below hal)
      have HX_9 := Lib.hid (HX_8.out.below hal)
      clear HV_8 HR_8 HZ_8 HE_8 HO_8 HW_8 HS_8 HC_8 HX_8
      have HY_9 := Lib.hid (c2_new v8 (pcA P' Q' G' a b x) (pcM P' Q' G' a b x) 61)
      clear hal
      obtain ⟨eX0, eX1, _⟩ := HX_9.out
      obtain ⟨eY0, eY1, _⟩ := HY_9.out
      have hbd := ra_bound P Q G key zs es
      go_wp2_with fail
      refine (qCiphers_same oa ra on rn oc rc (raV P Q G key zs es) HOL.out HWL.out (by have := HOL.out; omega) _ HO_9.out HW_9.out).mono ?_
      rintro e v10 ⟨rfl, hb⟩
      clear eX0 eX1 eY0 eY1
      have HV_10 := Lib.hid (bt HV_9.out hb)
      have HR_10 := Lib.hid (HR_9.out.below hb)
      have HZ_10 := Lib.hid (HZ_9.out.below hb (Nat.le_refl _))
      have HE_10 := Lib.hid (HE_9.out.below hb (Nat.le_refl _))
      have HO_10 := Lib.hid (HO_9.out.below hb (Nat.le_refl _))
      have HX_10 := Lib.hid (HX_9.out.below hb)
      have HY_10 := Lib.hid (HY_9.out.below hb)
      clear HV_9 HR_9 HZ_9 HE_9 HO_9 HW_9 HS_9 HC_9 HX_9 HY_9
      clear hb
      obtain ⟨eX0, eX1, _⟩ := HX_10.out
      obtain ⟨eY0, eY1, _⟩ := HY_10.out
      obtain ⟨hmn, hon⟩ := ra_lens HD.out HZL.out HEL.out HOL.out
      go_wp2
      go_loopw [97] (fun K wr => ∃ k : Nat, k ≤ n ∧ K = .int .i64 k ∧ Below v10.heap.size v10 wr) (fun K _ => n - (intOf K).toNat)
      case atStart => exact ⟨0, Nat.zero_le _, rfl, Below.refl _ _⟩
      case round =>
        obtain ⟨k, hk, rfl, hbel⟩ := hrel
        have HLr := Lib.hid hbel
        have HRr := Lib.hid (HR_10.out.below hbel)
        have HZr := Lib.hid (HZ_10.out.below hbel (Nat.le_refl _))
        have HEr := Lib.hid (HE_10.out.below hbel (Nat.le_refl _))
        have HOr := Lib.hid (HO_10.out.below hbel (Nat.le_refl _))
        clear hbel eX0 eX1 eY0 eY1
        by_cases hkn : k < n
        · skip
          have hki : (k : Int) < (n : Int) := by omega
          have hkm : (k : Int) < (mm : Int) := by omega
          have hko : (k : Int) < (on : Int) := by omega
          obtain ⟨b1, o1, p, q, rfl, hb1, hc1, hc2, hd1⟩ := HZr.out.pair hkn HZL.out
          obtain ⟨b2, o2, r, rfl, hb2, hc3, hd2⟩ := HEr.out.at (k := k) (by have := HEL.out; omega)
          obtain ⟨b3, o3, xa, xm, rfl, hb3, hc4, hc5, hd3⟩ := HOr.out.pair (show k < on by omega) HOL.out
          obtain ⟨⟨r0, r1, q9⟩, h1, h2, h3⟩ := re_stepN HD.out hd1 hd2
          rw [h3] at hd3
          obtain ⟨e1, hd4⟩ := List.cons.inj hd3
          obtain ⟨e2, _⟩ := List.cons.inj hd4
          rw [e1] at h1 h2
          rw [e2] at h1 h2
          have hng : IntKind.i64.wrap (-r) = -r := by rw [IntKind.wrap_i64]; omega
          have hng0 : IntKind.i64.wrap (0 - r) = -r := by rw [IntKind.wrap_i64]; omega
          have H1 := Lib.hid h1
          have H2 := Lib.hid h2
          have HP0 := Lib.hid (show D1 wr b1 (o1 + k * 2) p from ⟨hc1, hb1⟩)
          have HP1 := Lib.hid (show D1 wr b1 (o1 + k * 2 + 1) q from ⟨hc2, hb1⟩)
          have HP2 := Lib.hid (show D1 wr b2 (o2 + k) r from ⟨hc3, hb2⟩)
          have HP3 := Lib.hid (show D1 wr b3 (o3 + k * 2) xa from ⟨hc4, hb3⟩)
          have HP4 := Lib.hid (show D1 wr b3 (o3 + k * 2 + 1) xm from ⟨hc5, hb3⟩)
          have hgb := HRr.out.lt
          clear h1 h2 h3 hd1 hd2 hd3 hd4 e1 e2 hc1 hc2 hc3 hc4 hc5
          have HG_0 := Lib.hid HRr.out
          go_upto_region 16 with fail
          go_cut [21, 22] (fun s1 s2 wx => ∃ c : Nat, s1 = .pointer (some ⟨c, 0, none⟩) ∧ s2 = .bool true ∧ C2 wx c xa xm ∧ Below wr.heap.size wr wx ∧ wr.heap.size ≤ c)
          case first =>
            have c0_ := (HG_0.out).1
            have c1_ := (HG_0.out).2.1
            have c2_ := (HG_0.out).2.2
            have c3_ := (HP0.out).1
            have c4_ := (HP1.out).1
            have c5_ := (HP2.out).1
            go_region_held3 (fun w' => w'.cell? ⟨v1.heap.size, 0, none⟩ = some (.int .i64 P) ∧ w'.cell? ⟨v1.heap.size, 1, none⟩ = some (.int .i64 Q) ∧ w'.cell? ⟨v1.heap.size, 2, none⟩ = some (.int .i64 G) ∧ w'.cell? ⟨b1, o1 + k * 2, none⟩ = some (.int .i64 p) ∧ w'.cell? ⟨b1, o1 + k * 2 + 1, none⟩ = some (.int .i64 q) ∧ w'.cell? ⟨b2, o2 + k, none⟩ = some (.int .i64 r)) (first | with_reducible exact ⟨xG0, xG1, xG2, xA0, xB0, xD0⟩ | with_reducible exact ⟨cell_pair xG0 (by omega) _ _, cell_pair xG1 (by omega) _ _, cell_pair xG2 (by omega) _ _, cell_pair xA0 (by omega) _ _, cell_pair xB0 (by omega) _ _, cell_pair xD0 (by omega) _ _⟩ | exact ⟨c0_, c1_, c2_, c3_, c4_, c5_⟩ | exact ⟨(Gp.out.below (ba _ _)).1, (Gp.out.below (ba _ _)).2.1, (Gp.out.below (ba _ _)).2.2, (Ap.out.below (ba _ _)).1, (Bp.out.below (ba _ _)).1, (Dp.out.below (ba _ _)).1⟩ | exact ⟨((HG_0.out).below (ba _ _)).1, ((HG_0.out).below (ba _ _)).2.1, ((HG_0.out).below (ba _ _)).2.2, ((HP0.out).below (ba _ _)).1, ((HP1.out).below (ba _ _)).1, ((HP2.out).below (ba _ _)).1⟩) ((first
              | (go_at_call 53; refine (reencrypt_any P Q G key p q r _).mono ?_; rw [H1.out.1, H1.out.2.1, H1.out.2.2]; rintro e vp ⟨rfl, hp⟩; have HBp := Lib.hid (show Below wr.heap.size wr vp from by first | exact bt_drop (Below.refl _ _) hp | exact bt_drop (ba _ _) hp | exact bt (bt_drop (Below.refl _ _) (ba _ _)) hp); (first | (have HLp := Lib.hid (by with_reducible exact vary_g HG_0.out hp)) | (have HLp := Lib.hid (by with_reducible exact vary_g2 HG_0.out hp)) | skip); clear hp; have Gp := Lib.hid (HG_0.out.below HBp.out); have xG0 := Gp.out.1; have xG1 := Gp.out.2.1; have xG2 := Gp.out.2.2; have Ap := Lib.hid (HP0.out.below HBp.out); have xA0 := Ap.out.1; have Bp := Lib.hid (HP1.out.below HBp.out); have xB0 := Bp.out.1; have Dp := Lib.hid (HP2.out.below HBp.out); have xD0 := Dp.out.1; (first | (obtain ⟨⟨l0, l1, lf⟩, ln⟩ := HLp.out; have lf0 := lf 0; have lf1 := lf 1; clear lf) | skip))
              | fail))
            all_goals (
              go_wp2_with fail
              go_meet
              first
                | exact ⟨_, rfl, rfl, HLp.out.1.set _ _, set_up HBp.out _ (by simp) _ _, by simp⟩
                | exact ⟨_, rfl, rfl, c2_new _ _ _ _, bt HBp.out (ba _ _), HBp.out.size⟩)
          case rest =>
            clear HG_0
            obtain ⟨c, rfl, rfl, hX, hB, hcw⟩ := hcut
            have HG_0 := Lib.hid (HRr.out.below hB)
            have HX_0 := Lib.hid hX
            have HE_0 := Lib.hid (HP2.out.below hB)
            have HL_0 := Lib.hid hB
            have hcl := hX.lt
            clear hX hB
            go_upto_region 17 with fail
            go_cut [23, 24] (fun s1 s2 wx => ∃ d : Nat, s1 = .pointer (some ⟨d, 0, none⟩) ∧ s2 = .bool true ∧ C2 wx d p q ∧ C2 wx c xa xm ∧ Below wr.heap.size wr wx)
            case first =>
              have c0_ := (HG_0.out).1
              have c1_ := (HG_0.out).2.1
              have c2_ := (HG_0.out).2.2
              have c3_ := (HX_0.out).1
              have c4_ := (HX_0.out).2.1
              have c5_ := (HE_0.out).1
              go_region_held3 (fun w' => w'.cell? ⟨v1.heap.size, 0, none⟩ = some (.int .i64 P) ∧ w'.cell? ⟨v1.heap.size, 1, none⟩ = some (.int .i64 Q) ∧ w'.cell? ⟨v1.heap.size, 2, none⟩ = some (.int .i64 G) ∧ w'.cell? ⟨c, 0, none⟩ = some (.int .i64 xa) ∧ w'.cell? ⟨c, 1, none⟩ = some (.int .i64 xm) ∧ w'.cell? ⟨b2, o2 + k, none⟩ = some (.int .i64 r)) (first | with_reducible exact ⟨xG0, xG1, xG2, xX0, xX1, xD0⟩ | with_reducible exact ⟨cell_pair xG0 (by omega) _ _, cell_pair xG1 (by omega) _ _, cell_pair xG2 (by omega) _ _, cell_pair xX0 (by omega) _ _, cell_pair xX1 (by omega) _ _, cell_pair xD0 (by omega) _ _⟩ | exact ⟨c0_, c1_, c2_, c3_, c4_, c5_⟩ | exact ⟨(Gp.out.below (ba _ _)).1, (Gp.out.below (ba _ _)).2.1, (Gp.out.below (ba _ _)).2.2, (Xp.out.below (ba _ _)).1, (Xp.out.below (ba _ _)).2.1, (Dp.out.below (ba _ _)).1⟩ | exact ⟨((HG_0.out).below (ba _ _)).1, ((HG_0.out).below (ba _ _)).2.1, ((HG_0.out).below (ba _ _)).2.2, ((HX_0.out).below (ba _ _)).1, ((HX_0.out).below (ba _ _)).2.1, ((HE_0.out).below (ba _ _)).1⟩) ((first
                | (go_at_call 53; refine (reencrypt_any P Q G key xa xm (-r % Q) _).mono ?_; rw [H2.out.1, H2.out.2.1, H2.out.2.2]; rintro e vp ⟨rfl, hp⟩; have HBp := Lib.hid (show Below wc.heap.size wc vp from by first | exact bt_drop (Below.refl _ _) hp | exact bt_drop (ba _ _) hp | exact bt (bt_drop (Below.refl _ _) (ba _ _)) hp); (first | (have HLp := Lib.hid (by with_reducible exact vary_g HG_0.out hp)) | (have HLp := Lib.hid (by with_reducible exact vary_g2 HG_0.out hp)) | skip); clear hp; have Gp := Lib.hid (HG_0.out.below HBp.out); have xG0 := Gp.out.1; have xG1 := Gp.out.2.1; have xG2 := Gp.out.2.2; have Xp := Lib.hid (HX_0.out.below HBp.out); have xX0 := Xp.out.1; have xX1 := Xp.out.2.1; have Dp := Lib.hid (HE_0.out.below HBp.out); have xD0 := Dp.out.1; (first | (obtain ⟨⟨l0, l1, lf⟩, ln⟩ := HLp.out; have lf0 := lf 0; have lf1 := lf 1; clear lf) | skip))
                | (go_at_call 54; refine (qMod_back r Q r0 r1 q9 _).mono ?_; rintro e vq ⟨rfl, rfl⟩)
                | fail))
              all_goals (
                go_wp2_with fail
                go_meet
                first
                  | exact ⟨_, rfl, rfl, HLp.out.1.set _ _, c2_two Xp.out (by omega) _ _, set_up (bt HL_0.out HBp.out) _ (by have := HL_0.out.size; simp; omega) _ _⟩
                  | exact ⟨_, rfl, rfl, c2_new _ _ _ _, Xp.out.below (ba _ _), bt (bt HL_0.out HBp.out) (ba _ _)⟩)
            case rest =>
              clear HG_0 HX_0 HE_0 HL_0
              obtain ⟨d, rfl, rfl, hY, hX, hB⟩ := hcut
              have HL_0 := Lib.hid hB
              have i1 := (HP0.out.below hB).1
              have i2 := (HP1.out.below hB).1
              have i3 := (HP3.out.below hB).1
              have i4 := (HP4.out.below hB).1
              obtain ⟨j1, j2, _⟩ := hY
              obtain ⟨j3, j4, _⟩ := hX
              clear hB
              go_wp2_with fail
              go_quiet (fail)
              go_wp2
              go_roundw
              case rel => exact ⟨k + 1, by omega, by go_num, below_drewN (bt HLr.out HL_0.out) _⟩
              case measure => simp only [intOf]; omega
        · have hkz : (n : Int) ≤ (k : Int) := by omega
          go_wp2
          go_ret
          exact ⟨rfl, bt HV_10.out HLr.out⟩
    · skip
      have HE9 := Lib.hid he
      clear he
      obtain ⟨eS0, eS1, eS2⟩ := HS_5.out
      obtain ⟨eC0, eC1, _⟩ := HC_5.out
      go_wp2_with fail
      refine (powCipher_any P' Q' G' a b x _).mono ?_
      rw [HE9.out]
      rintro e v6 ⟨rfl, hb⟩
      clear eS0 eS1 eS2 eC0 eC1
      have HV_6 := Lib.hid (bt HV_5.out hb)
      have HR_6 := Lib.hid (HR_5.out.below hb)
      have HZ_6 := Lib.hid (HZ_5.out.below hb (Nat.le_refl _))
      have HE_6 := Lib.hid (HE_5.out.below hb (Nat.le_refl _))
      have HO_6 := Lib.hid (HO_5.out.below hb (Nat.le_refl _))
      have HW_6 := Lib.hid (HW_5.out.below hb (Nat.le_refl _))
      have HS_6 := Lib.hid (HS_5.out.below hb)
      have HC_6 := Lib.hid (HC_5.out.below hb)
      clear HV_5 HR_5 HZ_5 HE_5 HO_5 HW_5 HS_5 HC_5
      clear hb
      have hal := ba v6 (.cells #[.int .i64 (pcA P' Q' G' a b x), .int .i64 (pcM P' Q' G' a b x)] 61)
      have HV_7 := Lib.hid (bt HV_6.out hal)
      have HR_7 := Lib.hid (HR_6.out.below hal)
      have HZ_7 := Lib.hid (HZ_6.out.below hal (Nat.le_refl _))
      have HE_7 := Lib.hid (HE_6.out.below hal (Nat.le_refl _))
      have HO_7 := Lib.hid (HO_6.out.below hal (Nat.le_refl _))
      have HW_7 := Lib.hid (HW_6.out.below hal (Nat.le_refl _))
      have HS_7 := Lib.hid (HS_6.out.below hal)
      have HC_7 := Lib.hid (HC_6.out.below hal)
      clear HV_6 HR_6 HZ_6 HE_6 HO_6 HW_6 HS_6 HC_6
      have HX_7 := Lib.hid (c2_new v6 (pcA P' Q' G' a b x) (pcM P' Q' G' a b x) 61)
      clear hal
      obtain ⟨eS0, eS1, eS2⟩ := HS_7.out
      obtain ⟨eC0, eC1, _⟩ := HC_7.out
      go_wp2_with fail
      refine (sPowCipher_any P' Q' G' a b x _).mono ?_
      rw [HE9.out]
      rintro e v8 ⟨rfl, hb⟩
      clear eS0 eS1 eS2 eC0 eC1
      have HV_8 := Lib.hid (bt HV_7.out hb)
      have HR_8 := Lib.hid (HR_7.out.below hb)
      have HZ_8 := Lib.hid (HZ_7.out.below hb (Nat.le_refl _))
      have HE_8 := Lib.hid (HE_7.out.below hb (Nat.le_refl _))
      have HO_8 := Lib.hid (HO_7.out.below hb (Nat.le_refl _))
      have HW_8 := Lib.hid (HW_7.out.below hb (Nat.le_refl _))
      have HS_8 := Lib.hid (HS_7.out.below hb)
      have HC_8 := Lib.hid (HC_7.out.below hb)
      have HX_8 := Lib.hid (HX_7.out.below hb)
      clear HV_7 HR_7 HZ_7 HE_7 HO_7 HW_7 HS_7 HC_7 HX_7
      clear hb
      have hal := ba v8 (.cells #[.int .i64 (pcA P' Q' G' a b x), .int .i64 (pcM P' Q' G' a b x)] 61)
      have HV_9 := Lib.hid (bt HV_8.out hal)
      have HR_9 := Lib.hid (HR_8.out.below hal)
      have HZ_9 := Lib.hid (HZ_8.out.below hal (Nat.le_refl _))
      have HE_9 := Lib.hid (HE_8.out.below hal (Nat.le_refl _))
      have HO_9 := Lib.hid (HO_8.out.below hal (Nat.le_refl _))
      have HW_9 := Lib.hid (HW_8.out.below hal (Nat.le_refl _))
      have HS_9 := Lib.hid (HS_8.out.below hal)
      have HC_9 := Lib.hid (HC_8.out.below hal)
      have HX_9 := Lib.hid (HX_8.out.below hal)
      clear HV_8 HR_8 HZ_8 HE_8 HO_8 HW_8 HS_8 HC_8 HX_8
      have HY_9 := Lib.hid (c2_new v8 (pcA P' Q' G' a b x) (pcM P' Q' G' a b x) 61)
      clear hal
      obtain ⟨eX0, eX1, _⟩ := HX_9.out
      obtain ⟨eY0, eY1, _⟩ := HY_9.out
      have hbd := ra_bound P Q G key zs es
      go_wp2_with fail
      refine (qCiphers_same oa ra on rn oc rc (raV P Q G key zs es) HOL.out HWL.out (by have := HOL.out; omega) _ HO_9.out HW_9.out).mono ?_
      rintro e v10 ⟨rfl, hb⟩
      clear eX0 eX1 eY0 eY1
      have HV_10 := Lib.hid (bt HV_9.out hb)
      have HR_10 := Lib.hid (HR_9.out.below hb)
      have HZ_10 := Lib.hid (HZ_9.out.below hb (Nat.le_refl _))
      have HE_10 := Lib.hid (HE_9.out.below hb (Nat.le_refl _))
      have HO_10 := Lib.hid (HO_9.out.below hb (Nat.le_refl _))
      have HX_10 := Lib.hid (HX_9.out.below hb)
      have HY_10 := Lib.hid (HY_9.out.below hb)
      clear HV_9 HR_9 HZ_9 HE_9 HO_9 HW_9 HS_9 HC_9 HX_9 HY_9
      clear hb
      obtain ⟨eX0, eX1, _⟩ := HX_10.out
      obtain ⟨eY0, eY1, _⟩ := HY_10.out
      obtain ⟨hmn, hon⟩ := ra_lens HD.out HZL.out HEL.out HOL.out
      go_wp2
      go_loopw [97] (fun K wr => ∃ k : Nat, k ≤ n ∧ K = .int .i64 k ∧ Below v10.heap.size v10 wr) (fun K _ => n - (intOf K).toNat)
      case atStart => exact ⟨0, Nat.zero_le _, rfl, Below.refl _ _⟩
      case round =>
        obtain ⟨k, hk, rfl, hbel⟩ := hrel
        have HLr := Lib.hid hbel
        have HRr := Lib.hid (HR_10.out.below hbel)
        have HZr := Lib.hid (HZ_10.out.below hbel (Nat.le_refl _))
        have HEr := Lib.hid (HE_10.out.below hbel (Nat.le_refl _))
        have HOr := Lib.hid (HO_10.out.below hbel (Nat.le_refl _))
        clear hbel eX0 eX1 eY0 eY1
        by_cases hkn : k < n
        · skip
          have hki : (k : Int) < (n : Int) := by omega
          have hkm : (k : Int) < (mm : Int) := by omega
          have hko : (k : Int) < (on : Int) := by omega
          obtain ⟨b1, o1, p, q, rfl, hb1, hc1, hc2, hd1⟩ := HZr.out.pair hkn HZL.out
          obtain ⟨b2, o2, r, rfl, hb2, hc3, hd2⟩ := HEr.out.at (k := k) (by have := HEL.out; omega)
          obtain ⟨b3, o3, xa, xm, rfl, hb3, hc4, hc5, hd3⟩ := HOr.out.pair (show k < on by omega) HOL.out
          obtain ⟨⟨r0, r1, q9⟩, h1, h2, h3⟩ := re_stepN HD.out hd1 hd2
          rw [h3] at hd3
          obtain ⟨e1, hd4⟩ := List.cons.inj hd3
          obtain ⟨e2, _⟩ := List.cons.inj hd4
          rw [e1] at h1 h2
          rw [e2] at h1 h2
          have hng : IntKind.i64.wrap (-r) = -r := by rw [IntKind.wrap_i64]; omega
          have hng0 : IntKind.i64.wrap (0 - r) = -r := by rw [IntKind.wrap_i64]; omega
          have H1 := Lib.hid h1
          have H2 := Lib.hid h2
          have HP0 := Lib.hid (show D1 wr b1 (o1 + k * 2) p from ⟨hc1, hb1⟩)
          have HP1 := Lib.hid (show D1 wr b1 (o1 + k * 2 + 1) q from ⟨hc2, hb1⟩)
          have HP2 := Lib.hid (show D1 wr b2 (o2 + k) r from ⟨hc3, hb2⟩)
          have HP3 := Lib.hid (show D1 wr b3 (o3 + k * 2) xa from ⟨hc4, hb3⟩)
          have HP4 := Lib.hid (show D1 wr b3 (o3 + k * 2 + 1) xm from ⟨hc5, hb3⟩)
          have hgb := HRr.out.lt
          clear h1 h2 h3 hd1 hd2 hd3 hd4 e1 e2 hc1 hc2 hc3 hc4 hc5
          have HG_0 := Lib.hid HRr.out
          go_upto_region 16 with fail
          go_cut [21, 22] (fun s1 s2 wx => ∃ c : Nat, s1 = .pointer (some ⟨c, 0, none⟩) ∧ s2 = .bool true ∧ C2 wx c xa xm ∧ Below wr.heap.size wr wx ∧ wr.heap.size ≤ c)
          case first =>
            have c0_ := (HG_0.out).1
            have c1_ := (HG_0.out).2.1
            have c2_ := (HG_0.out).2.2
            have c3_ := (HP0.out).1
            have c4_ := (HP1.out).1
            have c5_ := (HP2.out).1
            go_region_held3 (fun w' => w'.cell? ⟨v1.heap.size, 0, none⟩ = some (.int .i64 P) ∧ w'.cell? ⟨v1.heap.size, 1, none⟩ = some (.int .i64 Q) ∧ w'.cell? ⟨v1.heap.size, 2, none⟩ = some (.int .i64 G) ∧ w'.cell? ⟨b1, o1 + k * 2, none⟩ = some (.int .i64 p) ∧ w'.cell? ⟨b1, o1 + k * 2 + 1, none⟩ = some (.int .i64 q) ∧ w'.cell? ⟨b2, o2 + k, none⟩ = some (.int .i64 r)) (first | with_reducible exact ⟨xG0, xG1, xG2, xA0, xB0, xD0⟩ | with_reducible exact ⟨cell_pair xG0 (by omega) _ _, cell_pair xG1 (by omega) _ _, cell_pair xG2 (by omega) _ _, cell_pair xA0 (by omega) _ _, cell_pair xB0 (by omega) _ _, cell_pair xD0 (by omega) _ _⟩ | exact ⟨c0_, c1_, c2_, c3_, c4_, c5_⟩ | exact ⟨(Gp.out.below (ba _ _)).1, (Gp.out.below (ba _ _)).2.1, (Gp.out.below (ba _ _)).2.2, (Ap.out.below (ba _ _)).1, (Bp.out.below (ba _ _)).1, (Dp.out.below (ba _ _)).1⟩ | exact ⟨((HG_0.out).below (ba _ _)).1, ((HG_0.out).below (ba _ _)).2.1, ((HG_0.out).below (ba _ _)).2.2, ((HP0.out).below (ba _ _)).1, ((HP1.out).below (ba _ _)).1, ((HP2.out).below (ba _ _)).1⟩) ((first
              | (go_at_call 53; refine (reencrypt_any P Q G key p q r _).mono ?_; rw [H1.out.1, H1.out.2.1, H1.out.2.2]; rintro e vp ⟨rfl, hp⟩; have HBp := Lib.hid (show Below wr.heap.size wr vp from by first | exact bt_drop (Below.refl _ _) hp | exact bt_drop (ba _ _) hp | exact bt (bt_drop (Below.refl _ _) (ba _ _)) hp); (first | (have HLp := Lib.hid (by with_reducible exact vary_g HG_0.out hp)) | (have HLp := Lib.hid (by with_reducible exact vary_g2 HG_0.out hp)) | skip); clear hp; have Gp := Lib.hid (HG_0.out.below HBp.out); have xG0 := Gp.out.1; have xG1 := Gp.out.2.1; have xG2 := Gp.out.2.2; have Ap := Lib.hid (HP0.out.below HBp.out); have xA0 := Ap.out.1; have Bp := Lib.hid (HP1.out.below HBp.out); have xB0 := Bp.out.1; have Dp := Lib.hid (HP2.out.below HBp.out); have xD0 := Dp.out.1; (first | (obtain ⟨⟨l0, l1, lf⟩, ln⟩ := HLp.out; have lf0 := lf 0; have lf1 := lf 1; clear lf) | skip))
              | fail))
            all_goals (
              go_wp2_with fail
              go_meet
              first
                | exact ⟨_, rfl, rfl, HLp.out.1.set _ _, set_up HBp.out _ (by simp) _ _, by simp⟩
                | exact ⟨_, rfl, rfl, c2_new _ _ _ _, bt HBp.out (ba _ _), HBp.out.size⟩)
          case rest =>
            clear HG_0
            obtain ⟨c, rfl, rfl, hX, hB, hcw⟩ := hcut
            have HG_0 := Lib.hid (HRr.out.below hB)
            have HX_0 := Lib.hid hX
            have HE_0 := Lib.hid (HP2.out.below hB)
            have HL_0 := Lib.hid hB
            have hcl := hX.lt
            clear hX hB
            go_upto_region 17 with fail
            go_cut [23, 24] (fun s1 s2 wx => ∃ d : Nat, s1 = .pointer (some ⟨d, 0, none⟩) ∧ s2 = .bool true ∧ C2 wx d p q ∧ C2 wx c xa xm ∧ Below wr.heap.size wr wx)
            case first =>
              have c0_ := (HG_0.out).1
              have c1_ := (HG_0.out).2.1
              have c2_ := (HG_0.out).2.2
              have c3_ := (HX_0.out).1
              have c4_ := (HX_0.out).2.1
              have c5_ := (HE_0.out).1
              go_region_held3 (fun w' => w'.cell? ⟨v1.heap.size, 0, none⟩ = some (.int .i64 P) ∧ w'.cell? ⟨v1.heap.size, 1, none⟩ = some (.int .i64 Q) ∧ w'.cell? ⟨v1.heap.size, 2, none⟩ = some (.int .i64 G) ∧ w'.cell? ⟨c, 0, none⟩ = some (.int .i64 xa) ∧ w'.cell? ⟨c, 1, none⟩ = some (.int .i64 xm) ∧ w'.cell? ⟨b2, o2 + k, none⟩ = some (.int .i64 r)) (first | with_reducible exact ⟨xG0, xG1, xG2, xX0, xX1, xD0⟩ | with_reducible exact ⟨cell_pair xG0 (by omega) _ _, cell_pair xG1 (by omega) _ _, cell_pair xG2 (by omega) _ _, cell_pair xX0 (by omega) _ _, cell_pair xX1 (by omega) _ _, cell_pair xD0 (by omega) _ _⟩ | exact ⟨c0_, c1_, c2_, c3_, c4_, c5_⟩ | exact ⟨(Gp.out.below (ba _ _)).1, (Gp.out.below (ba _ _)).2.1, (Gp.out.below (ba _ _)).2.2, (Xp.out.below (ba _ _)).1, (Xp.out.below (ba _ _)).2.1, (Dp.out.below (ba _ _)).1⟩ | exact ⟨((HG_0.out).below (ba _ _)).1, ((HG_0.out).below (ba _ _)).2.1, ((HG_0.out).below (ba _ _)).2.2, ((HX_0.out).below (ba _ _)).1, ((HX_0.out).below (ba _ _)).2.1, ((HE_0.out).below (ba _ _)).1⟩) ((first
                | (go_at_call 53; refine (reencrypt_any P Q G key xa xm (-r % Q) _).mono ?_; rw [H2.out.1, H2.out.2.1, H2.out.2.2]; rintro e vp ⟨rfl, hp⟩; have HBp := Lib.hid (show Below wc.heap.size wc vp from by first | exact bt_drop (Below.refl _ _) hp | exact bt_drop (ba _ _) hp | exact bt (bt_drop (Below.refl _ _) (ba _ _)) hp); (first | (have HLp := Lib.hid (by with_reducible exact vary_g HG_0.out hp)) | (have HLp := Lib.hid (by with_reducible exact vary_g2 HG_0.out hp)) | skip); clear hp; have Gp := Lib.hid (HG_0.out.below HBp.out); have xG0 := Gp.out.1; have xG1 := Gp.out.2.1; have xG2 := Gp.out.2.2; have Xp := Lib.hid (HX_0.out.below HBp.out); have xX0 := Xp.out.1; have xX1 := Xp.out.2.1; have Dp := Lib.hid (HE_0.out.below HBp.out); have xD0 := Dp.out.1; (first | (obtain ⟨⟨l0, l1, lf⟩, ln⟩ := HLp.out; have lf0 := lf 0; have lf1 := lf 1; clear lf) | skip))
                | (go_at_call 54; refine (qMod_back r Q r0 r1 q9 _).mono ?_; rintro e vq ⟨rfl, rfl⟩)
                | fail))
              all_goals (
                go_wp2_with fail
                go_meet
                first
                  | exact ⟨_, rfl, rfl, HLp.out.1.set _ _, c2_two Xp.out (by omega) _ _, set_up (bt HL_0.out HBp.out) _ (by have := HL_0.out.size; simp; omega) _ _⟩
                  | exact ⟨_, rfl, rfl, c2_new _ _ _ _, Xp.out.below (ba _ _), bt (bt HL_0.out HBp.out) (ba _ _)⟩)
            case rest =>
              clear HG_0 HX_0 HE_0 HL_0
              obtain ⟨d, rfl, rfl, hY, hX, hB⟩ := hcut
              have HL_0 := Lib.hid hB
              have i1 := (HP0.out.below hB).1
              have i2 := (HP1.out.below hB).1
              have i3 := (HP3.out.below hB).1
              have i4 := (HP4.out.below hB).1
              obtain ⟨j1, j2, _⟩ := hY
              obtain ⟨j3, j4, _⟩ := hX
              clear hB
              go_wp2_with fail
              go_quiet (fail)
              go_wp2
              go_roundw
              case rel => exact ⟨k + 1, by omega, by go_num, below_drewN (bt HLr.out HL_0.out) _⟩
              case measure => simp only [intOf]; omega
        · have hkz : (n : Int) ≤ (k : Int) := by omega
          go_wp2
          go_ret
          exact ⟨rfl, bt HV_10.out HLr.out⟩

/-! ### THE ROW's STEP: WRITTEN OUT: LEAVE IT -/
set_option maxRecDepth 100000 in
theorem lifted (os : Os) (started : os.Started) (H : Type) (enc : TypeId × Value → H) :
    ReturnsInHanded {} Try.checked os 11 .any (Rows.fnReencryptionSpec.pre6 enc Try.prog Try.f11 Rows.fnReencryptionRow.domain false) (Rows.fnReencryptionSpec.post enc Try.prog Try.f11 false true false false) := by
  refine returnsInHanded_of_change_sized (C := Try.checked) own started (by kernel_rfl) Try.func11
    (ChangeSpec.witness6 (enc := enc) (C := Try.checked) false ⟨#[], #[.slice none 0 0, .slice none 0 0], []⟩ 8 (by kernel_rfl) (by kernel_rfl) (by kernel_rfl) (by kernel_rfl)) ?_
  intro W base args ds gs before hval0 hW hcnd hsz0 _
  have hsz : (DataW.weightsEach Try.prog (Try.f11.params.toList ++ Rows.fnReencryptionSpec.plain.varTypes Try.prog) (ds ++ gs)).all (· ≤ reachBytes) = true := hsz0
  clear hsz0
  have hval : ∀ (j : Nat) t v, Try.f11.params[j]? = some t → args[j]? = some v → Value.okWide Try.prog W .any base t v := hval0
  have hW' := hW
  obtain ⟨p, q, hA0, hV, rfl, hfz, hnd⟩ := hW
  have hA : DataW.TrodAll enc Try.prog W 0 (fun _ => true) true Try.f11.params.toList args.toList ds p := hA0
  rw [Try.params11] at hA hval hsz
  obtain ⟨v0, vs0, d0, ds0, p0, q0, hargs, rfl, rfl, h0, r0⟩ := trodAll_cons hA
  obtain ⟨v1, vs1, d1, ds1, p1, q1, rfl, rfl, rfl, h1, r1⟩ := trodAll_cons r0
  obtain ⟨rfl, rfl, rfl⟩ := trodAll_nil r1
  obtain rfl : args = #[v0, v1] := by cases args; simp_all
  obtain ⟨rfl, rfl⟩ := trodVars_none hV
  obtain ⟨a0, len0, cap0, rfl⟩ := okWide_slice Try.underlying32 (hval 0 32 v0 rfl rfl)
  have k0 := h0
  have lt0 : ∀ x ∈ p0, x.block < W.heap.size := by obtain ⟨m, hm⟩ := k0; exact DataW.trod_lt m _ _ _ hm
  obtain ⟨z0, w0, s0⟩ : ∃ zs, IsRow .u8 W a0 len0 cap0 zs ∧ len0 ≤ 140737488351232 := by
    obtain ⟨fuel, hf⟩ := h0
    rcases open_ints Try.underlying32 Try.underlying5 (by kernel_rfl) hf with ⟨hcs, hx⟩ | ⟨x, l, c, zs, hcs, _, hl, hm, hz, hx, hcell, hwz⟩
    · simp [Value.cells] at hcs
      obtain ⟨rfl, rfl, rfl⟩ := hcs
      exact ⟨[], .inl ⟨rfl, rfl, rfl, rfl⟩, by decide⟩
    · simp [Value.cells] at hcs
      obtain ⟨rfl, rfl, rfl⟩ := hcs
      simp only [Prod.mk.injEq] at hx
      have hq := sized_slice hsz (j := 0) (t := 32) (e := 5) rfl (congrArg some hx.1) Try.underlying32
      rw [bytes5] at hq
      simp only [lits, List.length_map, List.length_take, List.length_drop, reachBytes] at hq
      simp only [if_true] at hz
      exact ⟨zs, .inr ⟨_, rfl, hl, hm, by simpa using hz, hcell, hwz⟩, by omega⟩
  obtain ⟨a1, len1, cap1, rfl⟩ := okWide_slice Try.underlying32 (hval 1 32 v1 rfl rfl)
  have k1 := h1
  have lt1 : ∀ x ∈ p1, x.block < W.heap.size := by obtain ⟨m, hm⟩ := k1; exact DataW.trod_lt m _ _ _ hm
  obtain ⟨z1, w1, s1⟩ : ∃ zs, IsRow .u8 W a1 len1 cap1 zs ∧ len1 ≤ 140737488351232 := by
    obtain ⟨fuel, hf⟩ := h1
    rcases open_ints Try.underlying32 Try.underlying5 (by kernel_rfl) hf with ⟨hcs, hx⟩ | ⟨x, l, c, zs, hcs, _, hl, hm, hz, hx, hcell, hwz⟩
    · simp [Value.cells] at hcs
      obtain ⟨rfl, rfl, rfl⟩ := hcs
      exact ⟨[], .inl ⟨rfl, rfl, rfl, rfl⟩, by decide⟩
    · simp [Value.cells] at hcs
      obtain ⟨rfl, rfl, rfl⟩ := hcs
      simp only [Prod.mk.injEq] at hx
      have hq := sized_slice hsz (j := 1) (t := 32) (e := 5) rfl (congrArg some hx.1) Try.underlying32
      rw [bytes5] at hq
      simp only [lits, List.length_map, List.length_take, List.length_drop, reachBytes] at hq
      simp only [if_true] at hz
      exact ⟨zs, .inr ⟨_, rfl, hl, hm, by simpa using hz, hcell, hwz⟩, by omega⟩
  clear hA0 hval0
  refine (walk a0 len0 cap0 z0 a1 len1 cap1 z1 W w0 w1 s0 s1).mono fun e W' ⟨he, bel⟩ => ?_
  subst he
  exact ⟨_, rfl, _, _, _, [], _, [], hW', trodAll_mk1 (shut_bool Try.underlying4 _), (trodAll_cons_mk (Below.trod laidOut (by kernel_rfl) (of_decide_eq_true (by kernel_rfl)) k0 bel lt0) (trodAll_cons_mk (Below.trod laidOut (by kernel_rfl) (of_decide_eq_true (by kernel_rfl)) k1 bel lt1) trodAll_mk0)), rfl, bel.frame _, fun h => by cases h⟩

theorem over : Rows.fnReencryptionRow.holds Try.pinned (OpenSpec.ofChange Rows.fnReencryptionSpec) :=
  OpenClaim.holds_of_wide 11 Try.f11 rfl rfl rfl rfl rfl rfl rfl ⟨rfl, rfl, rfl, rfl, rfl⟩ rfl rfl rfl rfl rfl (by kernel_rfl) Try.func11
    (show joinedFacts Try.prog 11 Try.f11 Rows.fnReencryptionSpec Rows.fnReencryptionRow = true by unfold joinedFacts; rw [Head.make, Head.lifts, Head.enters]; kernel_rfl)
    (of_decide_eq_true (by kernel_rfl)) (by unfold Func.isWrapper; first | (rw [if_pos (by decide +kernel)]; kernel_rfl) | (rw [if_neg (by decide +kernel)]; exact ⟨rfl, rfl⟩))
    (fun os started H enc _ => lifted os started H enc)

/-- ████ THE STATEMENT ████ -/
theorem proved : Rows.FnReencryptionSaid := over
#print axioms proved
end Go.Proofs.Ytafoenoilcgjdaa.fnReencryption
