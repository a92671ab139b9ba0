/-
For all bytes the law FnEncryption returns true: for what is drawn the program encrypts and decrypts as the reference does, decryption inverts encryption, and re-encryption keeps the message.
No condition.
-/
import Derived.Test.YtmihnohnfdjcaaaRows
import Derived.WalkKit
import Derived.ProofKit
import Derived.OpenShut
import Derived.SizedLaws
import Derived.ShutString
import Derived.ChangeOld
import Derived.Below
import Derived.Deep.DeepCutAuto
import Derived.Test.YtmihnohnfdjcaaaElQ
import Derived.Test.YtmihnohnfdjcaaaFacts
namespace Go.Proofs.Ytmihnohnfdjcaaa.fnEncryption
open Go.ChangeShapes Go.WideShapes Go.ChangeAt Go.RowKit
open Go.ChangeMaps (open_string shut_string)
set_option linter.unusedVariables false

theorem own : ownKnob Try.prog.godebug = none := by kernel_rfl
theorem laidOut : laidOutB Try.prog = true := by kernel_rfl

theorem bytes5 : Try.prog.bytesOf 5 = 1 := by kernel_rfl

/-- WHAT THE WALK IS TOLD OF A SLICE OF INTEGERS THAT CAME IN: it is nil; or it leads to a row of 'cap' cells, the numbers 'zs' (the first 'len' are its elements, the rest its spare room), each fitting its kind. -/
def IsRow (k : IntKind) (w : World) (a : Option Addr) (len cap : Nat) (zs : List Int) : Prop :=
  (a = none ∧ len = 0 ∧ cap = 0 ∧ zs = []) ∨
  ∃ x, a = some x ∧ len ≤ cap ∧ cap ≤ maxLen ∧ zs.length = cap ∧ (∀ i, i < zs.length → w.cell? (x.add i) = some (.int k (zs.getD i 0))) ∧ ∀ n ∈ zs, (Lit.int k n).wf = true



/-! ### STEP 1: THE WALK: the Go text returns true, AND WRITES NOTHING THAT WAS THERE: 'Below w.heap.size w w'' (Derived/Below.lean: '.refl', '.alloc', '.drew', '.setCell' at a new block, '.trans'). Open each 'IsRow' by 'rcases' AHEAD of 'go_enter'; part every test ahead of the walk. -/
set_option maxRecDepth 100000 in
set_option maxHeartbeats 3200000 in
theorem walk (a0 : Option Addr) (len0 cap0 : Nat) (z0 : List Int) (a1 : Option Addr) (len1 cap1 : Nat) (z1 : List Int) (w : World) (w0 : IsRow .u8 w a0 len0 cap0 z0) (w1 : IsRow .u8 w a1 len1 cap1 z1) (s0 : len0 ≤ 140737488351232) (s1 : len1 ≤ 140737488351232) :
    Calls Try.prog 3 #[.slice a0 len0 cap0, .slice a1 len1 cap1] w fun e w' => e = .returned (.bool true) ∧ Below w.heap.size w w' := by
  have hb0 := isB_of_row w0
  have hb1 := isB_of_row w1
  clear w0 w1
  by_cases hbig : 1048576 < (len0 : Int) + len1
  · go_enter Try.func3, Try.ntmps3
    go_wp2
    go_ret
    exact ⟨rfl, Below.refl _ _⟩
  have HB0 := Lib.hid hb0
  have HB1 := Lib.hid hb1
  have hL0 : (len0 : Int) ≤ 1048576 := by omega
  have hL1 : (len1 : Int) ≤ 1048576 := by omega
  clear hb0 hb1
  go_enter Try.func3, Try.ntmps3
  go_wp2_with fail
  refine (drawDecryptElement_any _ _ _ _ HB0.out).mono ?_
  rintro e v1 ⟨P, Q, G, s, a, b, rfl, _, hv1⟩
  have hw1 : w.heap.size ≤ v1.heap.size := hv1.size
  have hal := ba v1 (.cells #[.int .i64 P, .int .i64 Q, .int .i64 G] 24)
  have hal2 := ba (v1.alloc (.cells #[.int .i64 P, .int .i64 Q, .int .i64 G] 24)) (.cells #[.int .i64 (a), .int .i64 (b)] 26)
  have HV_1 := Lib.hid (bt (bt hv1 hal) hal2)
  have HR_1 := Lib.hid ((gr_new v1 P Q G 24).below hal2)
  have HC_1 := Lib.hid (c2_at (v1.alloc (.cells #[.int .i64 P, .int .i64 Q, .int .i64 G] 24)) (v1.heap.size + 1) (by simp) a b 26)
  clear hv1 hal hal2 hbig
  cases hd : decB P Q G s a b
  · skip
    have HD := Lib.hid hd
    clear hd
    obtain ⟨eR0, eR1, eR2⟩ := HR_1.out
    obtain ⟨eC0, eC1, _⟩ := HC_1.out
    go_wp2_with fail
    refine (decryptElement_any P Q G s a b _).mono ?_
    rw [HD.out]
    rintro e v2 ⟨rfl, hb⟩
    clear eR0 eR1 eR2 eC0 eC1
    have HV_2 := Lib.hid (bt HV_1.out hb)
    have HR_2 := Lib.hid (HR_1.out.below hb)
    have HC_2 := Lib.hid (HC_1.out.below hb)
    clear HV_1 HR_1 HC_1
    clear hb
    obtain ⟨eR0, eR1, eR2⟩ := HR_2.out
    obtain ⟨eC0, eC1, _⟩ := HC_2.out
    go_wp2_with fail
    refine (sDecryptElement_any P Q G s a b _).mono ?_
    rw [HD.out]
    rintro e v3 ⟨rfl, hb⟩
    clear eR0 eR1 eR2 eC0 eC1
    have HV_3 := Lib.hid (bt HV_2.out hb)
    have HR_3 := Lib.hid (HR_2.out.below hb)
    have HC_3 := Lib.hid (HC_2.out.below hb)
    clear HV_2 HR_2 HC_2
    clear hb
    go_wp2_with fail
    refine (drawEncryptElement_any _ _ _ _ (HB1.out.below HV_3.out)).mono ?_
    rintro e v4 ⟨P', Q', G', x, y, z, rfl, _, hb⟩
    have HV_4 := Lib.hid (bt HV_3.out hb)
    have HR_4 := Lib.hid (HR_3.out.below hb)
    have HC_4 := Lib.hid (HC_3.out.below hb)
    clear HV_3 HR_3 HC_3
    clear hb
    have hal := ba v4 (.cells #[.int .i64 P', .int .i64 Q', .int .i64 G'] 24)
    have HV_5 := Lib.hid (bt HV_4.out hal)
    have HR_5 := Lib.hid (HR_4.out.below hal)
    have HC_5 := Lib.hid (HC_4.out.below hal)
    clear HV_4 HR_4 HC_4
    have HS_5 := Lib.hid (gr_new v4 P' Q' G' 24)
    clear hal
    cases he : encB P' Q' G' x y z
    · skip
      have HE := Lib.hid he
      clear he
      obtain ⟨eS0, eS1, eS2⟩ := HS_5.out
      go_wp2_with fail
      refine (encryptElement_any P' Q' G' x y z _).mono ?_
      rw [HE.out]
      rintro e v6 ⟨rfl, hb⟩
      clear eS0 eS1 eS2
      have HV_6 := Lib.hid (bt HV_5.out hb)
      have HR_6 := Lib.hid (HR_5.out.below hb)
      have HC_6 := Lib.hid (HC_5.out.below hb)
      have HS_6 := Lib.hid (HS_5.out.below hb)
      clear HV_5 HR_5 HC_5 HS_5
      clear hb
      have hal := ba v6 (.cells #[.int .i64 (encA P' Q' G' x y z), .int .i64 (encM P' Q' G' x y z)] 26)
      have HV_7 := Lib.hid (bt HV_6.out hal)
      have HR_7 := Lib.hid (HR_6.out.below hal)
      have HC_7 := Lib.hid (HC_6.out.below hal)
      have HS_7 := Lib.hid (HS_6.out.below hal)
      clear HV_6 HR_6 HC_6 HS_6
      have HX_7 := Lib.hid (c2_new v6 (encA P' Q' G' x y z) (encM P' Q' G' x y z) 26)
      clear hal
      obtain ⟨eS0, eS1, eS2⟩ := HS_7.out
      go_wp2_with fail
      refine (sEncryptElement_any P' Q' G' x y z _).mono ?_
      rw [HE.out]
      rintro e v8 ⟨rfl, hb⟩
      clear eS0 eS1 eS2
      have HV_8 := Lib.hid (bt HV_7.out hb)
      have HR_8 := Lib.hid (HR_7.out.below hb)
      have HC_8 := Lib.hid (HC_7.out.below hb)
      have HS_8 := Lib.hid (HS_7.out.below hb)
      have HX_8 := Lib.hid (HX_7.out.below hb)
      clear HV_7 HR_7 HC_7 HS_7 HX_7
      clear hb
      have hal := ba v8 (.cells #[.int .i64 (encA P' Q' G' x y z), .int .i64 (encM P' Q' G' x y z)] 26)
      have HV_9 := Lib.hid (bt HV_8.out hal)
      have HR_9 := Lib.hid (HR_8.out.below hal)
      have HC_9 := Lib.hid (HC_8.out.below hal)
      have HS_9 := Lib.hid (HS_8.out.below hal)
      have HX_9 := Lib.hid (HX_8.out.below hal)
      clear HV_8 HR_8 HC_8 HS_8 HX_8
      have HY_9 := Lib.hid (c2_new v8 (encA P' Q' G' x y z) (encM P' Q' G' x y z) 26)
      clear hal
      obtain ⟨eX0, eX1, _⟩ := HX_9.out
      obtain ⟨eY0, eY1, _⟩ := HY_9.out
      obtain ⟨eS0, eS1, eS2⟩ := HS_9.out
      go_wp2
      go_ret
      exact ⟨rfl, HV_9.out⟩
    · skip
      have HW := Lib.hid (enc_cip he)
      have HE := Lib.hid he
      clear he
      obtain ⟨eS0, eS1, eS2⟩ := HS_5.out
      go_wp2_with fail
      refine (encryptElement_any P' Q' G' x y z _).mono ?_
      rw [HE.out]
      rintro e v6 ⟨rfl, hb⟩
      clear eS0 eS1 eS2
      have HV_6 := Lib.hid (bt HV_5.out hb)
      have HR_6 := Lib.hid (HR_5.out.below hb)
      have HC_6 := Lib.hid (HC_5.out.below hb)
      have HS_6 := Lib.hid (HS_5.out.below hb)
      clear HV_5 HR_5 HC_5 HS_5
      clear hb
      have hal := ba v6 (.cells #[.int .i64 (encA P' Q' G' x y z), .int .i64 (encM P' Q' G' x y z)] 26)
      have HV_7 := Lib.hid (bt HV_6.out hal)
      have HR_7 := Lib.hid (HR_6.out.below hal)
      have HC_7 := Lib.hid (HC_6.out.below hal)
      have HS_7 := Lib.hid (HS_6.out.below hal)
      clear HV_6 HR_6 HC_6 HS_6
      have HX_7 := Lib.hid (c2_new v6 (encA P' Q' G' x y z) (encM P' Q' G' x y z) 26)
      clear hal
      obtain ⟨eS0, eS1, eS2⟩ := HS_7.out
      go_wp2_with fail
      refine (sEncryptElement_any P' Q' G' x y z _).mono ?_
      rw [HE.out]
      rintro e v8 ⟨rfl, hb⟩
      clear eS0 eS1 eS2
      have HV_8 := Lib.hid (bt HV_7.out hb)
      have HR_8 := Lib.hid (HR_7.out.below hb)
      have HC_8 := Lib.hid (HC_7.out.below hb)
      have HS_8 := Lib.hid (HS_7.out.below hb)
      have HX_8 := Lib.hid (HX_7.out.below hb)
      clear HV_7 HR_7 HC_7 HS_7 HX_7
      clear hb
      have hal := ba v8 (.cells #[.int .i64 (encA P' Q' G' x y z), .int .i64 (encM P' Q' G' x y z)] 26)
      have HV_9 := Lib.hid (bt HV_8.out hal)
      have HR_9 := Lib.hid (HR_8.out.below hal)
      have HC_9 := Lib.hid (HC_8.out.below hal)
      have HS_9 := Lib.hid (HS_8.out.below hal)
      have HX_9 := Lib.hid (HX_8.out.below hal)
      clear HV_8 HR_8 HC_8 HS_8 HX_8
      have HY_9 := Lib.hid (c2_new v8 (encA P' Q' G' x y z) (encM P' Q' G' x y z) 26)
      clear hal
      obtain ⟨eX0, eX1, _⟩ := HX_9.out
      obtain ⟨eY0, eY1, _⟩ := HY_9.out
      obtain ⟨eS0, eS1, eS2⟩ := HS_9.out
      go_wp2_with fail
      refine (isValidCipher_any P' Q' G' (encA P' Q' G' x y z) (encM P' Q' G' x y z) _).mono ?_
      rw [HW.out]
      rintro e v10 ⟨rfl, hb⟩
      clear eX0 eX1 eY0 eY1 eS0 eS1 eS2
      have HV_10 := Lib.hid (bt HV_9.out hb)
      have HR_10 := Lib.hid (HR_9.out.below hb)
      have HC_10 := Lib.hid (HC_9.out.below hb)
      clear HV_9 HR_9 HC_9 HS_9 HX_9 HY_9
      clear hb
      go_wp2
      go_ret
      exact ⟨rfl, HV_10.out⟩
  · skip
    obtain ⟨hq2, hq9⟩ := dec_q hd
    have hqz : Q ≠ 0 := by omega
    obtain ⟨k, m, ra, rm, ea, em, hk, hm, hre, hrd, hee, hed⟩ := enc_all hd (Int.emod_nonneg (len1 : Int) hqz) (Int.emod_lt_of_pos _ (by omega)) (Int.emod_nonneg (len0 : Int) hqz) (Int.emod_lt_of_pos _ (by omega))
    have HK := Lib.hid hk
    have HM := Lib.hid hm
    have HRE := Lib.hid hre
    have HRD := Lib.hid hrd
    have HEE := Lib.hid hee
    have HED := Lib.hid hed
    clear hk hm hre hrd hee hed
    have HD := Lib.hid hd
    clear hd
    obtain ⟨eR0, eR1, eR2⟩ := HR_1.out
    obtain ⟨eC0, eC1, _⟩ := HC_1.out
    go_wp2_with fail
    refine (decryptElement_any P Q G s a b _).mono ?_
    rw [HD.out, HM.out]
    rintro e v2 ⟨rfl, hb⟩
    clear eR0 eR1 eR2 eC0 eC1
    have HV_2 := Lib.hid (bt HV_1.out hb)
    have HR_2 := Lib.hid (HR_1.out.below hb)
    have HC_2 := Lib.hid (HC_1.out.below hb)
    clear HV_1 HR_1 HC_1
    clear hb
    obtain ⟨eR0, eR1, eR2⟩ := HR_2.out
    obtain ⟨eC0, eC1, _⟩ := HC_2.out
    go_wp2_with fail
    refine (sDecryptElement_any P Q G s a b _).mono ?_
    rw [HD.out, HM.out]
    rintro e v3 ⟨rfl, hb⟩
    clear eR0 eR1 eR2 eC0 eC1
    have HV_3 := Lib.hid (bt HV_2.out hb)
    have HR_3 := Lib.hid (HR_2.out.below hb)
    have HC_3 := Lib.hid (HC_2.out.below hb)
    clear HV_2 HR_2 HC_2
    clear hb
    go_wp2_with fail
    refine (drawEncryptElement_any _ _ _ _ (HB1.out.below HV_3.out)).mono ?_
    rintro e v4 ⟨P', Q', G', x, y, z, rfl, _, hb⟩
    have HV_4 := Lib.hid (bt HV_3.out hb)
    have HR_4 := Lib.hid (HR_3.out.below hb)
    have HC_4 := Lib.hid (HC_3.out.below hb)
    clear HV_3 HR_3 HC_3
    clear hb
    have hal := ba v4 (.cells #[.int .i64 P', .int .i64 Q', .int .i64 G'] 24)
    have HV_5 := Lib.hid (bt HV_4.out hal)
    have HR_5 := Lib.hid (HR_4.out.below hal)
    have HC_5 := Lib.hid (HC_4.out.below hal)
    clear HV_4 HR_4 HC_4
    have HS_5 := Lib.hid (gr_new v4 P' Q' G' 24)
    clear hal
    cases he : encB P' Q' G' x y z
    · skip
      have HE := Lib.hid he
      clear he
      obtain ⟨eS0, eS1, eS2⟩ := HS_5.out
      go_wp2_with fail
      refine (encryptElement_any P' Q' G' x y z _).mono ?_
      rw [HE.out]
      rintro e v6 ⟨rfl, hb⟩
      clear eS0 eS1 eS2
      have HV_6 := Lib.hid (bt HV_5.out hb)
      have HR_6 := Lib.hid (HR_5.out.below hb)
      have HC_6 := Lib.hid (HC_5.out.below hb)
      have HS_6 := Lib.hid (HS_5.out.below hb)
      clear HV_5 HR_5 HC_5 HS_5
      clear hb
      have hal := ba v6 (.cells #[.int .i64 (encA P' Q' G' x y z), .int .i64 (encM P' Q' G' x y z)] 26)
      have HV_7 := Lib.hid (bt HV_6.out hal)
      have HR_7 := Lib.hid (HR_6.out.below hal)
      have HC_7 := Lib.hid (HC_6.out.below hal)
      have HS_7 := Lib.hid (HS_6.out.below hal)
      clear HV_6 HR_6 HC_6 HS_6
      have HX_7 := Lib.hid (c2_new v6 (encA P' Q' G' x y z) (encM P' Q' G' x y z) 26)
      clear hal
      obtain ⟨eS0, eS1, eS2⟩ := HS_7.out
      go_wp2_with fail
      refine (sEncryptElement_any P' Q' G' x y z _).mono ?_
      rw [HE.out]
      rintro e v8 ⟨rfl, hb⟩
      clear eS0 eS1 eS2
      have HV_8 := Lib.hid (bt HV_7.out hb)
      have HR_8 := Lib.hid (HR_7.out.below hb)
      have HC_8 := Lib.hid (HC_7.out.below hb)
      have HS_8 := Lib.hid (HS_7.out.below hb)
      have HX_8 := Lib.hid (HX_7.out.below hb)
      clear HV_7 HR_7 HC_7 HS_7 HX_7
      clear hb
      have hal := ba v8 (.cells #[.int .i64 (encA P' Q' G' x y z), .int .i64 (encM P' Q' G' x y z)] 26)
      have HV_9 := Lib.hid (bt HV_8.out hal)
      have HR_9 := Lib.hid (HR_8.out.below hal)
      have HC_9 := Lib.hid (HC_8.out.below hal)
      have HS_9 := Lib.hid (HS_8.out.below hal)
      have HX_9 := Lib.hid (HX_8.out.below hal)
      clear HV_8 HR_8 HC_8 HS_8 HX_8
      have HY_9 := Lib.hid (c2_new v8 (encA P' Q' G' x y z) (encM P' Q' G' x y z) 26)
      clear hal
      obtain ⟨eX0, eX1, _⟩ := HX_9.out
      obtain ⟨eY0, eY1, _⟩ := HY_9.out
      obtain ⟨eS0, eS1, eS2⟩ := HS_9.out
      obtain ⟨eR0, eR1, eR2⟩ := HR_9.out
      go_wp2_with fail
      refine (keyOf_any P Q G s _).mono ?_
      rw [HK.out.1, HK.out.2]
      rintro e v10 ⟨rfl, hb⟩
      clear eX0 eX1 eY0 eY1 eS0 eS1 eS2 eR0 eR1 eR2
      have HV_10 := Lib.hid (bt HV_9.out hb)
      have HR_10 := Lib.hid (HR_9.out.below hb)
      have HC_10 := Lib.hid (HC_9.out.below hb)
      clear HV_9 HR_9 HC_9 HS_9 HX_9 HY_9
      clear hb
      have G_0 := Lib.hid HR_10.out
      have C_0 := Lib.hid HC_10.out
      have B_0 := Lib.hid HV_10.out
      clear HV_10 HR_10 HC_10
      go_upto_region 16 with fail
      go_cut [22, 23] (fun s1 s2 wx => ∃ c : Nat, s1 = .pointer (some ⟨c, 0, none⟩) ∧ s2 = .bool true ∧ C2 wx c ra rm ∧ GR wx v1.heap.size P Q G ∧ C2 wx (v1.heap.size + 1) a b ∧ Below w.heap.size w wx)
      case first =>
        obtain ⟨c0, c1, c2⟩ := G_0.out
        obtain ⟨ca0, ca1, _⟩ := C_0.out
        go_region_held3 (fun w' => w'.cell? ⟨v1.heap.size, 0, none⟩ = some (.int .i64 P) ∧ w'.cell? ⟨v1.heap.size, 1, none⟩ = some (.int .i64 Q) ∧ w'.cell? ⟨v1.heap.size, 2, none⟩ = some (.int .i64 G) ∧ w'.cell? ⟨v1.heap.size + 1, 0, none⟩ = some (.int .i64 a) ∧ w'.cell? ⟨v1.heap.size + 1, 1, none⟩ = some (.int .i64 b)) (first | with_reducible exact ⟨x0, x1, x2, y0, y1⟩ | with_reducible exact ⟨cell_pair x0 (by omega) _ _, cell_pair x1 (by omega) _ _, cell_pair x2 (by omega) _ _, cell_pair y0 (by omega) _ _, cell_pair y1 (by omega) _ _⟩ | exact ⟨x0, x1, x2, y0, y1⟩ | exact ⟨c0, c1, c2, ca0, ca1⟩ | exact ⟨((HGp.out.below (ba _ _))).1, ((HGp.out.below (ba _ _))).2.1, ((HGp.out.below (ba _ _))).2.2, (HCp.out.below (ba _ _)).1, (HCp.out.below (ba _ _)).2.1⟩ | exact ⟨(gr_drop G_0.out (ba _ _)).1, (gr_drop G_0.out (ba _ _)).2.1, (gr_drop G_0.out (ba _ _)).2.2, (c2_drop C_0.out (ba _ _)).1, (c2_drop C_0.out (ba _ _)).2.1⟩) ((first
          | (go_at_call 26; refine (reencrypt_any P Q G k a b ((len1 : Int) % Q) _).mono ?_; rw [HRE.out.1, HRE.out.2.1, HRE.out.2.2]; rintro e vp ⟨rfl, hp⟩; (first | (have HLp := Lib.hid (by with_reducible exact vary_drop C_0.out hp)) | (have HLp := Lib.hid (by with_reducible exact vary_new C_0.out.drew hp)) | skip); have HBp := Lib.hid (show Below w.heap.size w vp from by first | exact bt_drop B_0.out hp | exact bt_drop (bt B_0.out (ba _ _)) hp | exact bt (bt_drop B_0.out (ba _ _)) hp); have HGp := Lib.hid (show GR vp v1.heap.size P Q G from by first | exact gr_drop G_0.out hp | exact gr_drop ((G_0.out).below (ba _ _)) hp | exact ((gr_drop G_0.out (ba _ _))).below hp); have HCp := Lib.hid (show C2 vp (v1.heap.size + 1) a b from by first | exact c2_drop C_0.out hp | exact c2_drop ((C_0.out).below (ba _ _)) hp | exact ((c2_drop C_0.out (ba _ _))).below hp); clear hp; obtain ⟨x0, x1, x2⟩ := HGp.out; obtain ⟨y0, y1, _⟩ := HCp.out; (first | (obtain ⟨⟨l0, l1, lf⟩, ln⟩ := HLp.out; have lf0 := lf 0; have lf1 := lf 1; clear lf) | skip))
          | (go_at_call 27; refine (qMod_any (len1 : Int) Q (by omega) (by omega) (by omega) (by omega) _).mono ?_; rintro e vq ⟨rfl, rfl⟩)
          | fail))
        all_goals (
          go_wp2_with fail
          go_meet
          first
            | exact ⟨_, rfl, rfl, HLp.out.1.set _ _, gr_pair HGp.out (by omega) _ _, c2_two HCp.out (by omega) _ _, set_below HBp.out _ (by omega) _ _⟩
            | exact ⟨_, rfl, rfl, c2_new _ _ _ _, HGp.out.below (ba _ _), HCp.out.below (ba _ _), bt HBp.out (ba _ _)⟩)
      case rest =>
        clear B_0 G_0 C_0
        obtain ⟨c, rfl, rfl, hX, hG, hC, hB⟩ := hcut
        have X_0 := Lib.hid hX
        have R_0 := Lib.hid hG
        have Z_0 := Lib.hid hC
        have V_0 := Lib.hid hB
        clear hX hG hC hB
        obtain ⟨g0, g1, g2⟩ := R_0.out
        obtain ⟨q0, q1, _⟩ := X_0.out
        go_wp2_with fail
        refine (decryptElement_any P Q G s ra rm _).mono ?_
        rw [HRD.out.1, HRD.out.2]
        rintro e u1 ⟨rfl, hb⟩
        have G_0 := Lib.hid (R_0.out.below hb)
        have C_0 := Lib.hid (Z_0.out.below hb)
        have B_0 := Lib.hid (bt V_0.out hb)
        clear hb g0 g1 g2 q0 q1 X_0 R_0 Z_0 V_0
        go_upto_region 18 with fail
        go_cut [26, 27] (fun s1 s2 wx => ∃ c : Nat, s1 = .pointer (some ⟨c, 0, none⟩) ∧ s2 = .bool true ∧ C2 wx c ea em ∧ GR wx v1.heap.size P Q G ∧ Below w.heap.size w wx)
        case first =>
          obtain ⟨c0, c1, c2⟩ := G_0.out
          obtain ⟨ca0, ca1, _⟩ := C_0.out
          go_region_held3 (fun w' => w'.cell? ⟨v1.heap.size, 0, none⟩ = some (.int .i64 P) ∧ w'.cell? ⟨v1.heap.size, 1, none⟩ = some (.int .i64 Q) ∧ w'.cell? ⟨v1.heap.size, 2, none⟩ = some (.int .i64 G) ∧ w'.cell? ⟨v1.heap.size + 1, 0, none⟩ = some (.int .i64 a) ∧ w'.cell? ⟨v1.heap.size + 1, 1, none⟩ = some (.int .i64 b)) (first | with_reducible exact ⟨x0, x1, x2, y0, y1⟩ | with_reducible exact ⟨cell_pair x0 (by omega) _ _, cell_pair x1 (by omega) _ _, cell_pair x2 (by omega) _ _, cell_pair y0 (by omega) _ _, cell_pair y1 (by omega) _ _⟩ | exact ⟨x0, x1, x2, y0, y1⟩ | exact ⟨c0, c1, c2, ca0, ca1⟩ | exact ⟨((HGp.out.below (ba _ _))).1, ((HGp.out.below (ba _ _))).2.1, ((HGp.out.below (ba _ _))).2.2, (HCp.out.below (ba _ _)).1, (HCp.out.below (ba _ _)).2.1⟩ | exact ⟨(gr_drop G_0.out (ba _ _)).1, (gr_drop G_0.out (ba _ _)).2.1, (gr_drop G_0.out (ba _ _)).2.2, (c2_drop C_0.out (ba _ _)).1, (c2_drop C_0.out (ba _ _)).2.1⟩) ((first
            | (go_at_call 22; refine (encryptElement_any P Q G k m ((len0 : Int) % Q) _).mono ?_; rw [HEE.out.1, HEE.out.2.1, HEE.out.2.2]; rintro e vp ⟨rfl, hp⟩; (first | (have HLp := Lib.hid (by with_reducible exact vary_drop C_0.out hp)) | (have HLp := Lib.hid (by with_reducible exact vary_new C_0.out.drew hp)) | skip); have HBp := Lib.hid (show Below w.heap.size w vp from by first | exact bt_drop B_0.out hp | exact bt_drop (bt B_0.out (ba _ _)) hp | exact bt (bt_drop B_0.out (ba _ _)) hp); have HGp := Lib.hid (show GR vp v1.heap.size P Q G from by first | exact gr_drop G_0.out hp | exact gr_drop ((G_0.out).below (ba _ _)) hp | exact ((gr_drop G_0.out (ba _ _))).below hp); have HCp := Lib.hid (show C2 vp (v1.heap.size + 1) a b from by first | exact c2_drop C_0.out hp | exact c2_drop ((C_0.out).below (ba _ _)) hp | exact ((c2_drop C_0.out (ba _ _))).below hp); clear hp; obtain ⟨x0, x1, x2⟩ := HGp.out; obtain ⟨y0, y1, _⟩ := HCp.out; (first | (obtain ⟨⟨l0, l1, lf⟩, ln⟩ := HLp.out; have lf0 := lf 0; have lf1 := lf 1; clear lf) | skip))
            | (go_at_call 27; refine (qMod_any (len0 : Int) Q (by omega) (by omega) (by omega) (by omega) _).mono ?_; rintro e vq ⟨rfl, rfl⟩)
            | fail))
          all_goals (
            go_wp2_with fail
            go_meet
            first
              | exact ⟨_, rfl, rfl, HLp.out.1.set _ _, gr_pair HGp.out (by omega) _ _, set_below HBp.out _ (by omega) _ _⟩
              | exact ⟨_, rfl, rfl, c2_new _ _ _ _, HGp.out.below (ba _ _), bt HBp.out (ba _ _)⟩)
        case rest =>
          clear B_0 G_0 C_0
          obtain ⟨c, rfl, rfl, hX, hG, hB⟩ := hcut
          have V_0 := Lib.hid hB
          clear hB
          obtain ⟨g0, g1, g2⟩ := hG
          obtain ⟨q0, q1, _⟩ := hX
          go_wp2_with fail
          refine (decryptElement_any P Q G s ea em _).mono ?_
          rw [HED.out.1, HED.out.2]
          rintro e u2 ⟨rfl, hb⟩
          have V_1 := Lib.hid (bt V_0.out hb)
          clear hb g0 g1 g2 q0 q1 V_0
          go_wp2
          go_ret
          exact ⟨rfl, V_1.out⟩
    · skip
      have HW := Lib.hid (enc_cip he)
      have HE := Lib.hid he
      clear he
      obtain ⟨eS0, eS1, eS2⟩ := HS_5.out
      go_wp2_with fail
      refine (encryptElement_any P' Q' G' x y z _).mono ?_
      rw [HE.out]
      rintro e v6 ⟨rfl, hb⟩
      clear eS0 eS1 eS2
      have HV_6 := Lib.hid (bt HV_5.out hb)
      have HR_6 := Lib.hid (HR_5.out.below hb)
      have HC_6 := Lib.hid (HC_5.out.below hb)
      have HS_6 := Lib.hid (HS_5.out.below hb)
      clear HV_5 HR_5 HC_5 HS_5
      clear hb
      have hal := ba v6 (.cells #[.int .i64 (encA P' Q' G' x y z), .int .i64 (encM P' Q' G' x y z)] 26)
      have HV_7 := Lib.hid (bt HV_6.out hal)
      have HR_7 := Lib.hid (HR_6.out.below hal)
      have HC_7 := Lib.hid (HC_6.out.below hal)
      have HS_7 := Lib.hid (HS_6.out.below hal)
      clear HV_6 HR_6 HC_6 HS_6
      have HX_7 := Lib.hid (c2_new v6 (encA P' Q' G' x y z) (encM P' Q' G' x y z) 26)
      clear hal
      obtain ⟨eS0, eS1, eS2⟩ := HS_7.out
      go_wp2_with fail
      refine (sEncryptElement_any P' Q' G' x y z _).mono ?_
      rw [HE.out]
      rintro e v8 ⟨rfl, hb⟩
      clear eS0 eS1 eS2
      have HV_8 := Lib.hid (bt HV_7.out hb)
      have HR_8 := Lib.hid (HR_7.out.below hb)
      have HC_8 := Lib.hid (HC_7.out.below hb)
      have HS_8 := Lib.hid (HS_7.out.below hb)
      have HX_8 := Lib.hid (HX_7.out.below hb)
      clear HV_7 HR_7 HC_7 HS_7 HX_7
      clear hb
      have hal := ba v8 (.cells #[.int .i64 (encA P' Q' G' x y z), .int .i64 (encM P' Q' G' x y z)] 26)
      have HV_9 := Lib.hid (bt HV_8.out hal)
      have HR_9 := Lib.hid (HR_8.out.below hal)
      have HC_9 := Lib.hid (HC_8.out.below hal)
      have HS_9 := Lib.hid (HS_8.out.below hal)
      have HX_9 := Lib.hid (HX_8.out.below hal)
      clear HV_8 HR_8 HC_8 HS_8 HX_8
      have HY_9 := Lib.hid (c2_new v8 (encA P' Q' G' x y z) (encM P' Q' G' x y z) 26)
      clear hal
      obtain ⟨eX0, eX1, _⟩ := HX_9.out
      obtain ⟨eY0, eY1, _⟩ := HY_9.out
      obtain ⟨eS0, eS1, eS2⟩ := HS_9.out
      go_wp2_with fail
      refine (isValidCipher_any P' Q' G' (encA P' Q' G' x y z) (encM P' Q' G' x y z) _).mono ?_
      rw [HW.out]
      rintro e v10 ⟨rfl, hb⟩
      clear eX0 eX1 eY0 eY1 eS0 eS1 eS2
      have HV_10 := Lib.hid (bt HV_9.out hb)
      have HR_10 := Lib.hid (HR_9.out.below hb)
      have HC_10 := Lib.hid (HC_9.out.below hb)
      clear HV_9 HR_9 HC_9 HS_9 HX_9 HY_9
      clear hb
      obtain ⟨eR0, eR1, eR2⟩ := HR_10.out
      go_wp2_with fail
      refine (keyOf_any P Q G s _).mono ?_
      rw [HK.out.1, HK.out.2]
      rintro e v11 ⟨rfl, hb⟩
      clear eR0 eR1 eR2
      have HV_11 := Lib.hid (bt HV_10.out hb)
      have HR_11 := Lib.hid (HR_10.out.below hb)
      have HC_11 := Lib.hid (HC_10.out.below hb)
      clear HV_10 HR_10 HC_10
      clear hb
      have G_0 := Lib.hid HR_11.out
      have C_0 := Lib.hid HC_11.out
      have B_0 := Lib.hid HV_11.out
      clear HV_11 HR_11 HC_11
      go_upto_region 16 with fail
      go_cut [22, 23] (fun s1 s2 wx => ∃ c : Nat, s1 = .pointer (some ⟨c, 0, none⟩) ∧ s2 = .bool true ∧ C2 wx c ra rm ∧ GR wx v1.heap.size P Q G ∧ C2 wx (v1.heap.size + 1) a b ∧ Below w.heap.size w wx)
      case first =>
        obtain ⟨c0, c1, c2⟩ := G_0.out
        obtain ⟨ca0, ca1, _⟩ := C_0.out
        go_region_held3 (fun w' => w'.cell? ⟨v1.heap.size, 0, none⟩ = some (.int .i64 P) ∧ w'.cell? ⟨v1.heap.size, 1, none⟩ = some (.int .i64 Q) ∧ w'.cell? ⟨v1.heap.size, 2, none⟩ = some (.int .i64 G) ∧ w'.cell? ⟨v1.heap.size + 1, 0, none⟩ = some (.int .i64 a) ∧ w'.cell? ⟨v1.heap.size + 1, 1, none⟩ = some (.int .i64 b)) (first | with_reducible exact ⟨x0, x1, x2, y0, y1⟩ | with_reducible exact ⟨cell_pair x0 (by omega) _ _, cell_pair x1 (by omega) _ _, cell_pair x2 (by omega) _ _, cell_pair y0 (by omega) _ _, cell_pair y1 (by omega) _ _⟩ | exact ⟨x0, x1, x2, y0, y1⟩ | exact ⟨c0, c1, c2, ca0, ca1⟩ | exact ⟨((HGp.out.below (ba _ _))).1, ((HGp.out.below (ba _ _))).2.1, ((HGp.out.below (ba _ _))).2.2, (HCp.out.below (ba _ _)).1, (HCp.out.below (ba _ _)).2.1⟩ | exact ⟨(gr_drop G_0.out (ba _ _)).1, (gr_drop G_0.out (ba _ _)).2.1, (gr_drop G_0.out (ba _ _)).2.2, (c2_drop C_0.out (ba _ _)).1, (c2_drop C_0.out (ba _ _)).2.1⟩) ((first
          | (go_at_call 26; refine (reencrypt_any P Q G k a b ((len1 : Int) % Q) _).mono ?_; rw [HRE.out.1, HRE.out.2.1, HRE.out.2.2]; rintro e vp ⟨rfl, hp⟩; (first | (have HLp := Lib.hid (by with_reducible exact vary_drop C_0.out hp)) | (have HLp := Lib.hid (by with_reducible exact vary_new C_0.out.drew hp)) | skip); have HBp := Lib.hid (show Below w.heap.size w vp from by first | exact bt_drop B_0.out hp | exact bt_drop (bt B_0.out (ba _ _)) hp | exact bt (bt_drop B_0.out (ba _ _)) hp); have HGp := Lib.hid (show GR vp v1.heap.size P Q G from by first | exact gr_drop G_0.out hp | exact gr_drop ((G_0.out).below (ba _ _)) hp | exact ((gr_drop G_0.out (ba _ _))).below hp); have HCp := Lib.hid (show C2 vp (v1.heap.size + 1) a b from by first | exact c2_drop C_0.out hp | exact c2_drop ((C_0.out).below (ba _ _)) hp | exact ((c2_drop C_0.out (ba _ _))).below hp); clear hp; obtain ⟨x0, x1, x2⟩ := HGp.out; obtain ⟨y0, y1, _⟩ := HCp.out; (first | (obtain ⟨⟨l0, l1, lf⟩, ln⟩ := HLp.out; have lf0 := lf 0; have lf1 := lf 1; clear lf) | skip))
          | (go_at_call 27; refine (qMod_any (len1 : Int) Q (by omega) (by omega) (by omega) (by omega) _).mono ?_; rintro e vq ⟨rfl, rfl⟩)
          | fail))
        all_goals (
          go_wp2_with fail
          go_meet
          first
            | exact ⟨_, rfl, rfl, HLp.out.1.set _ _, gr_pair HGp.out (by omega) _ _, c2_two HCp.out (by omega) _ _, set_below HBp.out _ (by omega) _ _⟩
            | exact ⟨_, rfl, rfl, c2_new _ _ _ _, HGp.out.below (ba _ _), HCp.out.below (ba _ _), bt HBp.out (ba _ _)⟩)
      case rest =>
        clear B_0 G_0 C_0
        obtain ⟨c, rfl, rfl, hX, hG, hC, hB⟩ := hcut
        have X_0 := Lib.hid hX
        have R_0 := Lib.hid hG
        have Z_0 := Lib.hid hC
        have V_0 := Lib.hid hB
        clear hX hG hC hB
        obtain ⟨g0, g1, g2⟩ := R_0.out
        obtain ⟨q0, q1, _⟩ := X_0.out
        go_wp2_with fail
        refine (decryptElement_any P Q G s ra rm _).mono ?_
        rw [HRD.out.1, HRD.out.2]
        rintro e u1 ⟨rfl, hb⟩
        have G_0 := Lib.hid (R_0.out.below hb)
        have C_0 := Lib.hid (Z_0.out.below hb)
        have B_0 := Lib.hid (bt V_0.out hb)
        clear hb g0 g1 g2 q0 q1 X_0 R_0 Z_0 V_0
        go_upto_region 18 with fail
        go_cut [26, 27] (fun s1 s2 wx => ∃ c : Nat, s1 = .pointer (some ⟨c, 0, none⟩) ∧ s2 = .bool true ∧ C2 wx c ea em ∧ GR wx v1.heap.size P Q G ∧ Below w.heap.size w wx)
        case first =>
          obtain ⟨c0, c1, c2⟩ := G_0.out
          obtain ⟨ca0, ca1, _⟩ := C_0.out
          go_region_held3 (fun w' => w'.cell? ⟨v1.heap.size, 0, none⟩ = some (.int .i64 P) ∧ w'.cell? ⟨v1.heap.size, 1, none⟩ = some (.int .i64 Q) ∧ w'.cell? ⟨v1.heap.size, 2, none⟩ = some (.int .i64 G) ∧ w'.cell? ⟨v1.heap.size + 1, 0, none⟩ = some (.int .i64 a) ∧ w'.cell? ⟨v1.heap.size + 1, 1, none⟩ = some (.int .i64 b)) (first | with_reducible exact ⟨x0, x1, x2, y0, y1⟩ | with_reducible exact ⟨cell_pair x0 (by omega) _ _, cell_pair x1 (by omega) _ _, cell_pair x2 (by omega) _ _, cell_pair y0 (by omega) _ _, cell_pair y1 (by omega) _ _⟩ | exact ⟨x0, x1, x2, y0, y1⟩ | exact ⟨c0, c1, c2, ca0, ca1⟩ | exact ⟨((HGp.out.below (ba _ _))).1, ((HGp.out.below (ba _ _))).2.1, ((HGp.out.below (ba _ _))).2.2, (HCp.out.below (ba _ _)).1, (HCp.out.below (ba _ _)).2.1⟩ | exact ⟨(gr_drop G_0.out (ba _ _)).1, (gr_drop G_0.out (ba _ _)).2.1, (gr_drop G_0.out (ba _ _)).2.2, (c2_drop C_0.out (ba _ _)).1, (c2_drop C_0.out (ba _ _)).2.1⟩) ((first
            | (go_at_call 22; refine (encryptElement_any P Q G k m ((len0 : Int) % Q) _).mono ?_; rw [HEE.out.1, HEE.out.2.1, HEE.out.2.2]; rintro e vp ⟨rfl, hp⟩; (first | (have HLp := Lib.hid (by with_reducible exact vary_drop C_0.out hp)) | (have HLp := Lib.hid (by with_reducible exact vary_new C_0.out.drew hp)) | skip); have HBp := Lib.hid (show Below w.heap.size w vp from by first | exact bt_drop B_0.out hp | exact bt_drop (bt B_0.out (ba _ _)) hp | exact bt (bt_drop B_0.out (ba _ _)) hp); have HGp := Lib.hid (show GR vp v1.heap.size P Q G from by first | exact gr_drop G_0.out hp | exact gr_drop ((G_0.out).below (ba _ _)) hp | exact ((gr_drop G_0.out (ba _ _))).below hp); have HCp := Lib.hid (show C2 vp (v1.heap.size + 1) a b from by first | exact c2_drop C_0.out hp | exact c2_drop ((C_0.out).below (ba _ _)) hp | exact ((c2_drop C_0.out (ba _ _))).below hp); clear hp; obtain ⟨x0, x1, x2⟩ := HGp.out; obtain ⟨y0, y1, _⟩ := HCp.out; (first | (obtain ⟨⟨l0, l1, lf⟩, ln⟩ := HLp.out; have lf0 := lf 0; have lf1 := lf 1; clear lf) | skip))
            | (go_at_call 27; refine (qMod_any (len0 : Int) Q (by omega) (by omega) (by omega) (by omega) _).mono ?_; rintro e vq ⟨rfl, rfl⟩)
            | fail))
          all_goals (
            go_wp2_with fail
            go_meet
            first
              | exact ⟨_, rfl, rfl, HLp.out.1.set _ _, gr_pair HGp.out (by omega) _ _, set_below HBp.out _ (by omega) _ _⟩
              | exact ⟨_, rfl, rfl, c2_new _ _ _ _, HGp.out.below (ba _ _), bt HBp.out (ba _ _)⟩)
        case rest =>
          clear B_0 G_0 C_0
          obtain ⟨c, rfl, rfl, hX, hG, hB⟩ := hcut
          have V_0 := Lib.hid hB
          clear hB
          obtain ⟨g0, g1, g2⟩ := hG
          obtain ⟨q0, q1, _⟩ := hX
          go_wp2_with fail
          refine (decryptElement_any P Q G s ea em _).mono ?_
          rw [HED.out.1, HED.out.2]
          rintro e u2 ⟨rfl, hb⟩
          have V_1 := Lib.hid (bt V_0.out hb)
          clear hb g0 g1 g2 q0 q1 V_0
          go_wp2
          go_ret
          exact ⟨rfl, V_1.out⟩

/-! ### THE ROW's STEP: WRITTEN OUT: LEAVE IT -/
set_option maxRecDepth 100000 in
theorem lifted (os : Os) (started : os.Started) (H : Type) (enc : TypeId × Value → H) :
    ReturnsInHanded {} Try.checked os 3 .any (Rows.fnEncryptionSpec.pre6 enc Try.prog Try.f3 Rows.fnEncryptionRow.domain false) (Rows.fnEncryptionSpec.post enc Try.prog Try.f3 false true false false) := by
  refine returnsInHanded_of_change_sized (C := Try.checked) own started (by kernel_rfl) Try.func3
    (ChangeSpec.witness6 (enc := enc) (C := Try.checked) false ⟨#[], #[.slice none 0 0, .slice none 0 0], []⟩ 8 (by kernel_rfl) (by kernel_rfl) (by kernel_rfl) (by kernel_rfl)) ?_
  intro W base args ds gs before hval0 hW hcnd hsz0 _
  have hsz : (DataW.weightsEach Try.prog (Try.f3.params.toList ++ Rows.fnEncryptionSpec.plain.varTypes Try.prog) (ds ++ gs)).all (· ≤ reachBytes) = true := hsz0
  clear hsz0
  have hval : ∀ (j : Nat) t v, Try.f3.params[j]? = some t → args[j]? = some v → Value.okWide Try.prog W .any base t v := hval0
  have hW' := hW
  obtain ⟨p, q, hA0, hV, rfl, hfz, hnd⟩ := hW
  have hA : DataW.TrodAll enc Try.prog W 0 (fun _ => true) true Try.f3.params.toList args.toList ds p := hA0
  rw [Try.params3] at hA hval hsz
  obtain ⟨v0, vs0, d0, ds0, p0, q0, hargs, rfl, rfl, h0, r0⟩ := trodAll_cons hA
  obtain ⟨v1, vs1, d1, ds1, p1, q1, rfl, rfl, rfl, h1, r1⟩ := trodAll_cons r0
  obtain ⟨rfl, rfl, rfl⟩ := trodAll_nil r1
  obtain rfl : args = #[v0, v1] := by cases args; simp_all
  obtain ⟨rfl, rfl⟩ := trodVars_none hV
  obtain ⟨a0, len0, cap0, rfl⟩ := okWide_slice Try.underlying22 (hval 0 22 v0 rfl rfl)
  have k0 := h0
  have lt0 : ∀ x ∈ p0, x.block < W.heap.size := by obtain ⟨m, hm⟩ := k0; exact DataW.trod_lt m _ _ _ hm
  obtain ⟨z0, w0, s0⟩ : ∃ zs, IsRow .u8 W a0 len0 cap0 zs ∧ len0 ≤ 140737488351232 := by
    obtain ⟨fuel, hf⟩ := h0
    rcases open_ints Try.underlying22 Try.underlying5 (by kernel_rfl) hf with ⟨hcs, hx⟩ | ⟨x, l, c, zs, hcs, _, hl, hm, hz, hx, hcell, hwz⟩
    · simp [Value.cells] at hcs
      obtain ⟨rfl, rfl, rfl⟩ := hcs
      exact ⟨[], .inl ⟨rfl, rfl, rfl, rfl⟩, by decide⟩
    · simp [Value.cells] at hcs
      obtain ⟨rfl, rfl, rfl⟩ := hcs
      simp only [Prod.mk.injEq] at hx
      have hq := sized_slice hsz (j := 0) (t := 22) (e := 5) rfl (congrArg some hx.1) Try.underlying22
      rw [bytes5] at hq
      simp only [lits, List.length_map, List.length_take, List.length_drop, reachBytes] at hq
      simp only [if_true] at hz
      exact ⟨zs, .inr ⟨_, rfl, hl, hm, by simpa using hz, hcell, hwz⟩, by omega⟩
  obtain ⟨a1, len1, cap1, rfl⟩ := okWide_slice Try.underlying22 (hval 1 22 v1 rfl rfl)
  have k1 := h1
  have lt1 : ∀ x ∈ p1, x.block < W.heap.size := by obtain ⟨m, hm⟩ := k1; exact DataW.trod_lt m _ _ _ hm
  obtain ⟨z1, w1, s1⟩ : ∃ zs, IsRow .u8 W a1 len1 cap1 zs ∧ len1 ≤ 140737488351232 := by
    obtain ⟨fuel, hf⟩ := h1
    rcases open_ints Try.underlying22 Try.underlying5 (by kernel_rfl) hf with ⟨hcs, hx⟩ | ⟨x, l, c, zs, hcs, _, hl, hm, hz, hx, hcell, hwz⟩
    · simp [Value.cells] at hcs
      obtain ⟨rfl, rfl, rfl⟩ := hcs
      exact ⟨[], .inl ⟨rfl, rfl, rfl, rfl⟩, by decide⟩
    · simp [Value.cells] at hcs
      obtain ⟨rfl, rfl, rfl⟩ := hcs
      simp only [Prod.mk.injEq] at hx
      have hq := sized_slice hsz (j := 1) (t := 22) (e := 5) rfl (congrArg some hx.1) Try.underlying22
      rw [bytes5] at hq
      simp only [lits, List.length_map, List.length_take, List.length_drop, reachBytes] at hq
      simp only [if_true] at hz
      exact ⟨zs, .inr ⟨_, rfl, hl, hm, by simpa using hz, hcell, hwz⟩, by omega⟩
  clear hA0 hval0
  refine (walk a0 len0 cap0 z0 a1 len1 cap1 z1 W w0 w1 s0 s1).mono fun e W' ⟨he, bel⟩ => ?_
  subst he
  exact ⟨_, rfl, _, _, _, [], _, [], hW', trodAll_mk1 (shut_bool Try.underlying4 _), (trodAll_cons_mk (Below.trod laidOut (by kernel_rfl) (of_decide_eq_true (by kernel_rfl)) k0 bel lt0) (trodAll_cons_mk (Below.trod laidOut (by kernel_rfl) (of_decide_eq_true (by kernel_rfl)) k1 bel lt1) trodAll_mk0)), rfl, bel.frame _, fun h => by cases h⟩

theorem over : Rows.fnEncryptionRow.holds Try.pinned (OpenSpec.ofChange Rows.fnEncryptionSpec) :=
  OpenClaim.holds_of_wide 3 Try.f3 rfl rfl rfl rfl rfl rfl rfl ⟨rfl, rfl, rfl, rfl, rfl⟩ rfl rfl rfl rfl rfl (by kernel_rfl) Try.func3
    (show joinedFacts Try.prog 3 Try.f3 Rows.fnEncryptionSpec Rows.fnEncryptionRow = true by unfold joinedFacts; rw [Head.make, Head.lifts, Head.enters]; kernel_rfl)
    (of_decide_eq_true (by kernel_rfl)) (by unfold Func.isWrapper; first | (rw [if_pos (by decide +kernel)]; kernel_rfl) | (rw [if_neg (by decide +kernel)]; exact ⟨rfl, rfl⟩))
    (fun os started H enc _ => lifted os started H enc)

/-- ████ THE STATEMENT ████ -/
theorem proved : Rows.FnEncryptionSaid := over
#print axioms proved
end Go.Proofs.Ytmihnohnfdjcaaa.fnEncryption
