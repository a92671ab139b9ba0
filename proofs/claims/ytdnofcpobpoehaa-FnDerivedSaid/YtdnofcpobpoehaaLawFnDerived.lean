/-
For all bytes the law FnDerived returns true: for what is drawn the program derives elements as the reference does, each is an element other than 1 and is what DeriveElement answers for its place, and bases that are made are valid.
No condition.
-/
import Derived.Test.YtdnofcpobpoehaaRows
import Derived.WalkKit
import Derived.ProofKit
import Derived.OpenShut
import Derived.SizedLaws
import Derived.ShutString
import Derived.ChangeOld
import Derived.Below
import Derived.Test.YtdnofcpobpoehaaDrG5
import Derived.Test.YtdnofcpobpoehaaComC
import Derived.Test.YtdnofcpobpoehaaFacts
namespace Go.Proofs.Ytdnofcpobpoehaa.fnDerived
open Go.ChangeShapes Go.WideShapes Go.ChangeAt Go.RowKit
open Go.ChangeMaps (open_string shut_string)
set_option linter.unusedVariables false

theorem own : ownKnob Try.prog.godebug = none := by kernel_rfl
theorem laidOut : laidOutB Try.prog = true := by kernel_rfl

theorem bytes5 : Try.prog.bytesOf 5 = 1 := by kernel_rfl

/-- WHAT THE WALK IS TOLD OF A SLICE OF INTEGERS THAT CAME IN: it is nil; or it leads to a row of 'cap' cells, the numbers 'zs' (the first 'len' are its elements, the rest its spare room), each fitting its kind. -/
def IsRow (k : IntKind) (w : World) (a : Option Addr) (len cap : Nat) (zs : List Int) : Prop :=
  (a = none ∧ len = 0 ∧ cap = 0 ∧ zs = []) ∨
  ∃ x, a = some x ∧ len ≤ cap ∧ cap ≤ maxLen ∧ zs.length = cap ∧ (∀ i, i < zs.length → w.cell? (x.add i) = some (.int k (zs.getD i 0))) ∧ ∀ n ∈ zs, (Lit.int k n).wf = true

theorem dY_el {P Q G : Int} (hg : goodB P Q G = true) (s : ByteArray) (k c : Int) : elB P Q (dY P Q G s k c) = true := by
  have hb := dX_bd (P := P) (Q := Q) (G := G) (s := s) (k := k) (c := c) (by have := goodB_true.1 hg; omega)
  unfold dY
  generalize dX P Q G s k c = x at hb
  obtain ⟨p, q, g, rfl, rfl, rfl, hp, hq, hd, _, _, _, _, _, _⟩ := good_nat hg
  have hp1 : 1 < p := hp.1
  have hq1 : 1 < q := hq.1
  obtain ⟨n, rfl⟩ := Int.eq_ofNat_of_zero_le (show 0 ≤ x by omega)
  rw [show ((p : Int) - 1) / (q : Int) = (((p - 1) / q : Nat) : Int) by rw [show (p : Int) - 1 = ((p - 1 : Nat) : Int) by omega]; exact (Int.natCast_ediv _ _).symm, Num.pow_eq hp1]
  have h1 := Num.proj_el hp hd (show 1 ≤ n by omega) (show n < p by omega)
  have h2 := Num.el_pos (x := n ^ ((p - 1) / q) % p) hp1 (by omega) h1
  rw [Nat.mod_mod] at h2
  have h3 := Nat.mod_lt (n ^ ((p - 1) / q)) (show p > 0 by omega)
  rw [elB_true, Num.pow_eq hp1, h1]
  exact ⟨⟨by omega, by omega⟩, rfl⟩
theorem derS_el {P Q G : Int} (hg : goodB P Q G = true) (s : ByteArray) (k : Int) : ∀ f c, 0 < derS P Q G s k f c → elB P Q (derS P Q G s k f c) = true ∧ derS P Q G s k f c ≠ 1
  | 0, _, h => absurd h (by simp [derS])
  | f + 1, c, h => by
    unfold derS at h ⊢
    by_cases h1 : dY P Q G s k c = 1
    · rw [if_pos h1] at h ⊢; exact derS_el hg s k f (c + 1) h
    · rw [if_neg h1]; exact ⟨dY_el hg s k c, h1⟩
theorem der_el {P Q G : Int} {s : ByteArray} {k : Int} (hg : goodB P Q G = true) (h : 0 < derV P Q G s k) : elB P Q (derV P Q G s k) = true ∧ derV P Q G s k ≠ 1 := derS_el hg s k 1000 0 h
/-- What stands of a list of derived elements. -/
theorem ds_facts {P Q G n : Int} {s : ByteArray} (h : dsOk P Q G s n = true) : ∃ m : Nat, dsV P Q G s n = dsL P Q G s m ∧ (m : Int) = n ∧ m ≤ 100 ∧ goodB P Q G = true ∧ ∀ k, k < m → isElV P Q G (derV P Q G s k) = true ∧ derV P Q G s k ≠ 1 ∧ deV P Q G s k = derV P Q G s k ∧ deOk P Q G s k = true := by
  have h0 := h
  unfold dsOk at h
  rw [Bool.and_eq_true, Bool.and_eq_true, inB_true, dsAll_true] at h
  obtain ⟨⟨hb, n0, n1⟩, ha⟩ := h
  have hg := (deB_true.1 hb).1
  refine ⟨n.toNat, by simp [dsV, h0], by omega, by omega, hg, fun k hk => ?_⟩
  have h1 := ha k hk
  have hd : digB (k : Int) = true := digB_true.2 (by omega)
  obtain ⟨e1, e2⟩ := der_el hg h1
  exact ⟨by simp [isElV, hg, e1], e2, by simp [deV, hb, hd], by simp [deOk, hb, hd, h1]⟩
/-- Bases that are made are bases. -/
theorem bof_valid {P Q G n : Int} (h : bofB P Q G n = true) : bsB P Q G (bofH P Q G n) (bofL P Q G n) = true := by
  obtain ⟨e1, e2⟩ := bof_on h
  rw [e1, e2]
  unfold bofB at h
  rw [Bool.and_eq_true, Bool.and_eq_true, decide_eq_true_eq] at h
  obtain ⟨hn, h1, h2⟩ := h
  obtain ⟨m, hm, hmn, _, hg, hall⟩ := ds_facts h2
  have hd := h1
  unfold deOk at h1
  rw [Bool.and_eq_true, Bool.and_eq_true, decide_eq_true_eq] at h1
  obtain ⟨f1, f2⟩ := der_el hg h1.2
  have hv : deV P Q G lH 0 = derV P Q G lH 0 := by simp [deV, h1.1.1, h1.1.2]
  rw [bs_true, hm, hv, dsL_length]
  refine ⟨hg, ⟨f2, f1⟩, by omega, fun z hz => ?_⟩
  unfold dsL at hz
  obtain ⟨k, hk, rfl⟩ := List.mem_map.1 hz
  obtain ⟨g1, g2, _, _⟩ := hall k (List.mem_range.1 hk)
  exact ⟨g2, by simpa [isElV, hg] using g1⟩

/-! ### STEP 1: THE WALK: the Go text returns true, AND WRITES NOTHING THAT WAS THERE: 'Below w.heap.size w w'' (Derived/Below.lean: '.refl', '.alloc', '.drew', '.setCell' at a new block, '.trans'). Open each 'IsRow' by 'rcases' AHEAD of 'go_enter'; part every test ahead of the walk. -/
set_option maxRecDepth 100000 in
set_option maxHeartbeats 3200000 in
theorem walk (a0 : Option Addr) (len0 cap0 : Nat) (z0 : List Int) (a1 : Option Addr) (len1 cap1 : Nat) (z1 : List Int) (w : World) (w0 : IsRow .u8 w a0 len0 cap0 z0) (w1 : IsRow .u8 w a1 len1 cap1 z1) (s0 : len0 ≤ 140737488351232) (s1 : len1 ≤ 140737488351232) :
    Calls Try.prog 11 #[.slice a0 len0 cap0, .slice a1 len1 cap1] w fun e w' => e = .returned (.bool true) ∧ Below w.heap.size w w' := by
  have hb0 := isB_of_row w0
  have hb1 := isB_of_row w1
  clear w0 w1
  by_cases hbig : 1048576 < (len0 : Int) + len1
  · go_enter Try.func11, Try.ntmps11
    go_wp2_with fail
    refine (big_yes _ _ _ _ _ _ _ s0 hbig).mono ?_
    rintro e w' ⟨rfl, rfl⟩
    go_wp2
    go_ret
    exact ⟨rfl, Below.refl _ _⟩
  have HB0 := Lib.hid hb0
  have HB1 := Lib.hid hb1
  have HBIG := Lib.hid (show (len0 : Int) + len1 ≤ 1048576 by omega)
  clear hb0 hb1 hbig
  go_enter Try.func11, Try.ntmps11
  go_wp2_with fail
  refine (big_no _ _ _ _ _ _ _ HBIG.out).mono ?_
  rintro e w9 ⟨rfl, rfl⟩
  go_wp2_with fail
  refine (drawDeriveElements_any _ _ _ _ HB0.out).mono ?_
  rintro e v1 ⟨P, Q, G, n, s, rfl, hd, hn, hs, hv1⟩
  have hal := ba v1 (.cells #[.int .i64 P, .int .i64 Q, .int .i64 G] 29)
  have HV_1 := Lib.hid (bt hv1 hal)
  have HR_1 := Lib.hid (gr_new v1 P Q G 29)
  have hs6 : s.size ≤ 1048576 := by omega
  clear hv1 hal hd hn hs
  have C2 := Lib.hid (fun v => deriveElements_any P Q G s hs6 n v)
  have C3 := Lib.hid (fun v => sDeriveElements_any P Q G s hs6 n v)
  have HF := Lib.hid (fun h => ds_facts (P := P) (Q := Q) (G := G) (s := s) (n := n) h)
  have HF0 := Lib.hid (fun h => ds_off (P := P) (Q := Q) (G := G) (s := s) (n := n) h)
  have HLE := Lib.hid (dsV_length (P := P) (Q := Q) (G := G) (s := s) (n := n))
  generalize dsOk P Q G s n = ok at C2 C3 HF HF0
  generalize dsV P Q G s n = L at C2 C3 HF HF0 HLE
  obtain ⟨c0, c1, c2⟩ := HR_1.out
  go_wp2_with fail
  refine (C2.out _).mono ?_
  rintro e v2 ⟨va, vn, vc, rfl, hown2, hv2⟩
  have HV_2 := Lib.hid (bt HV_1.out hv2)
  have HR_2 := Lib.hid (HR_1.out.below hv2)
  have HO2 := Lib.hid hown2
  clear hv2 hown2 c0 c1 c2 HV_1 HR_1
  obtain ⟨c0, c1, c2⟩ := HR_2.out
  go_wp2_with fail
  refine (C3.out _).mono ?_
  rintro e v3 ⟨ua, un, uc, rfl, hown3, hv3⟩
  have HV_3 := Lib.hid (bt HV_2.out hv3)
  have HR_3 := Lib.hid (HR_2.out.below hv3)
  obtain ⟨hi3, hl3, _⟩ := own_ints hown3
  obtain ⟨hi2, hl2, _⟩ := own_ints HO2.out
  have HI3 := Lib.hid hi3
  have HI2 := Lib.hid (hi2.below hv3 (Nat.le_refl _))
  have HL2 := Lib.hid hl2
  have HL3 := Lib.hid hl3
  have hle := HLE.out
  have hun : un ≤ 100 := by omega
  obtain rfl : un = vn := by omega
  clear hv3 hown3 hi3 hi2 hl2 hl3 hle c0 c1 c2 HO2 C2 C3 HV_2 HR_2
  have hvn : un ≤ 1152921504606846976 := by omega
  have hS := sameInts_same va ua un un vc uc L HL2.out HL3.out hvn v3 HI2.out HI3.out
  clear hvn
  go_wp2_with fail
  refine hS.mono ?_
  clear hS
  rintro e v4 ⟨rfl, hv4⟩
  have HV_4 := Lib.hid (bt HV_3.out hv4)
  have HR_4 := Lib.hid (HR_3.out.below hv4)
  have HI_4 := Lib.hid (HI3.out.below hv4 (Nat.le_refl _))
  clear hv4 HV_3 HR_3 HI3 HI2 HL2
  go_wp2
  go_loopw [58] (fun K wr => ∃ k : Nat, k ≤ un ∧ K = .int .i64 k ∧ Below v4.heap.size v4 wr) (fun K _ => un - (intOf K).toNat)
  case atStart => exact ⟨0, Nat.zero_le _, rfl, Below.refl _ _⟩
  case round =>
    obtain ⟨k, hk, rfl, hbel⟩ := hrel
    have HBr := Lib.hid hbel
    have HRr := Lib.hid (HR_4.out.below hbel)
    by_cases hkn : k < un
    · have hki : (k : Int) < (un : Int) := by omega
      obtain ⟨b, off, z, rfl, hb, hc, hd⟩ := (HI_4.out.below hbel (Nat.le_refl _)).at (k := k) (by have := HL3.out; omega)
      have hok : ok = true := by
        cases ok with
        | true => rfl
        | false => have := HF0.out rfl; have := HL3.out; subst L; simp at this; omega
      obtain ⟨m, hLm, _, hm100, hgd, hall⟩ := HF.out hok
      have hmu : m = un := by have := HL3.out; rw [hLm, dsL_length] at this; exact this
      obtain ⟨k1, k2, k3, k4⟩ := hall k (by omega)
      have hz : derV P Q G s k = z := by
        rw [hLm, dsL_drop (by omega)] at hd
        exact (List.cons.inj hd).1
      rw [hz] at k1 k2 k3
      have K1 := Lib.hid k1
      have K2 := Lib.hid k3
      have K3 := Lib.hid k4
      have K4 := Lib.hid hgd
      have q2 : (z == 1) = false := by simpa using k2
      obtain ⟨c0, c1, c2⟩ := HRr.out
      clear hbel hd hLm hall hz k1 k3 k4 hmu hok hgd hm100
      have HKN := Lib.hid hkn
      have HUN := Lib.hid hun
      clear hun hkn hk
      go_wp2_with fail
      refine (isElement_any P Q G z _).mono ?_
      rw [K1.out, K4.out]
      rintro e x1 ⟨rfl, hx1⟩
      have HBx := Lib.hid (bt HBr.out hx1)
      have HRx := Lib.hid (HRr.out.below hx1)
      clear hx1 c0 c1 c2
      obtain ⟨c0, c1, c2⟩ := HRx.out
      go_wp2_with fail
      refine (deriveElement_any P Q G s hs6 k _).mono ?_
      rw [K2.out, K3.out]
      rintro e x2 ⟨rfl, hx2⟩
      have HBy := Lib.hid (bt HBx.out hx2)
      clear hx2 c0 c1 c2
      have hwk : wrap64 ((k : Int) + 1) = (k : Int) + 1 := (by have := HKN.out; have := HUN.out; unfold wrap64; omega)
      go_wp2
      go_roundw
      case rel =>
        have hkn2 := HKN.out
        have hun2 := HUN.out
        exact ⟨k + 1, by omega, by first | (rw [hwk]; rfl) | rfl | go_num, HBy.out⟩
      case measure =>
        have hkn2 := HKN.out
        have hun2 := HUN.out
        first | (rw [hwk]; simp only [intOf]; omega) | (simp only [intOf]; omega)
    · have hki : (un : Int) ≤ (k : Int) := by omega
      have HV_5 := Lib.hid (bt HV_4.out hbel)
      clear hbel HBr HRr HR_4 HV_4 HF HF0
      go_wp2_with fail
      refine (drawBasesOf_any _ _ _ _ (HB1.out.below HV_5.out)).mono ?_
      rintro e v6 ⟨X, Y, Z, x, rfl, hd, hx, hv6⟩
      have hal := ba v6 (.cells #[.int .i64 X, .int .i64 Y, .int .i64 Z] 29)
      have HV_6 := Lib.hid (bt (bt HV_5.out hv6) hal)
      have HR_6 := Lib.hid (gr_new v6 X Y Z 29)
      clear hd hx hv6 hal HV_5
      have hll := bof_len X Y Z x
      have HW := Lib.hid (fun h => bof_valid (P := X) (Q := Y) (G := Z) (n := x) h)
      have C7 := Lib.hid (fun v => basesOf_any X Y Z x v)
      have C8 := Lib.hid (fun v => sBasesOf_any X Y Z x v)
      generalize bofH X Y Z x = hv at C7 C8 HW
      generalize bofL X Y Z x = lv at C7 C8 HW hll
      generalize bofB X Y Z x = kv at C7 C8 HW
      obtain ⟨c0, c1, c2⟩ := HR_6.out
      go_wp2_with fail
      refine (C7.out _).mono ?_
      rintro e v7 ⟨y, rfl, ho, hb1⟩
      obtain ⟨fa, fc, rfl⟩ := ho.toIn.shape
      have hba := ba v7 (.cells #[.int .i64 hv, .slice fa lv.length fc] 31)
      have hb := bt hb1 hba
      have HV_7 := Lib.hid (bt HV_6.out hb)
      have HR_7 := Lib.hid (HR_6.out.below hb)
      have HOf := Lib.hid (InI.below ho.toIn hba)
      have HDf := Lib.hid (d2_at v7 v7.heap.size rfl (.int .i64 hv) (.slice fa lv.length fc) 31)
      clear ho hb1 hba hb c0 c1 c2 HV_6 HR_6
      obtain ⟨c0, c1, c2⟩ := HR_7.out
      go_wp2_with fail
      refine (C8.out _).mono ?_
      rintro e v8 ⟨y, rfl, ho, hb1⟩
      obtain ⟨ga, gc, rfl⟩ := ho.toIn.shape
      have hba := ba v8 (.cells #[.int .i64 hv, .slice ga lv.length gc] 31)
      have hb := bt hb1 hba
      have HV_8 := Lib.hid (bt HV_7.out hb)
      have HR_8 := Lib.hid (HR_7.out.below hb)
      have HOg := Lib.hid (InI.below ho.toIn hba)
      have HDg := Lib.hid (d2_at v8 v8.heap.size rfl (.int .i64 hv) (.slice ga lv.length gc) 31)
      have HOf := Lib.hid (HOf.out.below hb)
      have HDf := Lib.hid (HDf.out.below hb)
      clear ho hb1 hba hb c0 c1 c2 HV_7 HR_7
      clear C7 C8
      have hS := sameInts_same fa ga lv.length lv.length fc gc lv rfl rfl (by omega) _ HOf.out.ints.1 HOg.out.ints.1
      obtain ⟨d0, d1⟩ := HDf.out
      obtain ⟨e0, e1⟩ := HDg.out
      go_wp2_with fail
      refine hS.mono ?_
      clear hS
      rintro e v9 ⟨rfl, hv9⟩
      have HV_9 := Lib.hid (bt HV_8.out hv9)
      have HR_9 := Lib.hid (HR_8.out.below hv9)
      have HO9 := Lib.hid (HOf.out.below hv9)
      have HD9 := Lib.hid (HDf.out.below hv9)
      clear hv9 d0 d1 e0 e1 HV_8 HR_8 HOf HOg HDf HDg
      cases kv
      · go_wp2
        go_ret
        exact ⟨rfl, HV_9.out⟩
      have HW1 := Lib.hid (HW.out rfl)
      clear HW
      obtain ⟨c0, c1, c2⟩ := HR_9.out
      obtain ⟨d0, d1⟩ := HD9.out
      go_wp2_with fail
      refine (isValidBases_any X Y Z hv (by omega) HO9.out).mono ?_
      rw [HW1.out]
      rintro e v10 ⟨rfl, hb⟩
      have HV_10 := Lib.hid (bt HV_9.out hb)
      clear hb c0 c1 c2 d0 d1
      go_wp2
      go_ret
      exact ⟨rfl, HV_10.out⟩

/-! ### THE ROW's STEP: WRITTEN OUT: LEAVE IT -/
set_option maxRecDepth 100000 in
theorem lifted (os : Os) (started : os.Started) (H : Type) (enc : TypeId × Value → H) :
    ReturnsInHanded {} Try.checked os 11 .any (Rows.fnDerivedSpec.pre6 enc Try.prog Try.f11 Rows.fnDerivedRow.domain false) (Rows.fnDerivedSpec.post enc Try.prog Try.f11 false true false false) := by
  refine returnsInHanded_of_change_sized (C := Try.checked) own started (by kernel_rfl) Try.func11
    (ChangeSpec.witness6 (enc := enc) (C := Try.checked) false ⟨#[], #[.slice none 0 0, .slice none 0 0], []⟩ 8 (by kernel_rfl) (by kernel_rfl) (by kernel_rfl) (by kernel_rfl)) ?_
  intro W base args ds gs before hval0 hW hcnd hsz0 _
  have hsz : (DataW.weightsEach Try.prog (Try.f11.params.toList ++ Rows.fnDerivedSpec.plain.varTypes Try.prog) (ds ++ gs)).all (· ≤ reachBytes) = true := hsz0
  clear hsz0
  have hval : ∀ (j : Nat) t v, Try.f11.params[j]? = some t → args[j]? = some v → Value.okWide Try.prog W .any base t v := hval0
  have hW' := hW
  obtain ⟨p, q, hA0, hV, rfl, hfz, hnd⟩ := hW
  have hA : DataW.TrodAll enc Try.prog W 0 (fun _ => true) true Try.f11.params.toList args.toList ds p := hA0
  rw [Try.params11] at hA hval hsz
  obtain ⟨v0, vs0, d0, ds0, p0, q0, hargs, rfl, rfl, h0, r0⟩ := trodAll_cons hA
  obtain ⟨v1, vs1, d1, ds1, p1, q1, rfl, rfl, rfl, h1, r1⟩ := trodAll_cons r0
  obtain ⟨rfl, rfl, rfl⟩ := trodAll_nil r1
  obtain rfl : args = #[v0, v1] := by cases args; simp_all
  obtain ⟨rfl, rfl⟩ := trodVars_none hV
  obtain ⟨a0, len0, cap0, rfl⟩ := okWide_slice Try.underlying63 (hval 0 63 v0 rfl rfl)
  have k0 := h0
  have lt0 : ∀ x ∈ p0, x.block < W.heap.size := by obtain ⟨m, hm⟩ := k0; exact DataW.trod_lt m _ _ _ hm
  obtain ⟨z0, w0, s0⟩ : ∃ zs, IsRow .u8 W a0 len0 cap0 zs ∧ len0 ≤ 140737488351232 := by
    obtain ⟨fuel, hf⟩ := h0
    rcases open_ints Try.underlying63 Try.underlying5 (by kernel_rfl) hf with ⟨hcs, hx⟩ | ⟨x, l, c, zs, hcs, _, hl, hm, hz, hx, hcell, hwz⟩
    · simp [Value.cells] at hcs
      obtain ⟨rfl, rfl, rfl⟩ := hcs
      exact ⟨[], .inl ⟨rfl, rfl, rfl, rfl⟩, by decide⟩
    · simp [Value.cells] at hcs
      obtain ⟨rfl, rfl, rfl⟩ := hcs
      simp only [Prod.mk.injEq] at hx
      have hq := sized_slice hsz (j := 0) (t := 63) (e := 5) rfl (congrArg some hx.1) Try.underlying63
      rw [bytes5] at hq
      simp only [lits, List.length_map, List.length_take, List.length_drop, reachBytes] at hq
      simp only [if_true] at hz
      exact ⟨zs, .inr ⟨_, rfl, hl, hm, by simpa using hz, hcell, hwz⟩, by omega⟩
  obtain ⟨a1, len1, cap1, rfl⟩ := okWide_slice Try.underlying63 (hval 1 63 v1 rfl rfl)
  have k1 := h1
  have lt1 : ∀ x ∈ p1, x.block < W.heap.size := by obtain ⟨m, hm⟩ := k1; exact DataW.trod_lt m _ _ _ hm
  obtain ⟨z1, w1, s1⟩ : ∃ zs, IsRow .u8 W a1 len1 cap1 zs ∧ len1 ≤ 140737488351232 := by
    obtain ⟨fuel, hf⟩ := h1
    rcases open_ints Try.underlying63 Try.underlying5 (by kernel_rfl) hf with ⟨hcs, hx⟩ | ⟨x, l, c, zs, hcs, _, hl, hm, hz, hx, hcell, hwz⟩
    · simp [Value.cells] at hcs
      obtain ⟨rfl, rfl, rfl⟩ := hcs
      exact ⟨[], .inl ⟨rfl, rfl, rfl, rfl⟩, by decide⟩
    · simp [Value.cells] at hcs
      obtain ⟨rfl, rfl, rfl⟩ := hcs
      simp only [Prod.mk.injEq] at hx
      have hq := sized_slice hsz (j := 1) (t := 63) (e := 5) rfl (congrArg some hx.1) Try.underlying63
      rw [bytes5] at hq
      simp only [lits, List.length_map, List.length_take, List.length_drop, reachBytes] at hq
      simp only [if_true] at hz
      exact ⟨zs, .inr ⟨_, rfl, hl, hm, by simpa using hz, hcell, hwz⟩, by omega⟩
  clear hA0 hval0
  refine (walk a0 len0 cap0 z0 a1 len1 cap1 z1 W w0 w1 s0 s1).mono fun e W' ⟨he, bel⟩ => ?_
  subst he
  exact ⟨_, rfl, _, _, _, [], _, [], hW', trodAll_mk1 (shut_bool Try.underlying4 _), (trodAll_cons_mk (Below.trod laidOut (by kernel_rfl) (of_decide_eq_true (by kernel_rfl)) k0 bel lt0) (trodAll_cons_mk (Below.trod laidOut (by kernel_rfl) (of_decide_eq_true (by kernel_rfl)) k1 bel lt1) trodAll_mk0)), rfl, bel.frame _, fun h => by cases h⟩

theorem over : Rows.fnDerivedRow.holds Try.pinned (OpenSpec.ofChange Rows.fnDerivedSpec) :=
  OpenClaim.holds_of_wide 11 Try.f11 rfl rfl rfl rfl rfl rfl rfl ⟨rfl, rfl, rfl, rfl, rfl⟩ rfl rfl rfl rfl rfl (by kernel_rfl) Try.func11
    (show joinedFacts Try.prog 11 Try.f11 Rows.fnDerivedSpec Rows.fnDerivedRow = true by unfold joinedFacts; rw [Head.make, Head.lifts, Head.enters]; kernel_rfl)
    (of_decide_eq_true (by kernel_rfl)) (by unfold Func.isWrapper; first | (rw [if_pos (by decide +kernel)]; kernel_rfl) | (rw [if_neg (by decide +kernel)]; exact ⟨rfl, rfl⟩))
    (fun os started H enc _ => lifted os started H enc)

/-- ████ THE STATEMENT ████ -/
theorem proved : Rows.FnDerivedSaid := over
#print axioms proved
end Go.Proofs.Ytdnofcpobpoehaa.fnDerived
