/-
For all bytes the law FnPrimes returns true: the factors are primes and multiply back to the number, and a primitive root is no square, for what is drawn.
No condition.
-/
import Derived.Test.YtdeedblemcfllaaRows
import Derived.WalkKit
import Derived.ProofKit
import Derived.OpenShut
import Derived.SizedLaws
import Derived.ShutString
import Derived.ChangeOld
import Derived.Below
import Derived.Test.YtdeedblemcfllaaPrFacts
import Derived.Test.YtdeedblemcfllaaDrawP
import Derived.Test.YtdeedblemcfllaaResid
import Derived.Test.YtdeedblemcfllaaFacts
namespace Go.Proofs.Ytdeedblemcfllaa.fnPrimes
open Go.ChangeShapes Go.WideShapes Go.ChangeAt Go.RowKit
open Go.ChangeMaps (open_string shut_string)
set_option linter.unusedVariables false

theorem own : ownKnob Try.prog.godebug = none := by kernel_rfl
theorem laidOut : laidOutB Try.prog = true := by kernel_rfl

theorem bytes5 : Try.prog.bytesOf 5 = 1 := by kernel_rfl

/-- WHAT THE WALK IS TOLD OF A SLICE OF INTEGERS THAT CAME IN: it is nil; or it leads to a row of 'cap' cells, the numbers 'zs' (the first 'len' are its elements, the rest its spare room), each fitting its kind. -/
def IsRow (k : IntKind) (w : World) (a : Option Addr) (len cap : Nat) (zs : List Int) : Prop :=
  (a = none ∧ len = 0 ∧ cap = 0 ∧ zs = []) ∨
  ∃ x, a = some x ∧ len ≤ cap ∧ cap ≤ maxLen ∧ zs.length = cap ∧ (∀ i, i < zs.length → w.cell? (x.add i) = some (.int k (zs.getD i 0))) ∧ ∀ n ∈ zs, (Lit.int k n).wf = true



/-! ### STEP 1: THE WALK: the Go text returns true, AND WRITES NOTHING THAT WAS THERE: 'Below w.heap.size w w'' (Derived/Below.lean: '.refl', '.alloc', '.drew', '.setCell' at a new block, '.trans'). Open each 'IsRow' by 'rcases' AHEAD of 'go_enter'; part every test ahead of the walk. -/
set_option maxRecDepth 100000 in
set_option maxHeartbeats 3200000 in
theorem walk (a0 : Option Addr) (len0 cap0 : Nat) (z0 : List Int) (a1 : Option Addr) (len1 cap1 : Nat) (z1 : List Int) (w : World) (w0 : IsRow .u8 w a0 len0 cap0 z0) (w1 : IsRow .u8 w a1 len1 cap1 z1) (s0 : len0 ≤ 140737488351232) (s1 : len1 ≤ 140737488351232) :
    Calls Try.prog 3 #[.slice a0 len0 cap0, .slice a1 len1 cap1] w fun e w' => e = .returned (.bool true) ∧ Below w.heap.size w w' := by
  have hb0 := isB_of_row w0
  have hb1 := isB_of_row w1
  clear w0 w1
  by_cases hbig : 1048576 < (len0 : Int) + len1
  · go_enter Try.func3, Try.ntmps3
    go_wp2
    go_ret
    exact ⟨rfl, Below.refl _ _⟩
  · have HB0 := Lib.hid hb0
    have HB1 := Lib.hid hb1
    clear hb0 hb1
    go_enter Try.func3, Try.ntmps3
    go_wp2_with fail
    refine (drawFactorOf_any _ _ _ _ HB0.out).mono ?_
    rintro e v1 ⟨n, rfl, ⟨hn0, hn1⟩, hv1⟩
    have HV1 := Lib.hid hv1
    clear hv1 hbig
    go_wp2_with fail
    refine (factorOf_any _ _).mono ?_
    rintro e v2 ⟨al, nl, cl, rfl, hownl, hnl, hv2⟩
    obtain ⟨hzl, hll, _⟩ := ints_of_pairs hownl
    have HL := Lib.hid hll
    have HV2 := Lib.hid (HV1.out.trans (hv2.mono HV1.out.size))
    clear hownl hll hv2
    go_wp2_with fail
    refine (sFactorOf_any _ _).mono ?_
    rintro e v3 ⟨ar, nr, cr, rfl, hownr, hnr, hv3⟩
    obtain ⟨hzr, hlr, _⟩ := ints_of_pairs hownr
    obtain rfl : nl = nr := by have := HL.out; omega
    have hzl3 := hzl.below hv3 (Nat.le_refl _)
    have HV3 := Lib.hid (HV2.out.trans (hv3.mono HV2.out.size))
    clear hownr hlr hv3 hzl hnr
    go_wp2_with fail
    refine (drawPrimitiveRoot_any _ _ _ _ (HB1.out.below HV3.out)).mono ?_
    rintro e v4 ⟨p, rfl, ⟨hp0, hp1⟩, hv4⟩
    have hzl4 := hzl3.below hv4 (Nat.le_refl _)
    have hzr4 := hzr.below hv4 (Nat.le_refl _)
    have HV4 := Lib.hid (HV3.out.trans (hv4.mono HV3.out.size))
    clear hv4 hzl3 hzr
    obtain ⟨G, one, hI, hS, hG⟩ := primRoot_both p
    have HI := Lib.hid hI
    have HS := Lib.hid hS
    have HG := Lib.hid hG
    clear hI hS hG
    go_wp2_with fail
    refine (HI.out _).mono ?_
    rintro e v5 ⟨rfl, hv5⟩
    have hzl5 := hzl4.below hv5 (Nat.le_refl _)
    have hzr5 := hzr4.below hv5 (Nat.le_refl _)
    have HV5 := Lib.hid (HV4.out.trans (hv5.mono HV4.out.size))
    clear hv5 hzl4 hzr4
    go_wp2_with fail
    refine (HS.out _).mono ?_
    rintro e v6 ⟨rfl, hv6⟩
    have hzl6 := hzl5.below hv6 (Nat.le_refl _)
    have hzr6 := hzr5.below hv6 (Nat.le_refl _)
    have HV6 := Lib.hid (HV5.out.trans (hv6.mono HV5.out.size))
    clear hv6 hzl5 hzr5
    go_wp2_with fail
    obtain ⟨hN0, hN1, hNn⟩ := facRes_prod n
    have HNN := Lib.hid hNn
    clear hNn
    go_loopw [15, 77] (fun A K wr => ∃ (i P : Nat), i ≤ nl ∧ 0 < P ∧ A = .int .i64 P ∧ K = .int .i64 i ∧ P * Num.prodOf ((facRes n).drop (i * 2)) = Num.prodOf (facRes n) ∧ Below v6.heap.size v6 wr) (fun _ K _ => nl - (intOf K).toNat)
    case atStart => exact ⟨0, 1, Nat.zero_le _, by decide, rfl, rfl, by simp, Below.refl _ _⟩
    case round =>
      obtain ⟨i, P, hi, hP0, rfl, rfl, hPd, hbel⟩ := hrel
      by_cases hin : i < nl
      · obtain ⟨b, off, f, ex, rfl, hb, hc1, hc2, hd⟩ := (hzl6.below hbel (Nat.le_refl _)).pair hin HL.out
        obtain ⟨b', off', f', ex', rfl, hb', hc1', hc2', hd'⟩ := (hzr6.below hbel (Nat.le_refl _)).pair hin HL.out
        obtain ⟨rfl, rfl⟩ : f = f' ∧ ex = ex' := by rw [hd] at hd'; exact ⟨(List.cons.inj hd').1, (List.cons.inj (List.cons.inj hd').2).1⟩
        obtain ⟨hpr, hinb, hf2, hf3, hQ⟩ := facRes_at hd hPd
        obtain ⟨f, rfl⟩ := Int.eq_ofNat_of_zero_le (show 0 ≤ f by omega)
        rw [Int.toNat_natCast] at hQ
        have HPR := Lib.hid hpr
        have HIN := Lib.hid hinb
        have HQ := Lib.hid hQ
        have HB := Lib.hid hbel
        have hBA := (Below.refl wr.heap.size wr).alloc (Nat.le_refl _) (.cells #[.int .i64 f, .int .i64 ex] 30)
        have hx1 : (wr.alloc (.cells #[.int .i64 f, .int .i64 ex] 30)).cell? ⟨b', off' + i * 2, none⟩ = some (.int .i64 f) := by rw [hBA.cell (p := ⟨b', off' + i * 2, none⟩) hb', hc1']
        have hx2 : (wr.alloc (.cells #[.int .i64 f, .int .i64 ex] 30)).cell? ⟨b', off' + i * 2 + 1, none⟩ = some (.int .i64 ex) := by rw [hBA.cell (p := ⟨b', off' + i * 2 + 1, none⟩) hb', hc2']
        clear hpr hinb hQ hbel hd hd' hPd hBA
        go_wp2_with fail
        refine (isPrime_any _ _).mono ?_
        rw [HPR.out, HIN.out]
        rintro e w' ⟨rfl, rfl⟩
        go_wp2_with fail
        go_quiet (fail)
        go_wp2
        go_loop [15, 20] (fun A J => ∃ (k Q : Nat), k ≤ ex.toNat ∧ k < Q ∧ A = .int .i64 Q ∧ J = .int .i64 k ∧ Q * f ^ (ex.toNat - k) * Num.prodOf ((facRes n).drop ((i + 1) * 2)) = Num.prodOf (facRes n)) (fun _ J => ex.toNat - (intOf J).toNat)
        case atStart => exact ⟨0, P, Nat.zero_le _, hP0, rfl, rfl, by rw [Nat.sub_zero]; exact HQ.out⟩
        case round =>
          obtain ⟨k, Q, hk, hkQ, rfl, rfl, hQd⟩ := hrel
          by_cases hke : (k : Int) < ex
          · have hs : Q * f * f ^ (ex.toNat - (k + 1)) * Num.prodOf ((facRes n).drop ((i + 1) * 2)) = Num.prodOf (facRes n) := prod_step (by rw [show ex.toNat - (k + 1) + 1 = ex.toNat - k by omega]; exact hQd)
            have hle : Q * f ≤ 2000000000 := Nat.le_trans (prod_le hs hN0) hN1
            have hgr : k + 1 < Q * f := by have : Q * 2 ≤ Q * f := Nat.mul_le_mul_left Q (by omega); omega
            have hq0 : 0 ≤ (Q : Int) * (f : Int) := by rw [← Int.natCast_mul]; omega
            have hq1 : (Q : Int) * (f : Int) ≤ 2000000000 := by rw [← Int.natCast_mul]; omega
            have hkb : k ≤ 2000000000 := by omega
            have HS2 := Lib.hid hs
            have HGR := Lib.hid hgr
            clear hs hQd hgr hle
            go_wp2
            go_round
            case rel => exact ⟨k + 1, Q * f, by omega, HGR.out, (by first | rw [Int.natCast_mul] | go_num | simp), by go_num, HS2.out⟩
            case measure => simp only [intOf]; omega
          · have hQ2 : Q * Num.prodOf ((facRes n).drop ((i + 1) * 2)) = Num.prodOf (facRes n) := by
              have h0 : ex.toNat - k = 0 := by omega
              rw [h0, Nat.pow_zero, Nat.mul_one] at hQd; exact hQd
            have HQ2 := Lib.hid hQ2
            clear hQd hQ2
            go_wp2
            go_roundw
            case rel => exact ⟨i + 1, Q, by omega, by omega, rfl, by go_num, HQ2.out, below_drewN (HB.out.alloc HB.out.size _) _⟩
            case measure => simp only [intOf]; omega
      · have hPN : P = Num.prodOf (facRes n) := by rw [List.drop_of_length_le (by have := HL.out; omega)] at hPd; simpa [Num.prodOf] using hPd
        have HB := Lib.hid (HV6.out.trans (hbel.mono HV6.out.size))
        clear hbel hPd
        cases hfb : facB n
        · have HFB := Lib.hid hfb
          clear hfb hPN
          cases one
          · go_wp2
            go_ret
            exact ⟨rfl, HB.out⟩
          · by_cases h3 : p < 3
            · go_wp2
              go_ret
              exact ⟨rfl, HB.out⟩
            · obtain ⟨p2, hb1, hpw, hlb, hlv⟩ := HG.out rfl (by omega)
              have e2 : Int.tdiv (p - 1) 2 = (p - 1) / 2 := Int.tdiv_eq_ediv_of_nonneg (by omega)
              have E2 := Lib.hid e2
              have HP1 := Lib.hid hb1
              have HP2 := Lib.hid hpw
              have HP3 := Lib.hid hlb
              have HP4 := Lib.hid hlv
              clear e2 hb1 hpw hlb hlv
              go_wp2_with fail
              refine (powerMod_any _ _ _ _).mono ?_
              rintro e w' ⟨rfl, rfl⟩
              first | rw [HP1.out, HP2.out] | rw [E2.out, HP1.out, HP2.out]
              go_wp2_with fail
              refine (legendreOf_any _ _ _).mono ?_
              rintro e w' ⟨rfl, rfl⟩
              rw [HP3.out, HP4.out]
              go_wp2
              go_ret
              exact ⟨rfl, HB.out⟩
        · have hnp : n = (P : Int) := by rw [hPN]; exact (HNN.out hfb).symm
          have HFB := Lib.hid hfb
          clear hfb hPN
          obtain rfl := hnp
          cases one
          · go_wp2
            go_ret
            exact ⟨rfl, HB.out⟩
          · by_cases h3 : p < 3
            · go_wp2
              go_ret
              exact ⟨rfl, HB.out⟩
            · obtain ⟨p2, hb1, hpw, hlb, hlv⟩ := HG.out rfl (by omega)
              have e2 : Int.tdiv (p - 1) 2 = (p - 1) / 2 := Int.tdiv_eq_ediv_of_nonneg (by omega)
              have E2 := Lib.hid e2
              have HP1 := Lib.hid hb1
              have HP2 := Lib.hid hpw
              have HP3 := Lib.hid hlb
              have HP4 := Lib.hid hlv
              clear e2 hb1 hpw hlb hlv
              go_wp2_with fail
              refine (powerMod_any _ _ _ _).mono ?_
              rintro e w' ⟨rfl, rfl⟩
              first | rw [HP1.out, HP2.out] | rw [E2.out, HP1.out, HP2.out]
              go_wp2_with fail
              refine (legendreOf_any _ _ _).mono ?_
              rintro e w' ⟨rfl, rfl⟩
              rw [HP3.out, HP4.out]
              go_wp2
              go_ret
              exact ⟨rfl, HB.out⟩

/-! ### THE ROW's STEP: WRITTEN OUT: LEAVE IT -/
set_option maxRecDepth 100000 in
theorem lifted (os : Os) (started : os.Started) (H : Type) (enc : TypeId × Value → H) :
    ReturnsInHanded {} Try.checked os 3 .any (Rows.fnPrimesSpec.pre6 enc Try.prog Try.f3 Rows.fnPrimesRow.domain false) (Rows.fnPrimesSpec.post enc Try.prog Try.f3 false true false false) := by
  refine returnsInHanded_of_change_sized (C := Try.checked) own started (by kernel_rfl) Try.func3
    (ChangeSpec.witness6 (enc := enc) (C := Try.checked) false ⟨#[], #[.slice none 0 0, .slice none 0 0], []⟩ 8 (by kernel_rfl) (by kernel_rfl) (by kernel_rfl) (by kernel_rfl)) ?_
  intro W base args ds gs before hval0 hW hcnd hsz0 _
  have hsz : (DataW.weightsEach Try.prog (Try.f3.params.toList ++ Rows.fnPrimesSpec.plain.varTypes Try.prog) (ds ++ gs)).all (· ≤ reachBytes) = true := hsz0
  clear hsz0
  have hval : ∀ (j : Nat) t v, Try.f3.params[j]? = some t → args[j]? = some v → Value.okWide Try.prog W .any base t v := hval0
  have hW' := hW
  obtain ⟨p, q, hA0, hV, rfl, hfz, hnd⟩ := hW
  have hA : DataW.TrodAll enc Try.prog W 0 (fun _ => true) true Try.f3.params.toList args.toList ds p := hA0
  rw [Try.params3] at hA hval hsz
  obtain ⟨v0, vs0, d0, ds0, p0, q0, hargs, rfl, rfl, h0, r0⟩ := trodAll_cons hA
  obtain ⟨v1, vs1, d1, ds1, p1, q1, rfl, rfl, rfl, h1, r1⟩ := trodAll_cons r0
  obtain ⟨rfl, rfl, rfl⟩ := trodAll_nil r1
  obtain rfl : args = #[v0, v1] := by cases args; simp_all
  obtain ⟨rfl, rfl⟩ := trodVars_none hV
  obtain ⟨a0, len0, cap0, rfl⟩ := okWide_slice Try.underlying22 (hval 0 22 v0 rfl rfl)
  have k0 := h0
  have lt0 : ∀ x ∈ p0, x.block < W.heap.size := by obtain ⟨m, hm⟩ := k0; exact DataW.trod_lt m _ _ _ hm
  obtain ⟨z0, w0, s0⟩ : ∃ zs, IsRow .u8 W a0 len0 cap0 zs ∧ len0 ≤ 140737488351232 := by
    obtain ⟨fuel, hf⟩ := h0
    rcases open_ints Try.underlying22 Try.underlying5 (by kernel_rfl) hf with ⟨hcs, hx⟩ | ⟨x, l, c, zs, hcs, _, hl, hm, hz, hx, hcell, hwz⟩
    · simp [Value.cells] at hcs
      obtain ⟨rfl, rfl, rfl⟩ := hcs
      exact ⟨[], .inl ⟨rfl, rfl, rfl, rfl⟩, by decide⟩
    · simp [Value.cells] at hcs
      obtain ⟨rfl, rfl, rfl⟩ := hcs
      simp only [Prod.mk.injEq] at hx
      have hq := sized_slice hsz (j := 0) (t := 22) (e := 5) rfl (congrArg some hx.1) Try.underlying22
      rw [bytes5] at hq
      simp only [lits, List.length_map, List.length_take, List.length_drop, reachBytes] at hq
      simp only [if_true] at hz
      exact ⟨zs, .inr ⟨_, rfl, hl, hm, by simpa using hz, hcell, hwz⟩, by omega⟩
  obtain ⟨a1, len1, cap1, rfl⟩ := okWide_slice Try.underlying22 (hval 1 22 v1 rfl rfl)
  have k1 := h1
  have lt1 : ∀ x ∈ p1, x.block < W.heap.size := by obtain ⟨m, hm⟩ := k1; exact DataW.trod_lt m _ _ _ hm
  obtain ⟨z1, w1, s1⟩ : ∃ zs, IsRow .u8 W a1 len1 cap1 zs ∧ len1 ≤ 140737488351232 := by
    obtain ⟨fuel, hf⟩ := h1
    rcases open_ints Try.underlying22 Try.underlying5 (by kernel_rfl) hf with ⟨hcs, hx⟩ | ⟨x, l, c, zs, hcs, _, hl, hm, hz, hx, hcell, hwz⟩
    · simp [Value.cells] at hcs
      obtain ⟨rfl, rfl, rfl⟩ := hcs
      exact ⟨[], .inl ⟨rfl, rfl, rfl, rfl⟩, by decide⟩
    · simp [Value.cells] at hcs
      obtain ⟨rfl, rfl, rfl⟩ := hcs
      simp only [Prod.mk.injEq] at hx
      have hq := sized_slice hsz (j := 1) (t := 22) (e := 5) rfl (congrArg some hx.1) Try.underlying22
      rw [bytes5] at hq
      simp only [lits, List.length_map, List.length_take, List.length_drop, reachBytes] at hq
      simp only [if_true] at hz
      exact ⟨zs, .inr ⟨_, rfl, hl, hm, by simpa using hz, hcell, hwz⟩, by omega⟩
  clear hA0 hval0
  refine (walk a0 len0 cap0 z0 a1 len1 cap1 z1 W w0 w1 s0 s1).mono fun e W' ⟨he, bel⟩ => ?_
  subst he
  exact ⟨_, rfl, _, _, _, [], _, [], hW', trodAll_mk1 (shut_bool Try.underlying4 _), (trodAll_cons_mk (Below.trod laidOut (by kernel_rfl) (of_decide_eq_true (by kernel_rfl)) k0 bel lt0) (trodAll_cons_mk (Below.trod laidOut (by kernel_rfl) (of_decide_eq_true (by kernel_rfl)) k1 bel lt1) trodAll_mk0)), rfl, bel.frame _, fun h => by cases h⟩

theorem over : Rows.fnPrimesRow.holds Try.pinned (OpenSpec.ofChange Rows.fnPrimesSpec) :=
  OpenClaim.holds_of_wide 3 Try.f3 rfl rfl rfl rfl rfl rfl rfl ⟨rfl, rfl, rfl, rfl, rfl⟩ rfl rfl rfl rfl rfl (by kernel_rfl) Try.func3
    (show joinedFacts Try.prog 3 Try.f3 Rows.fnPrimesSpec Rows.fnPrimesRow = true by unfold joinedFacts; rw [Head.make, Head.lifts, Head.enters]; kernel_rfl)
    (of_decide_eq_true (by kernel_rfl)) (by unfold Func.isWrapper; first | (rw [if_pos (by decide +kernel)]; kernel_rfl) | (rw [if_neg (by decide +kernel)]; exact ⟨rfl, rfl⟩))
    (fun os started H enc _ => lifted os started H enc)

/-- ████ THE STATEMENT ████ -/
theorem proved : Rows.FnPrimesSaid := over
#print axioms proved
end Go.Proofs.Ytdeedblemcfllaa.fnPrimes
