/- MakeGroup of the reference. -/
import Derived.Test.YtdnofcpobpoehaaG5
namespace Go.Proofs.Ytdnofcpobpoehaa
open Go.RowKit

set_option maxRecDepth 100000 in
set_option maxHeartbeats 1000000 in
theorem sMakeGroup_any (q : Int) (w : World) :
    Calls Try.prog 163 #[.int .i64 q] w fun e w' => e = .returned (.tuple #[gv (mkVP q) (mkVQ q) (mkVG q), .bool (mkB q)]) ∧ Below w.heap.size w w' := by
  cases hi : inB q 2 1000000
  · have hb : mkB q = false := by unfold mkB; rw [hi]; rfl
    obtain ⟨e1, e2, e3⟩ := mk_off hb
    rw [hb, e1, e2, e3]
    have HI := Lib.hid hi
    clear hb e1 e2 e3 hi
    go_enter Try.func163, Try.ntmps163
    go_wp2_with fail
    refine (l1In_any _ _ _ _).mono ?_; rintro e w' ⟨rfl, rfl⟩; rw [HI.out]
    go_wp2
    (try simp only [Exit.inBlock, Exit.then])
    refine bodyPost_ret (v := .tuple #[gv 0 0 0, .bool false]) ?_ rfl ⟨rfl, ?_⟩
    · rw [results_cell_tmp rfl]; go_simp
    · exact ba _ _
  · obtain ⟨q2, q3⟩ := inB_true.1 hi
    have HI := Lib.hid hi
    cases hp : Num.prB q
    · have hb : mkB q = false := by unfold mkB; rw [hi, hp]; rfl
      obtain ⟨e1, e2, e3⟩ := mk_off hb
      rw [hb, e1, e2, e3]
      have HP := Lib.hid hp
      clear hb e1 e2 e3 hp hi
      go_enter Try.func163, Try.ntmps163
      go_wp2_with fail
      refine (l1In_any _ _ _ _).mono ?_; rintro e w' ⟨rfl, rfl⟩; rw [HI.out]
      go_wp2_with fail
      refine (nPrime_any _ (by omega) _).mono ?_; rintro e w' ⟨rfl, rfl⟩; rw [HP.out]
      go_wp2
      (try simp only [Exit.inBlock, Exit.then])
      refine bodyPost_ret (v := .tuple #[gv 0 0 0, .bool false]) ?_ rfl ⟨rfl, ?_⟩
      · rw [results_cell_tmp rfl]; go_simp
      · exact ba _ _
    · obtain ⟨q, rfl⟩ := Int.eq_ofNat_of_zero_le (show 0 ≤ q by omega)
      have HP := Lib.hid hp
      have hb : mkB (q : Int) = decide (Num.mkP q (q + 1) ≠ 0) := by
        unfold mkB; rw [hi, hp, Int.toNat_natCast]; rfl
      have HB0 := Lib.hid hb
      have hspec : ∀ p, Num.mkP q (q + 1) = p → p ≠ 0 → Num.Pr p ∧ p ≤ 2000000000 ∧ q ∣ p - 1 := fun p he h0 => mk_found (by omega) he h0
      have HSP := Lib.hid hspec
      clear hb hp hspec hi
      have hqi : 0 < (q : Int) := by omega
      go_enter Try.func163, Try.ntmps163
      go_wp2_with fail
      refine (l1In_any _ _ _ _).mono ?_; rintro e w' ⟨rfl, rfl⟩; rw [HI.out]
      go_wp2_with fail
      refine (nPrime_any _ (by omega) _).mono ?_; rintro e w' ⟨rfl, rfl⟩; rw [HP.out]
      go_wp2_with fail
      go_loop [4, 5] (fun V _ => ∃ p : Nat, (2 ≤ p ∧ p ≤ 2001000001) ∧ V = .int .i64 p ∧ Num.mkP q (q + 1) = Num.mkP q p) (fun V _ => 2001000002 - (intOf V).toNat)
      case atStart => exact ⟨q + 1, by omega, by go_num, rfl⟩
      case round =>
        obtain ⟨p, ⟨hp1, hp2⟩, rfl, he⟩ := hrel
        by_cases hle : p ≤ 2000000000
        · have hlei : (p : Int) ≤ 2000000000 := by omega
          cases hpp : Num.prB (p : Int)
          · have HG := Lib.hid (he.trans (Num.mkP_go (by omega) hle hpp))
            have HPP := Lib.hid hpp
            clear he hpp
            go_wp2_with fail
            refine (nPrime_any _ hlei _).mono ?_; rintro e w' ⟨rfl, rfl⟩; rw [HPP.out]
            go_wp2
            go_round
            case rel => exact ⟨p + q, by omega, by go_num, HG.out⟩
            case measure => simp only [intOf]; omega
          · have hfound := he.trans (Num.mkP_hit (by omega) hle hpp)
            obtain ⟨s1, s2, s3⟩ := HSP.out p hfound (by omega)
            have e0 : mkB (q : Int) = true := by rw [HB0.out, hfound]; exact decide_eq_true (by omega)
            have e1 : mkVP (q : Int) = p := by simp [mkVP, e0, hfound]
            have e2 : mkVQ (q : Int) = q := by simp [mkVQ, e0]
            have e3 : mkVG (q : Int) = Num.genG p q := by simp [mkVG, e0, hfound]
            have HE := Lib.hid (And.intro e0 (And.intro e1 (And.intro e2 e3)))
            obtain ⟨g1, g2, g3, g4⟩ := Num.genH_spec s1 (show 2 ≤ q by omega) s3
            have hdv : ((p : Int) - 1) / (q : Int) = (((p - 1) / q : Nat) : Int) := by
              rw [show (p : Int) - 1 = ((p - 1 : Nat) : Int) by omega, Int.natCast_ediv]
            have HDV := Lib.hid hdv
            have HG := Lib.hid (show Num.genH p q ^ ((p - 1) / q) % p = Num.genG p q from rfl)
            have HNE := Lib.hid g3
            have HALL := Lib.hid g4
            have hq' := quo_bd (P := p) (Q := q) (by omega) hlei (by omega)
            have hC : ∀ h : Nat, 2 ≤ h → h ≤ Num.genH p q → ∀ w, Calls Try.prog 121 #[.int .i64 h, .int .i64 (((p : Int) - 1) / (q : Int)), .int .i64 p] w fun e' w' => e' = .returned (.int .i64 (if h = Num.genH p q then (Num.genG p q : Int) else 1)) ∧ w = w' := by
              intro h k1 k2 w
              have hc := nPower_any (h : Int) (((p : Int) - 1) / (q : Int)) p (by omega) (by omega) hq'.1 (by omega) (by omega) hlei w
              have hv : Num.pow (h : Int) (((p : Int) - 1) / (q : Int)) (p : Int) = if h = Num.genH p q then (Num.genG p q : Int) else 1 := by
                rw [hdv, Num.pow_eq (by omega)]
                by_cases hh : h = Num.genH p q
                · rw [if_pos hh, hh]; rfl
                · rw [if_neg hh, g4 h k1 (by omega)]; rfl
              rwa [hv] at hc
            have HC := Lib.hid hC
            clear hq' hC
            generalize Num.genH p q = h0 at *
            generalize Num.genG p q = g at *
            have HPP := Lib.hid hpp
            clear he hpp hfound e0 e1 e2 e3 s1 s3 g3 g4 hdv
            go_wp2_with fail
            refine (nPrime_any _ hlei _).mono ?_; rintro e w' ⟨rfl, rfl⟩; rw [HPP.out]
            go_wp2_with fail
            go_loop [5] (fun H => ∃ h : Nat, (2 ≤ h ∧ h ≤ h0) ∧ H = .int .i64 h) (fun H => h0 - (intOf H).toNat)
            case atStart => exact ⟨2, by omega, rfl⟩
            case round =>
              obtain ⟨h, ⟨hh1, hh2⟩, rfl⟩ := hrel
              by_cases hh : h = h0
              · have hg1 : ((g : Int) == 1) = false := by
                  have := HNE.out
                  rw [HG.out] at this
                  exact beq_eq_false_iff_ne.2 (fun h => this (Int.ofNat.inj h))
                have HC1 := HC.out h hh1 hh2
                rw [if_pos hh] at HC1
                subst hh
                have HC2 := Lib.hid HC1
                clear HC HDV HALL HNE HG HSP HB0 HI HP HPP HC1
                go_wp2_with fail
                refine (HC2.out _).mono ?_
                rintro e w' ⟨rfl, rfl⟩
                go_wp2_with fail
                refine (HC2.out _).mono ?_
                rintro e w' ⟨rfl, rfl⟩
                go_wp2
                (try simp only [Exit.inBlock, Exit.then])
                refine bodyPost_ret (v := .tuple #[gv p q g, .bool true]) ?_ rfl ⟨by rw [HE.out.1, HE.out.2.1, HE.out.2.2.1, HE.out.2.2.2], ?_⟩
                · rw [results_cell_tmp rfl]; go_simp
                · first | exact ba _ _ | exact (ba _ _).drew | exact (((ba w _).setCell (Nat.le_refl _) _).setCell (Nat.le_refl _) _).setCell (Nat.le_refl _) _
              · have HC1 := HC.out h hh1 hh2
                rw [if_neg hh] at HC1
                have HC2 := Lib.hid HC1
                clear HC HDV HALL HNE HG HSP HB0 HI HP HPP HC1
                go_wp2_with fail
                refine (HC2.out _).mono ?_
                rintro e w' ⟨rfl, rfl⟩
                go_wp2
                go_round
                case rel => exact ⟨h + 1, by omega, by go_num⟩
                case measure => simp only [intOf]; omega
        · have hlei : (2000000000 : Int) < (p : Int) := by omega
          have hnone := he.trans (Num.mkP_end (by omega))
          have e0 : mkB (q : Int) = false := by rw [HB0.out, hnone]; rfl
          obtain ⟨e1, e2, e3⟩ := mk_off e0
          have HE := Lib.hid (And.intro e0 (And.intro e1 (And.intro e2 e3)))
          clear he hnone e0 e1 e2 e3
          go_wp2
          (try simp only [Exit.inBlock, Exit.then])
          refine bodyPost_ret (v := .tuple #[gv 0 0 0, .bool false]) ?_ rfl ⟨by rw [HE.out.1, HE.out.2.1, HE.out.2.2.1, HE.out.2.2.2], ?_⟩
          · rw [results_cell_tmp rfl]; go_simp
          · exact ba _ _

end Go.Proofs.Ytdnofcpobpoehaa

