/- PrimitiveRoot of the program and of the reference. -/
import Derived.Test.YtdeedblemcfllaaPrime
import Derived.Test.YtdeedblemcfllaaRoot
import Derived.Test.YtdeedblemcfllaaPairs
namespace Go.Proofs.Ytdeedblemcfllaa
open Go.RowKit

theorem full_step {g p : Int} {zs : List Int} {f e : Int} {k : Nat} (h : zs.drop (k * 2) = f :: e :: zs.drop ((k + 1) * 2)) :
    Num.fullB g p (zs.drop (k * 2)) = (!decide (Num.pow g ((p - 1) / f) p = 1) && Num.fullB g p (zs.drop ((k + 1) * 2))) := by rw [h]; rfl

set_option maxHeartbeats 1600000 in
theorem hasFull_any (g p : Int) (ad : Option Addr) (n cap : Nat) (zs : List Int) (hn : zs.length = n * 2) (hl : n ≤ 17592186044416) (hg0 : 0 ≤ g) (hg1 : g ≤ 2000000000) (hp0 : 2 ≤ p) (hp1 : p ≤ 2000000000)
    (hf : ∀ (k : Nat) (f e : Int) (rest : List Int), zs.drop (k * 2) = f :: e :: rest → 2 ≤ f ∧ f ≤ p - 1) (w : World) (hz : IsInts w ad zs) :
    Calls Try.prog 72 #[.int .i64 g, .int .i64 p, .slice ad n cap] w fun e w' => e = .returned (.bool (Num.fullB g p zs)) ∧ Below w.heap.size w w' := by
  have HN := Lib.hid hn
  have HF := Lib.hid hf
  clear hn hf
  go_enter Try.func72, Try.ntmps72
  go_wp2
  go_loopw [11] (fun K wr => ∃ k : Nat, k ≤ n ∧ K = .int .i64 k ∧ Num.fullB g p zs = Num.fullB g p (zs.drop (k * 2)) ∧ Below w.heap.size w wr) (fun K _ => n - (intOf K).toNat)
  case atStart => exact ⟨0, Nat.zero_le _, rfl, rfl, Below.refl _ _⟩
  case round =>
    obtain ⟨k, hk, rfl, he, hbel⟩ := hrel
    by_cases hkn : k < n
    · obtain ⟨b, off, f, e, rfl, hb, hc1, hc2, hd⟩ := (hz.below hbel (Nat.le_refl _)).pair hkn HN.out
      obtain ⟨hf2, hfp⟩ := HF.out _ _ _ _ hd
      have HS := Lib.hid (he.trans (full_step hd))
      have hq0 : 0 ≤ (p - 1) / f := Int.ediv_nonneg (by omega) (by omega)
      have hq1 : (p - 1) / f ≤ p - 1 := Int.ediv_le_self _ (by omega)
      have hfpos : 0 < f := by omega
      have HB := Lib.hid hbel
      clear he hbel hd
      go_wp2_with fail
      refine (raise_any _ _ _ hg0 hg1 hq0 (by omega) hp0 hp1 _).mono ?_
      rintro e' w' ⟨rfl, rfl⟩
      generalize hx : Num.pow g ((p - 1) / f) p = x
      have HX := Lib.hid hx
      clear hx
      by_cases hx1 : x = 1
      · have hxi : (x == 1) = true := by simp [hx1]
        have HT := Lib.hid (show Num.fullB g p zs = false by rw [HS.out, HX.out, hx1]; simp)
        clear hx1
        go_wp2
        go_ret
        exact ⟨by rw [HT.out]; rfl, HB.out.alloc HB.out.size _⟩
      · have hxi : (x == 1) = false := by simp [hx1]
        have HT := Lib.hid (HS.out.trans (by rw [HX.out, decide_eq_false hx1, Bool.not_false, Bool.true_and]))
        clear hx1
        go_wp2
        go_roundw
        case rel => exact ⟨k + 1, by omega, by go_num, HT.out, HB.out.alloc HB.out.size _⟩
        case measure => simp only [intOf]; omega
    · have HE := Lib.hid he
      have HB := Lib.hid hbel
      clear he hbel
      go_wp2
      go_ret
      refine ⟨?_, HB.out⟩
      rw [HE.out, List.drop_of_length_le (by rw [HN.out]; omega)]; rfl


theorem isPr_iff {p : Int} : isPr p = true ↔ (0 ≤ p ∧ p ≤ 2000000000) ∧ Num.prB p = true := by
  unfold isPr; rw [Bool.and_eq_true, inB_true]

theorem primRoot_no (p : Int) (hp : isPr p = false) (w : World) :
    Calls Try.prog 24 #[.int .i64 p] w fun e w' => e = .returned (.tuple #[.int .i64 0, .bool false]) ∧ w = w' := by
  have HP := Lib.hid hp
  clear hp
  go_enter Try.func24, Try.ntmps24
  go_wp2_with (go_at_call 71; refine (isPrimeB_any _ _).mono ?_; rw [HP.out]; rintro e w' ⟨rfl, rfl⟩)
  go_ret2
  exact ⟨rfl, rfl⟩

set_option maxHeartbeats 1600000 in
theorem primRoot_yes (p g0 : Nat) (hp : isPr (p : Int) = true) (h2 : 2 ≤ p) (hle : p ≤ 2000000000) (hg0 : 0 < g0) (hgp : g0 < p) (hgood : Num.fullB g0 p (Num.factors (p - 1)) = true)
    (hmin : ∀ g : Nat, 0 < g → g < g0 → Num.fullB g p (Num.factors (p - 1)) = false) (w : World) :
    Calls Try.prog 24 #[.int .i64 p] w fun e w' => e = .returned (.tuple #[.int .i64 g0, .bool true]) ∧ Below w.heap.size w w' := by
  have HP := Lib.hid hp
  have HG := Lib.hid hgood
  have HM := Lib.hid hmin
  have HB2 := Lib.hid (fun k f e rest h => Num.factor_bd (p := p) (k := k) (f := f) (e := e) (rest := rest) h2 h)
  have hfac := factorsOf_any ((p : Int) - 1) (by omega) (by omega)
  rw [show ((p : Int) - 1).toNat = p - 1 by omega] at hfac
  have HFac := Lib.hid hfac
  clear hp hgood hmin hfac
  go_enter Try.func24, Try.ntmps24
  go_wp2_with fail
  refine (isPrimeB_any _ _).mono ?_
  rw [HP.out]
  rintro e w' ⟨rfl, rfl⟩
  go_wp2_with fail
  refine (HFac.out _).mono ?_
  rintro e w1 ⟨ad, n, cap, rfl, hown, hn, hb1⟩
  obtain ⟨hz, hzn, _⟩ := ints_of_pairs hown
  have HZN := Lib.hid hzn
  have HB1 := Lib.hid hb1
  clear hown hzn hb1
  go_wp2
  go_loopg [5] g0 (fun gk G wr => ∃ g : Nat, gk + g = g0 + 1 ∧ (0 < g ∧ g ≤ g0) ∧ G = .int .i64 g ∧ Below w1.heap.size w1 wr)
  case atStart => exact ⟨1, by omega, ⟨by omega, by omega⟩, rfl, Below.refl _ _⟩
  case round =>
    obtain ⟨g, hgk, ⟨hg1, hg2⟩, rfl, hbel⟩ := hrel
    have HGK := Lib.hid hgk
    have hzr := hz.below hbel (Nat.le_refl _)
    have HBR := Lib.hid hbel
    clear hgk hbel
    have hgi : (g : Int) < (p : Int) := by omega
    by_cases hgg : g = g0
    · subst hgg
      go_wp2_with fail
      refine (hasFull_any _ _ _ _ _ (Num.factors (p - 1)) HZN.out (by omega) (by omega) (by omega) (by omega) (by omega) HB2.out _ hzr).mono ?_
      rw [HG.out]
      rintro e w2 ⟨rfl, hb2⟩
      have HB3 := Lib.hid (HBR.out.trans (hb2.mono HBR.out.size))
      clear hb2
      go_wp2
      go_ret2
      exact ⟨rfl, HB1.out.trans (HB3.out.mono HB1.out.size)⟩
    · go_wp2_with fail
      refine (hasFull_any _ _ _ _ _ (Num.factors (p - 1)) HZN.out (by omega) (by omega) (by omega) (by omega) (by omega) HB2.out _ hzr).mono ?_
      rw [HM.out g hg1 (by omega)]
      rintro e w2 ⟨rfl, hb2⟩
      have HB3 := Lib.hid (HBR.out.trans (hb2.mono HBR.out.size))
      clear hb2
      go_wp2
      go_roundg (g0 - g)
      case measure => have := HGK.out; omega
      case rel => exact ⟨g + 1, by omega, ⟨by omega, by omega⟩, by go_num, HB3.out⟩


theorem sPrimRoot_no (p : Int) (hp : isPr p = false) (w : World) :
    Calls Try.prog 25 #[.int .i64 p] w fun e w' => e = .returned (.tuple #[.int .i64 0, .bool false]) ∧ w = w' := by
  cases hi : inB p 2 2000000000
  · have HI := Lib.hid hi
    clear hp hi
    go_enter Try.func25, Try.ntmps25
    go_wp2_with fail
    refine (l1In_any _ _ _ _).mono ?_; rintro e w' ⟨rfl, rfl⟩; rw [HI.out]
    go_wp2
    go_ret2
    exact ⟨rfl, rfl⟩
  · obtain ⟨h1, h2⟩ := inB_true.1 hi
    have hb : Num.prB p = false := by
      cases hb : Num.prB p
      · rfl
      · rw [isPr_iff.2 ⟨by omega, hb⟩] at hp; cases hp
    have HI := Lib.hid hi
    have HP := Lib.hid hb
    clear hp hi hb
    go_enter Try.func25, Try.ntmps25
    go_wp2_with fail
    refine (l1In_any _ _ _ _).mono ?_; rintro e w' ⟨rfl, rfl⟩; rw [HI.out]
    go_wp2_with fail
    refine (nPrime_any _ h2 _).mono ?_; rw [HP.out]; rintro e w' ⟨rfl, rfl⟩
    go_wp2
    go_ret2
    exact ⟨rfl, rfl⟩

set_option maxHeartbeats 3200000 in
theorem sPrimRoot_yes (p g0 : Nat) (hp : Num.prB (p : Int) = true) (h2 : 2 ≤ p) (hle : p ≤ 2000000000) (hg0 : 0 < g0) (hgp : g0 < p) (hgood : Num.fullB g0 p (Num.factors (p - 1)) = true)
    (hmin : ∀ g : Nat, 0 < g → g < g0 → Num.fullB g p (Num.factors (p - 1)) = false) (w : World) :
    Calls Try.prog 25 #[.int .i64 p] w fun e w' => e = .returned (.tuple #[.int .i64 g0, .bool true]) ∧ Below w.heap.size w w' := by
  have HI := Lib.hid (show inB (p : Int) 2 2000000000 = true from inB_true.2 (by omega))
  have HP := Lib.hid hp
  have HG := Lib.hid hgood
  have HM := Lib.hid hmin
  have HB2 := Lib.hid (fun k f e rest h => Num.factor_bd (p := p) (k := k) (f := f) (e := e) (rest := rest) h2 h)
  have hfac := nFactor_any ((p : Int) - 1) (by omega) (by omega)
  rw [show ((p : Int) - 1).toNat = p - 1 by omega] at hfac
  have HFac := Lib.hid hfac
  clear hp hgood hmin hfac
  go_enter Try.func25, Try.ntmps25
  go_wp2_with fail
  refine (l1In_any _ _ _ _).mono ?_; rintro e w' ⟨rfl, rfl⟩; rw [HI.out]
  go_wp2_with fail
  refine (nPrime_any _ (by omega) _).mono ?_; rw [HP.out]; rintro e w' ⟨rfl, rfl⟩
  go_wp2_with fail
  refine (HFac.out _).mono ?_
  rintro e w1 ⟨ad, n, cap, rfl, hown, hn, hb1⟩
  obtain ⟨hz, hzn, _⟩ := ints_of_pairs hown
  have HZN := Lib.hid hzn
  have HB1 := Lib.hid hb1
  clear hown hzn hb1
  go_wp2
  go_loopg [5] g0 (fun gk G wr => ∃ g : Nat, gk + g = g0 + 1 ∧ (0 < g ∧ g ≤ g0) ∧ G = .int .i64 g ∧ Below w1.heap.size w1 wr)
  case atStart => exact ⟨1, by omega, ⟨by omega, by omega⟩, rfl, Below.refl _ _⟩
  case round =>
    obtain ⟨g, hgk, ⟨hg1, hg2⟩, rfl, hbel⟩ := hrel
    have HGK := Lib.hid hgk
    have HBR := Lib.hid hbel
    clear hgk hbel
    have hgi : (g : Int) < (p : Int) := by omega
    go_wp2
    go_loopg [6, 24] n (fun gj B K wj => ∃ (k : Nat) (b : Bool), gj + k = n ∧ k ≤ n ∧ B = .bool b ∧ K = .int .i64 k ∧ Below w1.heap.size w1 wj ∧ Num.fullB g p (Num.factors (p - 1)) = (b && Num.fullB g p ((Num.factors (p - 1)).drop (k * 2))))
    case atStart => exact ⟨0, true, by omega, by omega, rfl, rfl, HBR.out, by simp⟩
    case round =>
      obtain ⟨k, b, hgj, hk, rfl, rfl, hbj, hfu⟩ := hrel
      have HGJ := Lib.hid hgj
      clear hgj
      by_cases hkn : k < n
      · obtain ⟨bb, off, f, e, rfl, hb, hc1, hc2, hd⟩ := (hz.below hbj (Nat.le_refl _)).pair hkn HZN.out
        obtain ⟨hf2, hfp⟩ := HB2.out _ _ _ _ hd
        have HS := Lib.hid (hfu.trans (by rw [full_step hd]))
        have hq0 : 0 ≤ ((p : Int) - 1) / f := Int.ediv_nonneg (by omega) (by omega)
        have hq1 : ((p : Int) - 1) / f ≤ (p : Int) - 1 := Int.ediv_le_self _ (by omega)
        have hfpos : 0 < f := by omega
        have HBJ := Lib.hid hbj
        clear hbj hd hfu
        cases b
        · have HT := Lib.hid (show Num.fullB g p (Num.factors (p - 1)) = (false && Num.fullB g p ((Num.factors (p - 1)).drop ((k + 1) * 2))) by rw [HS.out]; simp)
          go_wp2
          go_roundg (n - (k + 1))
          case measure => have := HGJ.out; omega
          case rel => exact ⟨k + 1, false, by omega, by omega, rfl, by go_num, HBJ.out.alloc HBJ.out.size _, HT.out⟩
        · go_wp2_with fail
          refine (nPower_any _ _ _ (by omega) (by omega) hq0 (by omega) (by omega) (by omega) _).mono ?_
          rintro e' w' ⟨rfl, rfl⟩
          generalize hx : Num.pow (g : Int) (((p : Int) - 1) / f) p = x
          have HX := Lib.hid hx
          clear hx
          by_cases hx1 : x = 1
          · have hxi : (x != 1) = false := by simp [hx1]
            have HT := Lib.hid (show Num.fullB g p (Num.factors (p - 1)) = (false && Num.fullB g p ((Num.factors (p - 1)).drop ((k + 1) * 2))) by rw [HS.out, HX.out, hx1]; simp)
            clear hx1
            go_wp2
            go_roundg (n - (k + 1))
            case measure => have := HGJ.out; omega
            case rel => exact ⟨k + 1, false, by omega, by omega, rfl, by go_num, HBJ.out.alloc HBJ.out.size _, HT.out⟩
          · have hxi : (x != 1) = true := by simp [hx1]
            have HT := Lib.hid (show Num.fullB g p (Num.factors (p - 1)) = (true && Num.fullB g p ((Num.factors (p - 1)).drop ((k + 1) * 2))) by rw [HS.out, HX.out, decide_eq_false hx1]; simp)
            clear hx1
            go_wp2
            go_roundg (n - (k + 1))
            case measure => have := HGJ.out; omega
            case rel => exact ⟨k + 1, true, by omega, by omega, rfl, by go_num, HBJ.out.alloc HBJ.out.size _, HT.out⟩
      · have hb : Num.fullB g p (Num.factors (p - 1)) = b := by
          rw [hfu, List.drop_of_length_le (by rw [HZN.out]; omega)]
          cases b <;> rfl
        have HBJ := Lib.hid hbj
        clear hbj hfu
        by_cases hgg : g = g0
        · subst hgg
          obtain rfl : b = true := by rw [← hb]; exact HG.out
          clear hb
          go_wp2
          go_ret2
          exact ⟨rfl, HB1.out.trans (HBJ.out.mono HB1.out.size)⟩
        · obtain rfl : b = false := by rw [← hb]; exact HM.out g hg1 (by omega)
          clear hb
          go_wp2
          go_roundg (g0 - g)
          case measure => have := HGK.out; omega
          case rel => exact ⟨g + 1, by omega, ⟨by omega, by omega⟩, by go_num, HBJ.out⟩

end Go.Proofs.Ytdeedblemcfllaa

