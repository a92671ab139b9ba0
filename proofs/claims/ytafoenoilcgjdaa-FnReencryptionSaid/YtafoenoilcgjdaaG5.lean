/- MakeGroup of the program and of the reference. -/
import Derived.Test.YtafoenoilcgjdaaG3
namespace Go.Proofs.Ytafoenoilcgjdaa
open Go.RowKit

namespace Num
/-- The generator that MakeGroup lays. -/
def genG (p q : Nat) : Nat := genH p q ^ ((p - 1) / q) % p
theorem genG_spec {p q : Nat} (hp : Pr p) (hq : 2 ≤ q) (hd : q ∣ p - 1) : 2 ≤ genG p q ∧ genG p q < p ∧ genG p q ^ q % p = 1 := by
  obtain ⟨h1, h2, h3, _⟩ := genH_spec hp hq hd
  have hp2 := hp.1
  have he := proj_el hp hd (show 1 ≤ genH p q by omega) h2
  have hpos := el_pos (x := genG p q) (by omega) (show 1 ≤ q by omega) he
  have hlt : genG p q < p := Nat.mod_lt _ (by omega)
  rw [Nat.mod_eq_of_lt hlt] at hpos
  have hne : genG p q ≠ 1 := h3
  exact ⟨by omega, hlt, he⟩
end Num

/-- A variable of three integers that is one's own: it may be written. -/
def Own3 (w : World) (b : Nat) (P Q G : Int) : Prop := GR w b P Q G ∧ ∀ i, w.frozen? ⟨b, i, none⟩ = false
theorem own3_new (w : World) (P Q G : Int) (t : TypeId) : Own3 (w.alloc (.cells #[.int .i64 P, .int .i64 Q, .int .i64 G] t)) w.heap.size P Q G :=
  ⟨gr_new w P Q G t, fun _ => World.frozen?_alloc_at _ _ _ _ rfl⟩
theorem Own3.below {w w' : World} {b : Nat} {P Q G : Int} (h : Own3 w b P Q G) (hb : Below w.heap.size w w') : Own3 w' b P Q G :=
  ⟨h.1.below hb, fun i => by rw [hb.frozen (p := ⟨b, i, none⟩) h.1.lt]; exact h.2 i⟩
theorem Own3.set {w : World} {b : Nat} {P Q G : Int} (h : Own3 w b P Q G) (x : Int) : Own3 (w.setCell ⟨b, 2, none⟩ (.int .i64 x)) b P Q x := by
  obtain ⟨⟨c0, c1, c2⟩, hf⟩ := h
  refine ⟨⟨?_, ?_, ?_⟩, fun i => by rw [World.frozen?_setCell]; exact hf i⟩
  · rw [World.cell?_setCell_other _ _ _ _ (by simp)]; exact c0
  · rw [World.cell?_setCell_other _ _ _ _ (by simp)]; exact c1
  · exact World.cell?_setCell_same _ _ _ c2
theorem Own3.other {w : World} {b : Nat} {P Q G : Int} (h : Own3 w b P Q G) (a : Addr) (v : Value) (hne : a.block ≠ b) : Own3 (w.setCell a v) b P Q G := by
  obtain ⟨⟨c0, c1, c2⟩, hf⟩ := h
  refine ⟨⟨?_, ?_, ?_⟩, fun i => by rw [World.frozen?_setCell]; exact hf i⟩
  · rw [World.cell?_setCell_other _ _ _ _ (fun e => hne (by rw [e]))]; exact c0
  · rw [World.cell?_setCell_other _ _ _ _ (fun e => hne (by rw [e]))]; exact c1
  · rw [World.cell?_setCell_other _ _ _ _ (fun e => hne (by rw [e]))]; exact c2

set_option maxRecDepth 100000 in
set_option maxHeartbeats 1600000 in
theorem withFirst_nat (p q : Nat) (G : Int) (hp : Num.Pr p) (hq : 2 ≤ q) (hd : q ∣ p - 1) (hle : p ≤ 2000000000) (w : World) :
    Calls Try.prog 69 #[gv p q G] w fun e w' => e = .returned (gv p q (Num.genG p q)) ∧ Below w.heap.size w w' := by
  obtain ⟨h1, h2, h3, h4⟩ := Num.genH_spec hp hq hd
  have hp2 := hp.1
  have hqp : q ≤ p - 1 := Nat.le_of_dvd (by omega) hd
  have hdv : ((p : Int) - 1) / (q : Int) = (((p - 1) / q : Nat) : Int) := by
    rw [show (p : Int) - 1 = ((p - 1 : Nat) : Int) by omega, Int.natCast_ediv]
  have HDV := Lib.hid hdv
  have HG := Lib.hid (show Num.genH p q ^ ((p - 1) / q) % p = Num.genG p q from rfl)
  have HNE := Lib.hid h3
  have HALL := Lib.hid h4
  generalize Num.genH p q = h0 at *
  generalize Num.genG p q = g at *
  clear h3 h4 hdv hp hd
  go_enter Try.func69, Try.ntmps69
  go_wp2
  go_loopw [3] (fun H wr => ∃ h : Nat, (2 ≤ h ∧ h ≤ h0 + 1) ∧ H = .int .i64 h ∧ Below w.heap.size w wr ∧ Own3 wr w.heap.size p q (if h = h0 + 1 then g else 1) ∧ Own3 wr (w.heap.size + 1) 0 0 0) (fun H _ => h0 + 1 - (intOf H).toNat)
  case atStart =>
    refine ⟨2, by omega, rfl, bt (ba _ _) (ba _ _), ?_, ?_⟩
    · rw [if_neg (by omega)]
      exact (own3_new w p q 1 _).below (ba _ _)
    · have h := own3_new (w.alloc (.cells #[.int .i64 p, .int .i64 q, .int .i64 1] 27)) 0 0 0 27
      rwa [show (w.alloc (.cells #[.int .i64 p, .int .i64 q, .int .i64 1] 27)).heap.size = w.heap.size + 1 by simp] at h
  case round =>
    obtain ⟨h, ⟨hh1, hh2⟩, rfl, hbel, hown, hres⟩ := hrel
    have HB := Lib.hid hbel
    clear hbel
    by_cases he : h = h0 + 1
    · rw [if_pos he] at hown
      have hg1 : ((g : Int) == 1) = false := by
        have := HNE.out
        rw [HG.out] at this
        exact beq_eq_false_iff_ne.2 (fun h => this (Int.ofNat.inj h))
      obtain ⟨⟨c0, c1, c2⟩, hf⟩ := hown
      obtain ⟨⟨r0, r1, r2⟩, hfr⟩ := hres
      have f0 := hfr 0
      have f1 := hfr 1
      have f2 := hfr 2
      clear hf hfr
      go_wp2
      (try simp only [Exit.inBlock, Exit.then])
      refine bodyPost_ret (v := gv p q g) ?_ rfl ⟨rfl, ?_⟩
      · rw [results_cell_one rfl]; go_simp
      · exact ((HB.out.setCell (Nat.le_succ _) _).setCell (Nat.le_succ _) _).setCell (Nat.le_succ _) _
    · rw [if_neg he] at hown
      have HO := Lib.hid hown
      have HR := Lib.hid hres
      obtain ⟨⟨c0, c1, c2⟩, hf⟩ := hown
      clear hf hres
      go_wp2_with fail
      refine (project_any p q 1 h (by omega) (by omega) (by omega) (by omega) (by omega) _).mono ?_
      rintro e w1 ⟨rfl, hb1⟩
      have HB1 := Lib.hid (HB.out.trans (hb1.mono HB.out.size))
      have HO1 := Lib.hid (HO.out.below hb1)
      have HR1 := Lib.hid (HR.out.below hb1)
      obtain ⟨⟨d0, d1, d2⟩, df⟩ := HO1.out
      have f2 := df 2
      clear hb1 df c0 c1 c2
      go_wp2
      go_roundw
      case rel =>
        have hv : Num.pow (h : Int) (((p : Int) - 1) / (q : Int)) (p : Int) = if h + 1 = h0 + 1 then (g : Int) else 1 := by
          rw [HDV.out, Num.pow_eq (by omega)]
          by_cases hh : h = h0
          · rw [if_pos (by omega), hh, HG.out]
          · rw [if_neg (by omega), HALL.out h hh1 (by omega)]; rfl
        rw [hv]
        exact ⟨h + 1, by omega, by go_num, HB1.out.setCell (Nat.le_refl _) _, HO1.out.set _, HR1.out.other _ _ (by simp)⟩
      case measure => simp only [intOf]; omega

/-- MakeGroup's condition and what it answers. -/
def mkB (q : Int) : Bool := inB q 2 1000000 && Num.prB q && decide (Num.mkP q.toNat (q.toNat + 1) ≠ 0)
def mkVP (q : Int) : Int := if mkB q then (Num.mkP q.toNat (q.toNat + 1) : Nat) else 0
def mkVQ (q : Int) : Int := if mkB q then q else 0
def mkVG (q : Int) : Int := if mkB q then (Num.genG (Num.mkP q.toNat (q.toNat + 1)) q.toNat : Nat) else 0
theorem mk_off {q : Int} (h : mkB q = false) : mkVP q = 0 ∧ mkVQ q = 0 ∧ mkVG q = 0 := by simp [mkVP, mkVQ, mkVG, h]

/-- What is found is a prime that q divides but for 1. -/
theorem mk_found {q p : Nat} (hq : 2 ≤ q) (he : Num.mkP q (q + 1) = p) (h0 : p ≠ 0) : Num.Pr p ∧ p ≤ 2000000000 ∧ q ∣ p - 1 := by
  obtain ⟨h1, h2, h3⟩ := Num.mkP_spec (q := q) (by omega) 2000000001 (q + 1) (by omega) (by omega) ⟨1, by omega⟩ (by rw [he]; exact h0)
  rw [he] at h1 h2 h3
  have := (Num.prB_pr h1).2
  rw [Int.toNat_natCast] at this
  exact ⟨this, h2, h3⟩

theorem isPr_nat {p : Nat} (h : p ≤ 2000000000) : isPr (p : Int) = Num.prB p := by
  unfold isPr; rw [inB_true.2 (by omega)]; rfl

set_option maxHeartbeats 1600000 in
theorem makeGroup_any (q : Int) (w : World) :
    Calls Try.prog 21 #[.int .i64 q] w fun e w' => e = .returned (.tuple #[gv (mkVP q) (mkVQ q) (mkVG q), .bool (mkB q)]) ∧ Below w.heap.size w w' := by
  by_cases hbig : 1000000 < q
  · have hb : mkB q = false := by unfold mkB; rw [inB_false.2 (.inr hbig)]; rfl
    obtain ⟨e1, e2, e3⟩ := mk_off hb
    rw [hb, e1, e2, e3]
    clear hb e1 e2 e3
    go_enter Try.func21, Try.ntmps21
    go_wp2
    (try simp only [Exit.inBlock, Exit.then])
    refine bodyPost_ret (v := .tuple #[gv 0 0 0, .bool false]) ?_ rfl ⟨rfl, ?_⟩
    · rw [results_cell_tmp rfl]; go_simp
    · exact ba _ _
  · cases hp : isPr q
    · have hb : mkB q = false := by
        unfold mkB
        cases hq : inB q 2 1000000
        · rfl
        · have h2 := inB_true.1 hq
          have : Num.prB q = false := by
            unfold isPr at hp; rw [inB_true.2 (by omega)] at hp; exact hp
          rw [this]; rfl
      obtain ⟨e1, e2, e3⟩ := mk_off hb
      rw [hb, e1, e2, e3]
      have HP := Lib.hid hp
      clear hb e1 e2 e3 hp
      go_enter Try.func21, Try.ntmps21
      go_wp2_with fail
      refine (isPrimeB_any _ _).mono ?_; rintro e w' ⟨rfl, rfl⟩; rw [HP.out]
      go_wp2
      (try simp only [Exit.inBlock, Exit.then])
      refine bodyPost_ret (v := .tuple #[gv 0 0 0, .bool false]) ?_ rfl ⟨rfl, ?_⟩
      · rw [results_cell_tmp rfl]; go_simp
      · exact ba _ _
    · obtain ⟨q2, _, hpr⟩ := isPr_of hp
      obtain ⟨q, rfl⟩ := Int.eq_ofNat_of_zero_le (show 0 ≤ q by omega)
      have HP := Lib.hid hp
      have hb : mkB (q : Int) = decide (Num.mkP q (q + 1) ≠ 0) := by
        unfold mkB; rw [inB_true.2 (by omega), hpr, Int.toNat_natCast]; rfl
      have HB0 := Lib.hid hb
      have hspec : ∀ p, Num.mkP q (q + 1) = p → p ≠ 0 → Num.Pr p ∧ p ≤ 2000000000 ∧ q ∣ p - 1 := fun p he h0 => mk_found (by omega) he h0
      have HSP := Lib.hid hspec
      clear hb hp hpr hspec
      go_enter Try.func21, Try.ntmps21
      go_wp2_with fail
      refine (isPrimeB_any _ _).mono ?_; rintro e w' ⟨rfl, rfl⟩; rw [HP.out]
      go_wp2_with fail
      go_loop [4] (fun V => ∃ p : Nat, (1 ≤ p ∧ p ≤ 2001000001) ∧ V = .int .i64 p ∧ Num.mkP q (q + 1) = Num.mkP q p) (fun V => 2001000002 - (intOf V).toNat)
      case atStart => exact ⟨q + 1, by omega, by go_num, rfl⟩
      case round =>
        obtain ⟨p, ⟨hp1, hp2⟩, rfl, he⟩ := hrel
        by_cases hle : p ≤ 2000000000
        · have hlei : (p : Int) ≤ 2000000000 := by omega
          cases hpp : isPr (p : Int)
          · have HG := Lib.hid (he.trans (Num.mkP_go (by omega) hle (by rw [← isPr_nat hle]; exact hpp)))
            have HPP := Lib.hid hpp
            clear he hpp
            go_wp2_with fail
            refine (isPrimeB_any _ _).mono ?_; rintro e w' ⟨rfl, rfl⟩; rw [HPP.out]
            go_wp2
            go_round
            case rel => exact ⟨p + q, by omega, by go_num, HG.out⟩
            case measure => simp only [intOf]; omega
          · have hfound := he.trans (Num.mkP_hit (by omega) hle (by rw [← isPr_nat hle]; exact hpp))
            obtain ⟨s1, s2, s3⟩ := HSP.out p hfound (by omega)
            have e0 : mkB (q : Int) = true := by rw [HB0.out, hfound]; exact decide_eq_true (by omega)
            have e1 : mkVP (q : Int) = p := by simp [mkVP, e0, hfound]
            have e2 : mkVQ (q : Int) = q := by simp [mkVQ, e0]
            have e3 : mkVG (q : Int) = Num.genG p q := by simp [mkVG, e0, hfound]
            have HE := Lib.hid (And.intro e0 (And.intro e1 (And.intro e2 e3)))
            have HPP := Lib.hid hpp
            clear he hpp hfound e0 e1 e2 e3
            have HW := Lib.hid (withFirst_nat p q 0 s1 (by omega) s3 s2)
            clear s1 s3
            go_wp2_with fail
            refine (isPrimeB_any _ _).mono ?_; rintro e w' ⟨rfl, rfl⟩; rw [HPP.out]
            have hres := own3_new w 0 0 0 27
            go_wp2_with fail
            refine (HW.out _).mono ?_
            rintro e w1 ⟨rfl, hb1⟩
            have HB1 := Lib.hid (bt (ba _ _) hb1)
            obtain ⟨⟨c0, c1, c2⟩, hf⟩ := hres.below hb1
            have f0 := hf 0
            have f1 := hf 1
            have f2 := hf 2
            clear hb1 hf
            go_wp2
            (try simp only [Exit.inBlock, Exit.then])
            refine bodyPost_ret (v := .tuple #[gv p q (Num.genG p q), .bool true]) ?_ rfl ⟨by rw [HE.out.1, HE.out.2.1, HE.out.2.2.1, HE.out.2.2.2], ?_⟩
            · rw [results_cell_tmp rfl]; go_simp
            · exact ((HB1.out.setCell (Nat.le_refl _) _).setCell (Nat.le_refl _) _).setCell (Nat.le_refl _) _
        · have hlei : (2000000000 : Int) < (p : Int) := by omega
          have hnone := he.trans (Num.mkP_end (by omega))
          have e0 : mkB (q : Int) = false := by rw [HB0.out, hnone]; rfl
          obtain ⟨e1, e2, e3⟩ := mk_off e0
          have HE := Lib.hid (And.intro e0 (And.intro e1 (And.intro e2 e3)))
          clear he hnone e0 e1 e2 e3
          go_wp2
          (try simp only [Exit.inBlock, Exit.then])
          refine bodyPost_ret (v := .tuple #[gv 0 0 0, .bool false]) ?_ rfl ⟨by rw [HE.out.1, HE.out.2.1, HE.out.2.2.1, HE.out.2.2.2], ?_⟩
          · rw [results_cell_tmp rfl]; go_simp
          · exact ba _ _

end Go.Proofs.Ytafoenoilcgjdaa

