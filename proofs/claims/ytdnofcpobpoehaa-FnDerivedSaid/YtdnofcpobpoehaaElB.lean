/- ElGamal: lists of ciphertexts and exponents, the combination of ciphertexts: products and powers. -/
import Derived.Test.YtdnofcpobpoehaaElA
import Derived.Test.YtdnofcpobpoehaaTyI
import Derived.RegionTactic
import Derived.BigRegion
namespace Go.Proofs.Ytdnofcpobpoehaa
open Go.RowKit


theorem cs_step {P Q : Int} {zs rest : List Int} {p q : Int} {k : Nat} {t : Bool} (h : zs.drop (k * 2) = p :: q :: rest) (hb : t = allEl P Q (zs.drop (k * 2))) :
    (cipB P Q p q = true → t = allEl P Q rest) ∧ (cipB P Q p q = false → t = false) := by
  rw [h] at hb
  unfold allEl at *
  simp only [List.all_cons] at hb
  rw [← Bool.and_assoc] at hb
  subst hb
  exact ⟨fun h' => by show (cipB P Q p q && _) = _; rw [h']; rfl, fun h' => by show (cipB P Q p q && _) = _; rw [h']; rfl⟩

/-- Exponents: a list of at most 24. -/
def exsB (Q : Int) (es : List Int) : Bool := decide (es.length ≤ 24) && es.all fun e => exB Q e


set_option maxHeartbeats 1600000 in
theorem allExps_any (P Q G : Int) (ad : Option Addr) (n cap : Nat) (zs : List Int) (hn : zs.length = n) (hl : n ≤ 1152921504606846976) (w : World) (hz : IsInts w ad zs) :
    Calls Try.prog 116 #[.slice ad n cap, .func (.func 125) #[gv P Q G] #[]] w fun e w' => e = .returned (.bool (zs.all fun z => exB Q z)) ∧ Below w.heap.size w w' := by
  go_enter Try.func116, Try.ntmps116
  go_wp2
  go_loopw [6, 9] (fun _ K wr => ∃ k : Nat, k ≤ n ∧ K = .int .i64 k ∧ (zs.all fun z => exB Q z) = ((zs.drop k).all fun z => exB Q z) ∧ Below w.heap.size w wr) (fun _ K _ => n - (intOf K).toNat)
  case atStart => exact ⟨0, Nat.zero_le _, rfl, rfl, Below.refl _ _⟩
  case round =>
    obtain ⟨k, hk, rfl, he, hbel⟩ := hrel
    by_cases hkn : k < n
    · obtain ⟨b, off, z, rfl, hb, hc, hd⟩ := (hz.below hbel (Nat.le_refl _)).at (k := k) (by omega)
      have HS := Lib.hid (all_step hd he)
      have HB := Lib.hid hbel
      clear he hd hbel
      cases hi' : exB Q z
      · have HI := Lib.hid hi'
        clear hi'
        go_wp2_with fail
        refine (hasExponent_any P Q G z _).mono ?_
        rintro e w1 ⟨rfl, hb1⟩
        rw [HI.out]
        have HB1 := Lib.hid (bt HB.out hb1)
        clear hb1
        go_wp2
        go_ret
        exact ⟨by rw [HS.out.2 HI.out]; rfl, HB1.out⟩
      · have HI := Lib.hid hi'
        clear hi'
        go_wp2_with fail
        refine (hasExponent_any P Q G z _).mono ?_
        rintro e w1 ⟨rfl, hb1⟩
        rw [HI.out]
        have HB1 := Lib.hid (bt HB.out hb1)
        clear hb1
        go_wp2
        go_roundw
        case rel => exact ⟨k + 1, by omega, by go_num, HS.out.1 HI.out, HB1.out⟩
        case measure => simp only [intOf]; omega
    · have HE := Lib.hid he
      have HB := Lib.hid hbel
      clear he hbel
      go_wp2
      go_ret
      refine ⟨?_, HB.out⟩
      rw [HE.out, List.drop_of_length_le (by omega)]; rfl

set_option maxHeartbeats 1600000 in
theorem listOfExps_any (P Q G : Int) (ad : Option Addr) (n cap : Nat) (zs : List Int) (hn : zs.length = n) (hl : n ≤ 1152921504606846976) (w : World) (hz : IsInts w ad zs) :
    Calls Try.prog 69 #[.slice ad n cap, .func (.func 125) #[gv P Q G] #[]] w fun e w' => e = .returned (.bool (exsB Q zs)) ∧ Below w.heap.size w w' := by
  by_cases h24 : n ≤ 24
  · have h2i : (n : Int) ≤ 24 := by omega
    have hr : exsB Q zs = zs.all fun z => exB Q z := by simp [exsB, hn, h24]
    rw [hr]
    have HN := Lib.hid hn
    clear hr hn
    go_enter Try.func69, Try.ntmps69
    go_wp2_with fail
    refine (allExps_any P Q G ad n cap zs HN.out hl _ hz).mono ?_
    rintro e w1 ⟨rfl, hb1⟩
    have HB1 := Lib.hid hb1
    clear hb1
    go_wp2
    go_ret
    exact ⟨rfl, HB1.out⟩
  · have h2i : (24 : Int) < (n : Int) := by omega
    have hr : exsB Q zs = false := by simp [exsB, hn]; omega
    rw [hr]
    clear hr
    go_enter Try.func69, Try.ntmps69
    go_wp2
    go_ret
    exact ⟨rfl, Below.refl _ _⟩

theorem areExponents_any (P Q G : Int) (ad : Option Addr) (n cap : Nat) (zs : List Int) (hn : zs.length = n) (hl : n ≤ 1152921504606846976) (w : World) (hz : IsInts w ad zs) :
    Calls Try.prog 81 #[gv P Q G, .slice ad n cap] w fun e w' => e = .returned (.bool (exsB Q zs)) ∧ Below w.heap.size w w' := by
  have hmf : ∀ (fn : Fn) (first cap : Array Value) (w : World), (Instr.makeFunc fn first cap).run Try.prog w = .ok (.func fn first cap) w := fun _ _ _ _ => rfl
  have G_0 := Lib.hid (gr_at w (w.heap.size) (by simp) P Q G 29)
  have HB_0 := Lib.hid (show Below w.heap.size w (w.alloc (.cells #[.int .i64 P, .int .i64 Q, .int .i64 G] 29)) from ba _ _)
  go_enter Try.func81, Try.ntmps81
  go_wp2_with fail
  refine (listOfExps_any P Q G ad n cap zs hn hl _ (hz.below (ba _ _) (Nat.le_refl _))).mono ?_
  rintro e v1 ⟨rfl, hb⟩
  have HB_1 := Lib.hid (bt HB_0.out hb)
  have G_1 := Lib.hid (G_0.out.below hb)
  clear hb
  go_wp2
  go_ret
  exact ⟨rfl, HB_1.out⟩


/-- What ReencryptAll and WeightedProduct ask of their lists. -/
def heB (P Q G : Int) (zs es : List Int) : Bool := decide (zs.length = es.length * 2) && goodB P Q G && csB P Q zs && exsB Q es
theorem pair_mul {P x y : Int} {zs : List Int} {p q tx ty : Int} {k : Nat} (hd : zs.drop (k * 2) = p :: q :: zs.drop ((k + 1) * 2)) (hx : tx = mulFrom P x ((evens zs).drop k)) (hy : ty = mulFrom P y ((odds zs).drop k)) :
    tx = mulFrom P (x * p % P) ((evens zs).drop (k + 1)) ∧ ty = mulFrom P (y * q % P) ((odds zs).drop (k + 1)) := by
  obtain ⟨h1, h2⟩ := pair_step hd
  rw [h1] at hx
  rw [h2] at hy
  exact ⟨hx, hy⟩
theorem pair_end {zs : List Int} {k n : Nat} (hn : zs.length = n * 2) (hk : n ≤ k) : (evens zs).drop k = [] ∧ (odds zs).drop k = [] :=
  ⟨List.drop_of_length_le (by rw [evens_length n zs hn]; exact hk), List.drop_of_length_le (by rw [odds_length n zs hn]; exact hk)⟩

end Go.Proofs.Ytdnofcpobpoehaa

