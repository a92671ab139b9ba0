/- ElGamal: lists of ciphertexts and exponents, the combination of ciphertexts: products and powers. -/
import Derived.Test.YtafoenoilcgjdaaElA
import Derived.Test.YtafoenoilcgjdaaTyI
import Derived.RegionTactic
import Derived.BigRegion
namespace Go.Proofs.Ytafoenoilcgjdaa
open Go.RowKit


/-- The function that joins two ciphertexts, as a value; the group lies in block B. -/
abbrev jf (B : Nat) : Value := .func (.func 113) #[] #[.pointer (some ⟨B, 0, none⟩)]
abbrev kv (B : Nat) : Value := .agg #[.int .i64 1, .int .i64 1, .func (.func 113) #[] #[.pointer (some ⟨B, 0, none⟩)]]
def KPost (P Q G : Int) (w : World) (e : Ending) (w' : World) : Prop := ∃ B, e = .returned (kv B) ∧ GR w' B P Q G ∧ Below w.heap.size w w'

theorem products_any (P Q G : Int) (w : World) :
    Calls Try.prog 85 #[gv P Q G] w (KPost P Q G w) := by
  have hmf : ∀ (fn : Fn) (first cap : Array Value) (w : World), (Instr.makeFunc fn first cap).run Try.prog w = .ok (.func fn first cap) w := fun _ _ _ _ => rfl
  have hst : ∀ (a : Addr) (fn : Fn) (fi ca : Array Value) (W : World), (store a (.func fn fi ca)).run Try.prog W = stored Try.prog W a (.func fn fi ca) .plain := fun a fn fi ca W => run_store _ W a _ _ rfl
  go_enter Try.func85, Try.ntmps85
  go_wp2
  (try simp only [Exit.inBlock, Exit.then])
  refine bodyPost_ret (v := kv w.heap.size) ?_ rfl ⟨w.heap.size, rfl, ?_, ?_⟩
  · rw [results_cell_one rfl]; go_simp
  · exact GR.below (gr_new w P Q G _) (ba _ _)
  · exact bt (ba _ _) (ba _ _)

theorem cs_step {P Q : Int} {zs rest : List Int} {p q : Int} {k : Nat} {t : Bool} (h : zs.drop (k * 2) = p :: q :: rest) (hb : t = allEl P Q (zs.drop (k * 2))) :
    (cipB P Q p q = true → t = allEl P Q rest) ∧ (cipB P Q p q = false → t = false) := by
  rw [h] at hb
  unfold allEl at *
  simp only [List.all_cons] at hb
  rw [← Bool.and_assoc] at hb
  subst hb
  exact ⟨fun h' => by show (cipB P Q p q && _) = _; rw [h']; rfl, fun h' => by show (cipB P Q p q && _) = _; rw [h']; rfl⟩

set_option maxHeartbeats 1600000 in
theorem allCs_any (P Q G : Int) (hm : Mo P Q) (ad : Option Addr) (n cap : Nat) (zs : List Int) (hn : zs.length = n * 2) (hl : n ≤ 1152921504606846976) (w : World) (hz : IsInts w ad zs) :
    Calls Try.prog 122 #[.slice ad n cap, .func (.func 97) #[gv P Q G] #[]] w fun e w' => e = .returned (.bool (allEl P Q zs)) ∧ Below w.heap.size w w' := by
  have HN := Lib.hid hn
  clear hn
  go_enter Try.func122, Try.ntmps122
  go_wp2
  go_loopw [9] (fun K wr => ∃ k : Nat, k ≤ n ∧ K = .int .i64 k ∧ allEl P Q zs = allEl P Q (zs.drop (k * 2)) ∧ Below w.heap.size w wr) (fun K _ => n - (intOf K).toNat)
  case atStart => exact ⟨0, Nat.zero_le _, rfl, by simp, Below.refl _ _⟩
  case round =>
    obtain ⟨k, hk, rfl, he, hbel⟩ := hrel
    by_cases hkn : k < n
    · obtain ⟨b, off, p, q, rfl, hb, hc1, hc2, hd⟩ := (hz.below hbel (Nat.le_refl _)).pair hkn HN.out
      have HS := Lib.hid (cs_step hd he)
      have HB := Lib.hid hbel
      clear he hd hbel
      cases hi' : cipB P Q p q
      · have HI := Lib.hid hi'
        clear hi'
        go_wp2_with fail
        refine (hasCipher_any P Q G p q hm _).mono ?_
        rintro e w1 ⟨rfl, hb1⟩
        rw [HI.out]
        have HB1 := Lib.hid (bt (bt HB.out (ba _ _)) hb1)
        clear hb1
        go_wp2
        go_ret
        exact ⟨by rw [HS.out.2 HI.out]; rfl, HB1.out⟩
      · have HI := Lib.hid hi'
        clear hi'
        go_wp2_with fail
        refine (hasCipher_any P Q G p q hm _).mono ?_
        rintro e w1 ⟨rfl, hb1⟩
        rw [HI.out]
        have HB1 := Lib.hid (bt (bt HB.out (ba _ _)) hb1)
        clear hb1
        go_wp2
        go_roundw
        case rel => exact ⟨k + 1, by omega, by go_num, HS.out.1 HI.out, HB1.out⟩
        case measure => simp only [intOf]; omega
    · have HE := Lib.hid he
      have HB := Lib.hid hbel
      clear he hbel
      go_wp2
      go_ret
      refine ⟨?_, HB.out⟩
      rw [HE.out, List.drop_of_length_le (by rw [HN.out]; omega)]; rfl

set_option maxHeartbeats 1600000 in
theorem listOfCs_any (P Q G : Int) (hm : Mo P Q) (ad : Option Addr) (n cap : Nat) (zs : List Int) (hn : zs.length = n * 2) (hl : n ≤ 1152921504606846976) (w : World) (hz : IsInts w ad zs) :
    Calls Try.prog 114 #[.slice ad n cap, .func (.func 97) #[gv P Q G] #[]] w fun e w' => e = .returned (.bool (csB P Q zs)) ∧ Below w.heap.size w w' := by
  have HN := Lib.hid hn
  by_cases h24 : n ≤ 24
  · have h2i : (n : Int) ≤ 24 := by omega
    have hr : csB P Q zs = allEl P Q zs := by unfold csB; rw [decide_eq_true (by omega)]; rfl
    rw [hr]
    clear hr hn
    go_enter Try.func114, Try.ntmps114
    go_wp2_with fail
    refine (allCs_any P Q G hm ad n cap zs HN.out hl _ hz).mono ?_
    rintro e w1 ⟨rfl, hb1⟩
    have HB1 := Lib.hid hb1
    clear hb1
    go_wp2
    go_ret
    exact ⟨rfl, HB1.out⟩
  · have h2i : (24 : Int) < (n : Int) := by omega
    have hr : csB P Q zs = false := by unfold csB; rw [decide_eq_false (by omega)]; rfl
    rw [hr]
    clear hr
    go_enter Try.func114, Try.ntmps114
    go_wp2
    go_ret
    exact ⟨rfl, Below.refl _ _⟩

/-- Exponents: a list of at most 24. -/
def exsB (Q : Int) (es : List Int) : Bool := decide (es.length ≤ 24) && es.all fun e => exB Q e


set_option maxHeartbeats 1600000 in
theorem allExps_any (P Q G : Int) (ad : Option Addr) (n cap : Nat) (zs : List Int) (hn : zs.length = n) (hl : n ≤ 1152921504606846976) (w : World) (hz : IsInts w ad zs) :
    Calls Try.prog 118 #[.slice ad n cap, .func (.func 108) #[gv P Q G] #[]] w fun e w' => e = .returned (.bool (zs.all fun z => exB Q z)) ∧ Below w.heap.size w w' := by
  go_enter Try.func118, Try.ntmps118
  go_wp2
  go_loopw [6, 9] (fun _ K wr => ∃ k : Nat, k ≤ n ∧ K = .int .i64 k ∧ (zs.all fun z => exB Q z) = ((zs.drop k).all fun z => exB Q z) ∧ Below w.heap.size w wr) (fun _ K _ => n - (intOf K).toNat)
  case atStart => exact ⟨0, Nat.zero_le _, rfl, rfl, Below.refl _ _⟩
  case round =>
    obtain ⟨k, hk, rfl, he, hbel⟩ := hrel
    by_cases hkn : k < n
    · obtain ⟨b, off, z, rfl, hb, hc, hd⟩ := (hz.below hbel (Nat.le_refl _)).at (k := k) (by omega)
      have HS := Lib.hid (all_step hd he)
      have HB := Lib.hid hbel
      clear he hd hbel
      cases hi' : exB Q z
      · have HI := Lib.hid hi'
        clear hi'
        go_wp2_with fail
        refine (hasExponent_any P Q G z _).mono ?_
        rintro e w1 ⟨rfl, hb1⟩
        rw [HI.out]
        have HB1 := Lib.hid (bt HB.out hb1)
        clear hb1
        go_wp2
        go_ret
        exact ⟨by rw [HS.out.2 HI.out]; rfl, HB1.out⟩
      · have HI := Lib.hid hi'
        clear hi'
        go_wp2_with fail
        refine (hasExponent_any P Q G z _).mono ?_
        rintro e w1 ⟨rfl, hb1⟩
        rw [HI.out]
        have HB1 := Lib.hid (bt HB.out hb1)
        clear hb1
        go_wp2
        go_roundw
        case rel => exact ⟨k + 1, by omega, by go_num, HS.out.1 HI.out, HB1.out⟩
        case measure => simp only [intOf]; omega
    · have HE := Lib.hid he
      have HB := Lib.hid hbel
      clear he hbel
      go_wp2
      go_ret
      refine ⟨?_, HB.out⟩
      rw [HE.out, List.drop_of_length_le (by omega)]; rfl

set_option maxHeartbeats 1600000 in
theorem listOfExps_any (P Q G : Int) (ad : Option Addr) (n cap : Nat) (zs : List Int) (hn : zs.length = n) (hl : n ≤ 1152921504606846976) (w : World) (hz : IsInts w ad zs) :
    Calls Try.prog 98 #[.slice ad n cap, .func (.func 108) #[gv P Q G] #[]] w fun e w' => e = .returned (.bool (exsB Q zs)) ∧ Below w.heap.size w w' := by
  by_cases h24 : n ≤ 24
  · have h2i : (n : Int) ≤ 24 := by omega
    have hr : exsB Q zs = zs.all fun z => exB Q z := by simp [exsB, hn, h24]
    rw [hr]
    have HN := Lib.hid hn
    clear hr hn
    go_enter Try.func98, Try.ntmps98
    go_wp2_with fail
    refine (allExps_any P Q G ad n cap zs HN.out hl _ hz).mono ?_
    rintro e w1 ⟨rfl, hb1⟩
    have HB1 := Lib.hid hb1
    clear hb1
    go_wp2
    go_ret
    exact ⟨rfl, HB1.out⟩
  · have h2i : (24 : Int) < (n : Int) := by omega
    have hr : exsB Q zs = false := by simp [exsB, hn]; omega
    rw [hr]
    clear hr
    go_enter Try.func98, Try.ntmps98
    go_wp2
    go_ret
    exact ⟨rfl, Below.refl _ _⟩

theorem areCiphers_any (P Q G : Int) (hm : Mo P Q) (ad : Option Addr) (n cap : Nat) (zs : List Int) (hn : zs.length = n * 2) (hl : n ≤ 1152921504606846976) (w : World) (hz : IsInts w ad zs) :
    Calls Try.prog 88 #[gv P Q G, .slice ad n cap] w fun e w' => e = .returned (.bool (csB P Q zs)) ∧ Below w.heap.size w w' := by
  have hmf : ∀ (fn : Fn) (first cap : Array Value) (w : World), (Instr.makeFunc fn first cap).run Try.prog w = .ok (.func fn first cap) w := fun _ _ _ _ => rfl
  have G_0 := Lib.hid (gr_at w (w.heap.size) (by simp) P Q G 27)
  have HB_0 := Lib.hid (show Below w.heap.size w (w.alloc (.cells #[.int .i64 P, .int .i64 Q, .int .i64 G] 27)) from ba _ _)
  go_enter Try.func88, Try.ntmps88
  go_wp2_with fail
  refine (listOfCs_any P Q G hm ad n cap zs hn hl _ (hz.below (ba _ _) (Nat.le_refl _))).mono ?_
  rintro e v1 ⟨rfl, hb⟩
  have HB_1 := Lib.hid (bt HB_0.out hb)
  have G_1 := Lib.hid (G_0.out.below hb)
  clear hb
  go_wp2
  go_ret
  exact ⟨rfl, HB_1.out⟩

theorem areExponents_any (P Q G : Int) (ad : Option Addr) (n cap : Nat) (zs : List Int) (hn : zs.length = n) (hl : n ≤ 1152921504606846976) (w : World) (hz : IsInts w ad zs) :
    Calls Try.prog 112 #[gv P Q G, .slice ad n cap] w fun e w' => e = .returned (.bool (exsB Q zs)) ∧ Below w.heap.size w w' := by
  have hmf : ∀ (fn : Fn) (first cap : Array Value) (w : World), (Instr.makeFunc fn first cap).run Try.prog w = .ok (.func fn first cap) w := fun _ _ _ _ => rfl
  have G_0 := Lib.hid (gr_at w (w.heap.size) (by simp) P Q G 27)
  have HB_0 := Lib.hid (show Below w.heap.size w (w.alloc (.cells #[.int .i64 P, .int .i64 Q, .int .i64 G] 27)) from ba _ _)
  go_enter Try.func112, Try.ntmps112
  go_wp2_with fail
  refine (listOfExps_any P Q G ad n cap zs hn hl _ (hz.below (ba _ _) (Nat.le_refl _))).mono ?_
  rintro e v1 ⟨rfl, hb⟩
  have HB_1 := Lib.hid (bt HB_0.out hb)
  have G_1 := Lib.hid (G_0.out.below hb)
  clear hb
  go_wp2
  go_ret
  exact ⟨rfl, HB_1.out⟩


/-- What ReencryptAll and WeightedProduct ask of their lists. -/
def heB (P Q G : Int) (zs es : List Int) : Bool := decide (zs.length = es.length * 2) && goodB P Q G && csB P Q zs && exsB Q es
set_option maxHeartbeats 1600000 in
theorem haveExponents_any (P Q G : Int) (ad ad' : Option Addr) (n n' cap cap' : Nat) (zs es : List Int) (hn : zs.length = n * 2) (hn' : es.length = n') (hl : n ≤ 2000000) (hl' : n' ≤ 2000000) (w : World) (hz : IsInts w ad zs) (hz' : IsInts w ad' es) :
    Calls Try.prog 84 #[gv P Q G, .slice ad n cap, .slice ad' n' cap'] w fun e w' => e = .returned (.bool (heB P Q G zs es)) ∧ Below w.heap.size w w' := by
  by_cases h0 : ¬ n = n'
  · have e1 : heB P Q G zs es = false := by unfold heB; rw [decide_eq_false (by omega)]; rfl
    rw [e1]
    have hnn : ((n : Int) == (n' : Int)) = false := by simp; omega
    have hni : ¬ (n : Int) = (n' : Int) := by omega
    clear e1 hn hn'
    have G_0 := Lib.hid (gr_at w (w.heap.size) (by simp) P Q G 27)
    have HB_0 := Lib.hid (show Below w.heap.size w (w.alloc (.cells #[.int .i64 P, .int .i64 Q, .int .i64 G] 27)) from ba _ _)
    go_enter Try.func84, Try.ntmps84
    go_wp2
    go_ret
    exact ⟨rfl, HB_0.out⟩
  have h0 := Decidable.not_not.1 h0
  subst h0
  have HN := Lib.hid hn
  have HN' := Lib.hid hn'
  cases h1 : goodB P Q G
  · have e1 : heB P Q G zs es = false := by simp [heB, h1]
    rw [e1]
    have H1 := Lib.hid h1
    clear e1 hn hn' h1
    have G_0 := Lib.hid (gr_at w (w.heap.size) (by simp) P Q G 27)
    have HB_0 := Lib.hid (show Below w.heap.size w (w.alloc (.cells #[.int .i64 P, .int .i64 Q, .int .i64 G] 27)) from ba _ _)
    have Z_0 := Lib.hid (hz.below HB_0.out (Nat.le_refl _))
    have E_0 := Lib.hid (hz'.below HB_0.out (Nat.le_refl _))
    go_enter Try.func84, Try.ntmps84
    go_wp2_with fail
    refine (isValidGroup_any _ _ _ _).mono ?_
    rw [H1.out]
    rintro e v1 ⟨rfl, hb⟩
    have HB_1 := Lib.hid (bt HB_0.out hb)
    have G_1 := Lib.hid (G_0.out.below hb)
    have Z_1 := Lib.hid (Z_0.out.below hb (Nat.le_refl _))
    have E_1 := Lib.hid (E_0.out.below hb (Nat.le_refl _))
    clear hb
    obtain ⟨gG0, gG1, gG2⟩ := G_1.out
    go_wp2
    go_ret
    exact ⟨rfl, HB_1.out⟩
  cases h2 : csB P Q zs
  · have e1 : heB P Q G zs es = false := by simp [heB, h2]
    rw [e1]
    have H1 := Lib.hid h1
    have H2 := Lib.hid h2
    have hmo := good_mo h1
    clear e1 hn hn' h1 h2
    have G_0 := Lib.hid (gr_at w (w.heap.size) (by simp) P Q G 27)
    have HB_0 := Lib.hid (show Below w.heap.size w (w.alloc (.cells #[.int .i64 P, .int .i64 Q, .int .i64 G] 27)) from ba _ _)
    have Z_0 := Lib.hid (hz.below HB_0.out (Nat.le_refl _))
    have E_0 := Lib.hid (hz'.below HB_0.out (Nat.le_refl _))
    go_enter Try.func84, Try.ntmps84
    go_wp2_with fail
    refine (isValidGroup_any _ _ _ _).mono ?_
    rw [H1.out]
    rintro e v1 ⟨rfl, hb⟩
    have HB_1 := Lib.hid (bt HB_0.out hb)
    have G_1 := Lib.hid (G_0.out.below hb)
    have Z_1 := Lib.hid (Z_0.out.below hb (Nat.le_refl _))
    have E_1 := Lib.hid (E_0.out.below hb (Nat.le_refl _))
    clear hb
    obtain ⟨gG0, gG1, gG2⟩ := G_1.out
    go_wp2_with fail
    refine (areCiphers_any P Q G hmo _ _ _ zs HN.out (by omega) _ Z_1.out).mono ?_
    rw [H2.out]
    rintro e v2 ⟨rfl, hb⟩
    have HB_2 := Lib.hid (bt HB_1.out hb)
    have G_2 := Lib.hid (G_1.out.below hb)
    have Z_2 := Lib.hid (Z_1.out.below hb (Nat.le_refl _))
    have E_2 := Lib.hid (E_1.out.below hb (Nat.le_refl _))
    clear hb
    clear gG0 gG1 gG2
    obtain ⟨gG0, gG1, gG2⟩ := G_2.out
    go_wp2
    go_ret
    exact ⟨rfl, HB_2.out⟩
  cases h3 : exsB Q es
  · have e1 : heB P Q G zs es = false := by simp [heB, h3]
    rw [e1]
    have H1 := Lib.hid h1
    have H2 := Lib.hid h2
    have H3 := Lib.hid h3
    have hmo := good_mo h1
    clear e1 hn hn' h1 h2 h3
    have G_0 := Lib.hid (gr_at w (w.heap.size) (by simp) P Q G 27)
    have HB_0 := Lib.hid (show Below w.heap.size w (w.alloc (.cells #[.int .i64 P, .int .i64 Q, .int .i64 G] 27)) from ba _ _)
    have Z_0 := Lib.hid (hz.below HB_0.out (Nat.le_refl _))
    have E_0 := Lib.hid (hz'.below HB_0.out (Nat.le_refl _))
    go_enter Try.func84, Try.ntmps84
    go_wp2_with fail
    refine (isValidGroup_any _ _ _ _).mono ?_
    rw [H1.out]
    rintro e v1 ⟨rfl, hb⟩
    have HB_1 := Lib.hid (bt HB_0.out hb)
    have G_1 := Lib.hid (G_0.out.below hb)
    have Z_1 := Lib.hid (Z_0.out.below hb (Nat.le_refl _))
    have E_1 := Lib.hid (E_0.out.below hb (Nat.le_refl _))
    clear hb
    obtain ⟨gG0, gG1, gG2⟩ := G_1.out
    go_wp2_with fail
    refine (areCiphers_any P Q G hmo _ _ _ zs HN.out (by omega) _ Z_1.out).mono ?_
    rw [H2.out]
    rintro e v2 ⟨rfl, hb⟩
    have HB_2 := Lib.hid (bt HB_1.out hb)
    have G_2 := Lib.hid (G_1.out.below hb)
    have Z_2 := Lib.hid (Z_1.out.below hb (Nat.le_refl _))
    have E_2 := Lib.hid (E_1.out.below hb (Nat.le_refl _))
    clear hb
    clear gG0 gG1 gG2
    obtain ⟨gG0, gG1, gG2⟩ := G_2.out
    go_wp2_with fail
    refine (areExponents_any P Q G _ _ _ es HN'.out (by omega) _ E_2.out).mono ?_
    rw [H3.out]
    rintro e v3 ⟨rfl, hb⟩
    have HB_3 := Lib.hid (bt HB_2.out hb)
    have G_3 := Lib.hid (G_2.out.below hb)
    have Z_3 := Lib.hid (Z_2.out.below hb (Nat.le_refl _))
    have E_3 := Lib.hid (E_2.out.below hb (Nat.le_refl _))
    clear hb
    clear gG0 gG1 gG2
    obtain ⟨gG0, gG1, gG2⟩ := G_3.out
    go_wp2
    go_ret
    exact ⟨rfl, HB_3.out⟩
  have e1 : heB P Q G zs es = true := by unfold heB; rw [h1, h2, h3, decide_eq_true (by omega)]; rfl
  rw [e1]
  have H1 := Lib.hid h1
  have H2 := Lib.hid h2
  have H3 := Lib.hid h3
  have hmo := good_mo h1
  clear e1 hn hn' h1 h2 h3
  have G_0 := Lib.hid (gr_at w (w.heap.size) (by simp) P Q G 27)
  have HB_0 := Lib.hid (show Below w.heap.size w (w.alloc (.cells #[.int .i64 P, .int .i64 Q, .int .i64 G] 27)) from ba _ _)
  have Z_0 := Lib.hid (hz.below HB_0.out (Nat.le_refl _))
  have E_0 := Lib.hid (hz'.below HB_0.out (Nat.le_refl _))
  go_enter Try.func84, Try.ntmps84
  go_wp2_with fail
  refine (isValidGroup_any _ _ _ _).mono ?_
  rw [H1.out]
  rintro e v1 ⟨rfl, hb⟩
  have HB_1 := Lib.hid (bt HB_0.out hb)
  have G_1 := Lib.hid (G_0.out.below hb)
  have Z_1 := Lib.hid (Z_0.out.below hb (Nat.le_refl _))
  have E_1 := Lib.hid (E_0.out.below hb (Nat.le_refl _))
  clear hb
  obtain ⟨gG0, gG1, gG2⟩ := G_1.out
  go_wp2_with fail
  refine (areCiphers_any P Q G hmo _ _ _ zs HN.out (by omega) _ Z_1.out).mono ?_
  rw [H2.out]
  rintro e v2 ⟨rfl, hb⟩
  have HB_2 := Lib.hid (bt HB_1.out hb)
  have G_2 := Lib.hid (G_1.out.below hb)
  have Z_2 := Lib.hid (Z_1.out.below hb (Nat.le_refl _))
  have E_2 := Lib.hid (E_1.out.below hb (Nat.le_refl _))
  clear hb
  clear gG0 gG1 gG2
  obtain ⟨gG0, gG1, gG2⟩ := G_2.out
  go_wp2_with fail
  refine (areExponents_any P Q G _ _ _ es HN'.out (by omega) _ E_2.out).mono ?_
  rw [H3.out]
  rintro e v3 ⟨rfl, hb⟩
  have HB_3 := Lib.hid (bt HB_2.out hb)
  have G_3 := Lib.hid (G_2.out.below hb)
  have Z_3 := Lib.hid (Z_2.out.below hb (Nat.le_refl _))
  have E_3 := Lib.hid (E_2.out.below hb (Nat.le_refl _))
  clear hb
  clear gG0 gG1 gG2
  obtain ⟨gG0, gG1, gG2⟩ := G_3.out
  go_wp2
  go_ret
  exact ⟨rfl, HB_3.out⟩

theorem pair_mul {P x y : Int} {zs : List Int} {p q tx ty : Int} {k : Nat} (hd : zs.drop (k * 2) = p :: q :: zs.drop ((k + 1) * 2)) (hx : tx = mulFrom P x ((evens zs).drop k)) (hy : ty = mulFrom P y ((odds zs).drop k)) :
    tx = mulFrom P (x * p % P) ((evens zs).drop (k + 1)) ∧ ty = mulFrom P (y * q % P) ((odds zs).drop (k + 1)) := by
  obtain ⟨h1, h2⟩ := pair_step hd
  rw [h1] at hx
  rw [h2] at hy
  exact ⟨hx, hy⟩
theorem pair_end {zs : List Int} {k n : Nat} (hn : zs.length = n * 2) (hk : n ≤ k) : (evens zs).drop k = [] ∧ (odds zs).drop k = [] :=
  ⟨List.drop_of_length_le (by rw [evens_length n zs hn]; exact hk), List.drop_of_length_le (by rw [odds_length n zs hn]; exact hk)⟩

set_option maxHeartbeats 3200000 in
theorem foldCs_any (P Q G : Int) (h2 : 2 ≤ P) (h3 : P ≤ 2000000000) (ad : Option Addr) (n cap : Nat) (zs : List Int) (hn : zs.length = n * 2) (hl : n ≤ 2000000) (hr : ∀ z ∈ zs, 0 ≤ z ∧ z < P) (B : Nat) (w : World) (hz : IsInts w ad zs) (hB : GR w B P Q G) :
    Calls Try.prog 115 #[cv 1 1, jf B, .slice ad n cap] w fun e w' => e = .returned (cv (mulFrom P 1 (evens zs)) (mulFrom P 1 (odds zs))) ∧ Below w.heap.size w w' := by
  have HR := Lib.hid hr
  have HN := Lib.hid hn
  clear hr hn
  have S_0 := Lib.hid (((c2_at w (w.heap.size) (by simp) 1 1 61).below (ba (w.alloc (.cells #[.int .i64 1, .int .i64 1] 61)) (.cells #[.int .i64 0, .int .i64 0] 61))).below (ba ((w.alloc (.cells #[.int .i64 1, .int .i64 1] 61)).alloc (.cells #[.int .i64 0, .int .i64 0] 61)) (.cells #[.int .i64 1, .int .i64 1] 61)))
  have R_0 := Lib.hid ((c2_at (w.alloc (.cells #[.int .i64 1, .int .i64 1] 61)) (w.heap.size + 1) (by simp) 0 0 61).below (ba ((w.alloc (.cells #[.int .i64 1, .int .i64 1] 61)).alloc (.cells #[.int .i64 0, .int .i64 0] 61)) (.cells #[.int .i64 1, .int .i64 1] 61)))
  have V_0 := Lib.hid (c2_at ((w.alloc (.cells #[.int .i64 1, .int .i64 1] 61)).alloc (.cells #[.int .i64 0, .int .i64 0] 61)) (w.heap.size + 1 + 1) (by simp) 1 1 61)
  have HB_0 := Lib.hid (show Below w.heap.size w (((w.alloc (.cells #[.int .i64 1, .int .i64 1] 61)).alloc (.cells #[.int .i64 0, .int .i64 0] 61)).alloc (.cells #[.int .i64 1, .int .i64 1] 61)) from bt (bt (ba _ _) (ba _ _)) (ba _ _))
  have HZ := Lib.hid hz
  have HG := Lib.hid hB
  clear hz hB
  go_enter Try.func115, Try.ntmps115
  go_wp2
  go_loopw [13] (fun K wr => ∃ (k : Nat) (x y : Int), k ≤ n ∧ K = .int .i64 k ∧ (0 ≤ x ∧ x < P) ∧ (0 ≤ y ∧ y < P) ∧ mulFrom P 1 (evens zs) = mulFrom P x ((evens zs).drop k) ∧ mulFrom P 1 (odds zs) = mulFrom P y ((odds zs).drop k) ∧ Below w.heap.size w wr ∧ C2 wr (w.heap.size + 1) 0 0 ∧ C2 wr (w.heap.size + 1 + 1) x y) (fun K _ => n - (intOf K).toNat)
  case atStart => exact ⟨0, 1, 1, Nat.zero_le _, rfl, ⟨by decide, by omega⟩, ⟨by decide, by omega⟩, rfl, rfl, HB_0.out, R_0.out, V_0.out⟩
  case round =>
    obtain ⟨k, x, y, hk, rfl, ⟨x0, x1⟩, ⟨y0, y1⟩, hex, hey, hbel, hres, hv⟩ := hrel
    have hzr := HZ.out.below hbel (Nat.le_refl _)
    have hgr := HG.out.below hbel
    by_cases hkn : k < n
    · obtain ⟨b, off, p, q, rfl, hb, hc1, hc2, hd⟩ := hzr.pair hkn HN.out
      have HS := Lib.hid (pair_mul hd hex hey)
      have hp := HR.out p (mem_drop hd)
      have hq := HR.out q (List.mem_of_mem_drop (i := k * 2) (by rw [hd]; simp))
      have hal := ba wr (.cells #[.int .i64 p, .int .i64 q] 61)
      have HBr := Lib.hid (bt hbel hal)
      have HRr := Lib.hid (hres.below hal)
      have HGr := Lib.hid (hgr.below hal)
      have HVr := Lib.hid (hv.below hal)
      obtain ⟨t0, t1, _⟩ := HVr.out
      have hxp0 : 0 ≤ x * p % P := Int.emod_nonneg _ (by omega)
      have hxp1 : x * p % P < P := Int.emod_lt_of_pos _ (by omega)
      have hyq0 : 0 ≤ y * q % P := Int.emod_nonneg _ (by omega)
      have hyq1 : y * q % P < P := Int.emod_lt_of_pos _ (by omega)
      have hne : w.heap.size + 1 ≠ w.heap.size + 1 + 1 := by omega
      clear hd hex hey hbel hres hzr hgr hal hv
      go_wp2_with fail
      refine (cjoin_any P Q G x y p q h2 h3 ⟨x0, x1⟩ ⟨y0, y1⟩ hp hq B _ HGr.out).mono ?_
      rintro e v1 ⟨rfl, hb1⟩
      have HB1 := Lib.hid (bt HBr.out hb1)
      have HR1 := Lib.hid (HRr.out.below hb1)
      have HV1 := Lib.hid (HVr.out.below hb1)
      clear hb1 t0 t1
      obtain ⟨u0, u1, uf⟩ := HV1.out
      have uf0 := uf 0
      have uf1 := uf 1
      clear uf
      go_wp2
      go_roundw
      case rel => exact ⟨k + 1, _, _, by omega, by go_num, ⟨hxp0, hxp1⟩, ⟨hyq0, hyq1⟩, HS.out.1, HS.out.2, set_below HB1.out _ (by omega) _ _, (HR1.out.other _ _ (by simp)).other _ _ (by simp), HV1.out.set _ _⟩
      case measure => simp only [intOf]; omega
    · have HE := Lib.hid (And.intro hex hey)
      have HBr := Lib.hid hbel
      obtain ⟨v0, v1, _⟩ := hv
      obtain ⟨r0, r1, rf⟩ := hres
      have rf0 := rf 0
      have rf1 := rf 1
      clear hex hey hbel rf
      go_wp2
      (try simp only [Exit.inBlock, Exit.then])
      refine bodyPost_ret (v := cv x y) ?_ rfl ⟨?_, ?_⟩
      · rw [results_cell_one rfl]; go_simp
      · rw [HE.out.1, HE.out.2, (pair_end HN.out (by omega)).1, (pair_end HN.out (by omega)).2]; rfl
      · exact set_below HBr.out _ (by omega) _ _

end Go.Proofs.Ytafoenoilcgjdaa

