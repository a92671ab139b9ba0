/- Chapter 11: lists of shares, the numbers of the first trustees, shares of a polynomial; AreConsistent of both. -/
import Derived.Test.YtfjaohmildkeoaaShB
import Derived.Test.YtfjaohmildkeoaaElB
import Derived.Test.YtfjaohmildkeoaaPolR
import Derived.Test.YtfjaohmildkeoaaPolN
namespace Go.Proofs.Ytfjaohmildkeoaa
open Go.RowKit
set_option linter.unusedVariables false
set_option linter.unusedSimpArgs false

theorem exsB_short {Q : Int} {zs : List Int} (h : zs.length ≤ 24) : exsB Q zs = allIn zs 0 (Q - 1) := by
  unfold exsB; rw [decide_eq_true h]; simp [allIn, exB]
theorem allIn_res7 {Q : Int} {zs : List Int} (h : allIn zs 0 (Q - 1) = true) : ∀ z ∈ zs, 0 ≤ z ∧ z < Q := by
  intro z hz
  unfold allIn at h
  rw [List.all_eq_true] at h
  exact exB_true.1 (h z hz)
set_option maxHeartbeats 1600000 in
theorem areShares_any (P Q G : Int) (ad : Option Addr) (n cap : Nat) (ss : List Int) (hn : ss.length = n) (hl : n ≤ 1152921504606846976) (w : World) (hz : IsInts w ad ss) :
    Calls Try.prog 113 #[gv P Q G, .slice ad n cap] w fun e w' => e = .returned (.bool (shsB Q ss)) ∧ Below w.heap.size w w' := by
  by_cases h2 : n ≤ 7
  · have h2i : (n : Int) ≤ 7 := by omega
    have hr : shsB Q ss = exsB Q ss := by rw [exsB_short (by omega)]; simp [shsB, hn, h2]
    rw [hr]
    have HN := Lib.hid hn
    clear hr hn
    go_enter Try.func113, Try.ntmps113
    go_wp2_with fail
    refine (areExponents_any P Q G ad n cap ss HN.out hl _ (hz.below (ba _ _) (Nat.le_refl _))).mono ?_
    rintro e w1 ⟨rfl, hb⟩
    have HB := Lib.hid (bt (ba _ _) hb)
    clear hb
    go_wp2
    go_ret
    exact ⟨rfl, HB.out⟩
  · have h2i : (7 : Int) < (n : Int) := by omega
    have hr : shsB Q ss = false := by simp [shsB, hn, h2]
    rw [hr]
    clear hr
    go_enter Try.func113, Try.ntmps113
    go_wp2
    go_ret
    exact ⟨rfl, ba _ _⟩

/-! ### The numbers of the first trustees -/
set_option maxHeartbeats 1600000 in
theorem firstTrustees_any (n : Nat) (hn : n ≤ 1000) (w : World) :
    Calls Try.prog 84 #[.int .i64 n] w fun e w' => ∃ g, e = .returned (.slice (some ⟨g, 0, none⟩) n n) ∧ w'.ownsRow w.heap.size 3 1 (.slice (some ⟨g, 0, none⟩) n n) n ((iota n).map (Value.int .i64)) ∧ Below w.heap.size w w' := by
  obtain ⟨i0, hi0, hz0, hz1, hz2⟩ := info_parts Try.info3
  have HZ2 := Lib.hid hz2
  clear hz2
  go_enter Try.func84, Try.ntmps84
  go_wp2_with (at_make
               refine wpList_make_full _ rfl _ _ 25 rfl w.heap.size 3 i0 (.int .i64 0) 1 Try.underlying25 hi0 hz0 hz1 .i64 .i64 _ _ n rfl rfl rfl rfl (by rw [HZ2.out]; omega) (by unfold maxLen; omega) (Nat.le_refl _) ?_
               intro w2 hown hgrow
               have HOW := Lib.hid (made_zeros hown)
               have HB2 := Lib.hid ((Below.refl w.heap.size w).grown hgrow (Nat.le_refl _) (by simp))
               clear hown hgrow)
  go_loopw [4, 9] (fun _ K wr => ∃ k : Nat, k ≤ n ∧ K = .int .i64 k ∧ wr.ownsRow w.heap.size 3 1 (.slice (some ⟨w.heap.size, 0, none⟩) n n) n ((over (iota n) (List.replicate n 0) k).map (Value.int .i64)) ∧ Below w.heap.size w wr) (fun _ K _ => n - (intOf K).toNat)
  case atStart => exact ⟨0, Nat.zero_le _, rfl, by rw [over_zero]; exact HOW.out, HB2.out⟩
  case round =>
    obtain ⟨k, hk, rfl, hownr, hbel⟩ := hrel
    by_cases hkn : k < n
    · obtain ⟨⟨u, hcu⟩, hfu⟩ := own_cell hownr hkn
      have hx1 : IntKind.i64.wrap ((k : Int) + 1) = (k : Int) + 1 := by rw [IntKind.wrap_i64]; omega
      have HO := Lib.hid (inv_store hownr (fun h => iota_get h) (by rw [iota_length]; exact hkn) (by simpa using hkn))
      have HB := Lib.hid hbel
      clear hownr hbel HOW HB2
      go_wp2
      go_roundw
      case rel => exact ⟨k + 1, by omega, by go_num, HO.out, HB.out.setCell (Nat.le_refl _) _⟩
      case measure => simp only [intOf]; omega
    · have HO := Lib.hid hownr
      have HB := Lib.hid hbel
      clear hownr hbel HOW HB2
      go_wp2
      go_ret
      refine ⟨_, rfl, ?_, HB.out⟩
      have h := HO.out
      rwa [over_all _ _ (by rw [iota_length]; omega) (by simp; omega)] at h

/-! ### AreConsistent -/
def acB (P Q G t : Int) (ss : List Int) : Bool := trB P Q G && (inB t 1 7 && (inB (ss.length : Int) 1 7 && allIn ss 0 (Q - 1)))
def acV (P Q G t : Int) (ss : List Int) : Bool := acB P Q G t ss && cnsB Q t.toNat ss
theorem isPr_Q {P Q G : Int} (h : goodB P Q G = true) : isPr Q = true := isPr_mk (by have := goodB_true.1 h; omega) (goodB_true.1 h).2.2.2.2.2.1
theorem ac_facts {P Q G t : Int} {ss : List Int} (h : acB P Q G t ss = true) : goodB P Q G = true ∧ 7 < Q ∧ (1 ≤ t ∧ t ≤ 7) ∧ (1 ≤ ss.length ∧ ss.length ≤ 7) ∧ (∀ z ∈ ss, 0 ≤ z ∧ z < Q) ∧ isPr Q = true ∧
    tabB Q (iota ss.length) ss = true ∧ itpRes Q (iota ss.length) ss = itp Q (iota ss.length) ss ∧ fieldB Q [itp Q (iota ss.length) ss] = true ∧ degRes Q (itp Q (iota ss.length) ss) = dg (itp Q (iota ss.length) ss) := by
  simp only [acB, Bool.and_eq_true] at h
  obtain ⟨h1, h2, h3, h4⟩ := h
  obtain ⟨h7, hg⟩ := trB_true.1 h1
  have ht := inB_true.1 h2
  have hn := inB_true.1 h3
  have hr := allIn_res7 h4
  have hq := isPr_Q hg
  obtain ⟨q2, q3, _⟩ := isPr_num hq
  have hxs : shortB (iota ss.length) Q = true := short_of q2 q3 (by rw [iota_length]; omega) (fun z hz => by have := iota_mem.1 hz; omega)
  have hys : shortB ss Q = true := short_of q2 q3 (by omega) hr
  have htab : tabB Q (iota ss.length) ss = true := by
    rw [tabB_eq, field_mk2 hq hxs hys, decide_eq_true (iota_nodup _), decide_eq_true (by rw [iota_length]; omega), decide_eq_true (iota_length _)]; rfl
  have hf : fieldB Q [itp Q (iota ss.length) ss] = true := field_mk hq (short_of q2 q3 (by rw [itp_length, iota_length]; omega) (itp_res (by omega) _ _))
  exact ⟨hg, h7, ht, by omega, hr, hq, htab, by simp [itpRes, htab], hf, by simp [degRes, hf]⟩

theorem ac_sh {P Q G t : Int} {ss : List Int} (h : shsB Q ss = false) : acB P Q G t ss = false := by
  unfold acB
  cases h1 : inB (ss.length : Int) 1 7
  · simp
  · have := inB_true.1 h1
    have h2 : allIn ss 0 (Q - 1) = false := by unfold shsB at h; rwa [decide_eq_true (by omega), Bool.true_and] at h
    simp [h2]
theorem ac_on {P Q G t : Int} {ss : List Int} (h0 : trB P Q G = true) (h1 : 1 ≤ t) (h2 : t ≤ 7) (h3 : ss.length ≠ 0) (h4 : shsB Q ss = true) : acB P Q G t ss = true := by
  obtain ⟨h5, h6⟩ := shsB_true.1 h4
  simp [acB, h0, h6, inB_true.2 ⟨h1, h2⟩, inB_true.2 (show 1 ≤ (ss.length : Int) ∧ (ss.length : Int) ≤ 7 by omega)]
theorem inI_ints {P : Nat} {w : World} {a : Option Addr} {n c : Nat} {z : List Int} (h : InI P w (.slice a n c) z) : IsInts w a z := by
  obtain ⟨_, a', c', he, h1, _⟩ := h
  simp only [Value.slice.injEq] at he
  obtain ⟨rfl, _, _⟩ := he
  exact h1.ints
theorem LZ_own {w : World} {B n vc : Nat} {va : Option Addr} {zs : List Int} (h : w.ownsRow B 3 1 (.slice va n vc) n (zs.map (Value.int .i64))) : LZ w va zs := (own_ints h).1
theorem owI_in {w w0 : World} {g n : Nat} {zs : List Int} (h : w.ownsRow w0.heap.size 3 1 (.slice (some ⟨g, 0, none⟩) n n) n (zs.map (Value.int .i64))) (hb : w0.heap.size ≤ w.heap.size) : InI w.heap.size w (.slice (some ⟨g, 0, none⟩) n n) zs := (owI_mk h hb).toIn

set_option maxRecDepth 100000 in
set_option maxHeartbeats 3200000 in
theorem areConsistent_any (P Q G t : Int) (ad : Option Addr) (cap : Nat) (ss : List Int) (hl : ss.length ≤ 1000000000000) (hcap : ss.length ≤ cap) {w : World} (hz : IsInts w ad ss) :
    Calls Try.prog 52 #[gv P Q G, .int .i64 t, .slice ad ss.length cap] w fun e w' => e = .returned (.tuple #[.bool (acV P Q G t ss), .bool (acB P Q G t ss)]) ∧ Below w.heap.size w w' := by
  have G_0 := Lib.hid (gr_atS w (w.heap.size) (by simp) P Q G 24)
  have HB_0 := Lib.hid (show Below w.heap.size w (w.alloc (.cells #[.int .i64 P, .int .i64 Q, .int .i64 G] 24)) from ba _ _)
  have Z_0 := Lib.hid (LZ.below hz HB_0.out)
  clear hz
  cases h0 : trB P Q G
  · have K0 := Lib.hid (show trB P Q G = false from h0)
    have E1 := Lib.hid (show acB P Q G t ss = false by simp [acB, h0])
    have E2 := Lib.hid (show acV P Q G t ss = false by simp [acV, E1.out])
    rw [E1.out, E2.out]
    clear h0
    obtain ⟨gG0, gG1, gG2⟩ := G_0.out
    go_enter Try.func52, Try.ntmps52
    go_wp2_with fail
    refine (hasTrustees_any P Q G _).mono ?_
    rw [K0.out]
    rintro e v1 ⟨rfl, hb⟩
    have HB_1 := Lib.hid (bt HB_0.out hb)
    have G_1 := Lib.hid (G_0.out.below hb)
    have Z_1 := Lib.hid (Z_0.out.below hb)
    clear hb gG0 gG1 gG2
    obtain ⟨gG0, gG1, gG2⟩ := G_1.out
    go_wp2
    go_ret2
    exact ⟨rfl, HB_1.out⟩
  have K0 := Lib.hid (show trB P Q G = true from h0)
  obtain ⟨hgd, hmo, h7⟩ := trB_of h0
  by_cases h1 : ¬ (1 ≤ t)
  · have B1 : t < 1 := by omega
    have E1 := Lib.hid (show acB P Q G t ss = false by simp [acB, inB_false.2 (show t < 1 ∨ 7 < t by omega)])
    have E2 := Lib.hid (show acV P Q G t ss = false by simp [acV, E1.out])
    rw [E1.out, E2.out]
    clear h0 h1
    obtain ⟨gG0, gG1, gG2⟩ := G_0.out
    go_enter Try.func52, Try.ntmps52
    go_wp2_with fail
    refine (hasTrustees_any P Q G _).mono ?_
    rw [K0.out]
    rintro e v1 ⟨rfl, hb⟩
    have HB_1 := Lib.hid (bt HB_0.out hb)
    have G_1 := Lib.hid (G_0.out.below hb)
    have Z_1 := Lib.hid (Z_0.out.below hb)
    clear hb gG0 gG1 gG2
    obtain ⟨gG0, gG1, gG2⟩ := G_1.out
    go_wp2
    go_ret2
    exact ⟨rfl, HB_1.out⟩
  replace h1 := Decidable.not_not.1 h1
  have B1 : 1 ≤ t := by exact h1
  by_cases h2 : ¬ (t ≤ 7)
  · have B2 : 7 < t := by omega
    have E1 := Lib.hid (show acB P Q G t ss = false by simp [acB, inB_false.2 (show t < 1 ∨ 7 < t by omega)])
    have E2 := Lib.hid (show acV P Q G t ss = false by simp [acV, E1.out])
    rw [E1.out, E2.out]
    clear h0 h1 h2
    obtain ⟨gG0, gG1, gG2⟩ := G_0.out
    go_enter Try.func52, Try.ntmps52
    go_wp2_with fail
    refine (hasTrustees_any P Q G _).mono ?_
    rw [K0.out]
    rintro e v1 ⟨rfl, hb⟩
    have HB_1 := Lib.hid (bt HB_0.out hb)
    have G_1 := Lib.hid (G_0.out.below hb)
    have Z_1 := Lib.hid (Z_0.out.below hb)
    clear hb gG0 gG1 gG2
    obtain ⟨gG0, gG1, gG2⟩ := G_1.out
    go_wp2
    go_ret2
    exact ⟨rfl, HB_1.out⟩
  replace h2 := Decidable.not_not.1 h2
  have B2 : t ≤ 7 := by exact h2
  by_cases h3 : ¬ (ss.length ≠ 0)
  · have B3 : ((ss.length : Int) == 0) = true := by have := Decidable.not_not.1 h3; simp [this]
    have E1 := Lib.hid (show acB P Q G t ss = false by simp [acB, inB_false.2 (show (ss.length : Int) < 1 ∨ 7 < (ss.length : Int) by omega)])
    have E2 := Lib.hid (show acV P Q G t ss = false by simp [acV, E1.out])
    rw [E1.out, E2.out]
    clear h0 h1 h2 h3
    obtain ⟨gG0, gG1, gG2⟩ := G_0.out
    go_enter Try.func52, Try.ntmps52
    go_wp2_with fail
    refine (hasTrustees_any P Q G _).mono ?_
    rw [K0.out]
    rintro e v1 ⟨rfl, hb⟩
    have HB_1 := Lib.hid (bt HB_0.out hb)
    have G_1 := Lib.hid (G_0.out.below hb)
    have Z_1 := Lib.hid (Z_0.out.below hb)
    clear hb gG0 gG1 gG2
    obtain ⟨gG0, gG1, gG2⟩ := G_1.out
    go_wp2
    go_ret2
    exact ⟨rfl, HB_1.out⟩
  replace h3 := Decidable.not_not.1 h3
  have B3 : ((ss.length : Int) == 0) = false := by simp; intro h; exact h3 (by simp [h])
  cases h4 : shsB Q ss
  · have K4 := Lib.hid (show shsB Q ss = false from h4)
    have E1 := Lib.hid (show acB P Q G t ss = false by exact ac_sh h4)
    have E2 := Lib.hid (show acV P Q G t ss = false by simp [acV, E1.out])
    rw [E1.out, E2.out]
    clear h0 h1 h2 h3 h4
    obtain ⟨gG0, gG1, gG2⟩ := G_0.out
    go_enter Try.func52, Try.ntmps52
    go_wp2_with fail
    refine (hasTrustees_any P Q G _).mono ?_
    rw [K0.out]
    rintro e v1 ⟨rfl, hb⟩
    have HB_1 := Lib.hid (bt HB_0.out hb)
    have G_1 := Lib.hid (G_0.out.below hb)
    have Z_1 := Lib.hid (Z_0.out.below hb)
    clear hb gG0 gG1 gG2
    obtain ⟨gG0, gG1, gG2⟩ := G_1.out
    go_wp2_with fail
    refine (areShares_any P Q G ad ss.length cap ss rfl (by omega) _ Z_1.out).mono ?_
    rw [K4.out]
    rintro e v2 ⟨rfl, hb⟩
    have HB_2 := Lib.hid (bt HB_1.out hb)
    have G_2 := Lib.hid (G_1.out.below hb)
    have Z_2 := Lib.hid (Z_1.out.below hb)
    clear hb gG0 gG1 gG2
    obtain ⟨gG0, gG1, gG2⟩ := G_2.out
    go_wp2
    go_ret2
    exact ⟨rfl, HB_2.out⟩
  have K4 := Lib.hid (show shsB Q ss = true from h4)
  have E1 := Lib.hid (show acB P Q G t ss = true from ac_on h0 h1 h2 h3 h4)
  have E2 := Lib.hid (show acV P Q G t ss = cnsB Q t.toNat ss by simp [acV, E1.out])
  rw [E1.out, E2.out]
  obtain ⟨_, _, _, ⟨hn1, hn7⟩, hres, hpr, htab, hitp, hfld, hdeg⟩ := ac_facts E1.out
  have hci := cons_iff hpr h7 hres hn7 (t := t.toNat) (by omega)
  have htn : ((t.toNat : Nat) : Int) = t := by omega
  rw [htn] at hci
  rw [← hci]
  have HTAB := Lib.hid htab
  have HITP := Lib.hid hitp
  have HFLD := Lib.hid hfld
  have HDEG := Lib.hid hdeg
  have hfl : (itp Q (iota ss.length) ss).length = ss.length := by rw [itp_length, iota_length]
  generalize itp Q (iota ss.length) ss = f at *
  generalize dg f = d at *
  clear h0 h1 h2 h3 h4 hgd hci htab hitp hfld hdeg hres hpr htn
  obtain ⟨gG0, gG1, gG2⟩ := G_0.out
  go_enter Try.func52, Try.ntmps52
  go_wp2_with fail
  refine (hasTrustees_any P Q G _).mono ?_
  rw [K0.out]
  rintro e v1 ⟨rfl, hb⟩
  have HB_1 := Lib.hid (bt HB_0.out hb)
  have G_1 := Lib.hid (G_0.out.below hb)
  have Z_1 := Lib.hid (Z_0.out.below hb)
  clear hb gG0 gG1 gG2
  obtain ⟨gG0, gG1, gG2⟩ := G_1.out
  go_wp2_with fail
  refine (areShares_any P Q G ad ss.length cap ss rfl (by omega) _ Z_1.out).mono ?_
  rw [K4.out]
  rintro e v2 ⟨rfl, hb⟩
  have HB_2 := Lib.hid (bt HB_1.out hb)
  have G_2 := Lib.hid (G_1.out.below hb)
  have Z_2 := Lib.hid (Z_1.out.below hb)
  clear hb gG0 gG1 gG2
  obtain ⟨gG0, gG1, gG2⟩ := G_2.out
  go_wp2_with fail
  have hbd : Below v2.heap.size v2 v2.drew := (Below.refl _ v2).drew
  have HB_s := Lib.hid (bt HB_2.out hbd)
  have G_s := Lib.hid (G_2.out.below hbd)
  have Z_s := Lib.hid (Z_2.out.below hbd)
  clear hbd
  refine wp_region_held_drew (S := (fun w' => w'.cell? ⟨w.heap.size, 0, none⟩ = some (.int .i64 P) ∧ w'.cell? ⟨w.heap.size, 1, none⟩ = some (.int .i64 Q) ∧ w'.cell? ⟨w.heap.size, 2, none⟩ = some (.int .i64 G))) (by kernel_rfl) (show _ from G_2.out) (fun hHeld => ?_)
  generalize hW0 : v2.drew = Ws at *
  clear hW0
  refine wpAnyH_take (i := 0) (v := ?_) rfl (by kernel_rfl) (by kernel_rfl) (by kernel_rfl) (fun _ _ _ h => h) (Or.inl ⟨by kernel_rfl, ?_⟩) (by assumption) ?_
  rotate_left 1
  · intro w9 hSw
    try dsimp only at hSw
    go_simp
    try with_reducible rfl
  try simp only [Act.put, List.getElem_toArray, List.getElem_cons_succ, List.getElem_cons_zero, List.setIfInBounds_toArray, List.set_cons_zero, List.set_cons_succ]
  refine wpAnyH_take (i := 1) (v := ?_) rfl (by kernel_rfl) (by kernel_rfl) (by kernel_rfl) (fun _ _ _ h => h) (Or.inl ⟨by kernel_rfl, ?_⟩) (by assumption) ?_
  rotate_left 1
  · intro w9 hSw
    try dsimp only at hSw
    go_simp
    try with_reducible rfl
  try simp only [Act.put, List.getElem_toArray, List.getElem_cons_succ, List.getElem_cons_zero, List.setIfInBounds_toArray, List.set_cons_zero, List.set_cons_succ]
  refine wpAnyH_take (i := 2) (v := ?_) rfl (by kernel_rfl) (by kernel_rfl) (by kernel_rfl) (fun _ _ _ h => h) (Or.inl ⟨by kernel_rfl, ?_⟩) (by assumption) ?_
  rotate_left 1
  · intro w9 hSw
    try dsimp only at hSw
    go_simp
    try with_reducible rfl
  try simp only [Act.put, List.getElem_toArray, List.getElem_cons_succ, List.getElem_cons_zero, List.setIfInBounds_toArray, List.set_cons_zero, List.set_cons_succ]
  refine wpAnyH_take (i := 3) (v := ?_) rfl (by kernel_rfl) (by kernel_rfl) (by kernel_rfl) (fun _ _ _ h => h) (Or.inl ⟨by kernel_rfl, ?_⟩) (by assumption) ?_
  rotate_left 1
  · intro w9 hSw
    try dsimp only at hSw
    go_simp
    try with_reducible rfl
  try simp only [Act.put, List.getElem_toArray, List.getElem_cons_succ, List.getElem_cons_zero, List.setIfInBounds_toArray, List.set_cons_zero, List.set_cons_succ]
  refine wpAnyH_take (i := 5) (v := ?_) rfl (by kernel_rfl) (by kernel_rfl) (by kernel_rfl) (fun _ _ _ h => h) (Or.inl ⟨by kernel_rfl, ?_⟩) (by assumption) ?_
  rotate_left 1
  · intro w9 hSw
    try dsimp only at hSw
    go_simp
    try with_reducible rfl
  try simp only [Act.put, List.getElem_toArray, List.getElem_cons_succ, List.getElem_cons_zero, List.setIfInBounds_toArray, List.set_cons_zero, List.set_cons_succ]
  refine wpAnyH_ready (rs := [4]) (by kernel_rfl) (by simp) ?_
  refine AllReadyH.cons rfl (fun K hK => ?_) (AllReadyH.nil)
  go_simp
  go_at_call 84
  refine (firstTrustees_any ss.length (by omega) _).mono ?_
  rintro e' Wse ⟨gi, rfl, hown, hb⟩
  have HB_se := Lib.hid (bt HB_s.out hb)
  have G_se := Lib.hid (G_s.out.below hb)
  have Z_se := Lib.hid (Z_s.out.below hb)
  have F_se := Lib.hid (owI_in hown hb.size)
  clear hown
  clear hb
  go_wp2_with fail
  refine hK.out _ _ (show _ from G_se.out) (fun hHeld => ?_)
  clear hK K
  try simp only [Act.put, List.getElem_toArray, List.getElem_cons_succ, List.getElem_cons_zero, List.setIfInBounds_toArray, List.set_cons_zero, List.set_cons_succ]
  refine wpAnyH_ready (rs := [6]) (by kernel_rfl) (by simp) ?_
  refine AllReadyH.cons rfl (fun K hK => ?_) (AllReadyH.nil)
  go_simp
  go_at_call 114
  refine (interpolate_any Q (some ⟨gi, 0, none⟩) ad ss.length ss.length ss.length cap (iota ss.length) ss (iota_length _) rfl (by omega) (by omega) (Nat.le_refl _) _ (inI_ints F_se.out) Z_se.out).mono ?_
  rw [HTAB.out, HITP.out]
  rintro e' Wseg ⟨va, vn, vc, rfl, hown, hb⟩
  have hvn := (own_ints hown).2.1
  rw [hfl] at hvn
  subst hvn
  have HB_seg := Lib.hid (bt HB_se.out hb)
  have G_seg := Lib.hid (G_se.out.below hb)
  have Z_seg := Lib.hid (Z_se.out.below hb)
  have F_seg := Lib.hid (F_se.out.below hb)
  have K_seg := Lib.hid (owI_mk hown hb.size).toIn
  clear hown
  clear hb
  go_wp2_with fail
  refine hK.out _ _ (show _ from G_seg.out) (fun hHeld => ?_)
  clear hK K
  try simp only [Act.put, List.getElem_toArray, List.getElem_cons_succ, List.getElem_cons_zero, List.setIfInBounds_toArray, List.set_cons_zero, List.set_cons_succ]
  refine wpAnyH_take (i := 7) (v := ?_) rfl (by kernel_rfl) (by kernel_rfl) (by kernel_rfl) (fun _ _ _ h => h) (Or.inl ⟨by kernel_rfl, ?_⟩) (by assumption) ?_
  rotate_left 1
  · intro w9 hSw
    try dsimp only at hSw
    go_simp
    try with_reducible rfl
  try simp only [Act.put, List.getElem_toArray, List.getElem_cons_succ, List.getElem_cons_zero, List.setIfInBounds_toArray, List.set_cons_zero, List.set_cons_succ]
  refine wpAnyH_take (i := 8) (v := ?_) rfl (by kernel_rfl) (by kernel_rfl) (by kernel_rfl) (fun _ _ _ h => h) (Or.inl ⟨by kernel_rfl, ?_⟩) (by assumption) ?_
  rotate_left 1
  · intro w9 hSw
    try dsimp only at hSw
    go_simp
    try with_reducible rfl
  try simp only [Act.put, List.getElem_toArray, List.getElem_cons_succ, List.getElem_cons_zero, List.setIfInBounds_toArray, List.set_cons_zero, List.set_cons_succ]
  refine wpAnyH_take (i := 9) (v := ?_) rfl (by kernel_rfl) (by kernel_rfl) (by kernel_rfl) (fun _ _ _ h => h) (Or.inl ⟨by kernel_rfl, ?_⟩) (by assumption) ?_
  rotate_left 1
  · intro w9 hSw
    try dsimp only at hSw
    go_simp
    try with_reducible rfl
  try simp only [Act.put, List.getElem_toArray, List.getElem_cons_succ, List.getElem_cons_zero, List.setIfInBounds_toArray, List.set_cons_zero, List.set_cons_succ]
  refine wpAnyH_take (i := 10) (v := ?_) rfl (by kernel_rfl) (by kernel_rfl) (by kernel_rfl) (fun _ _ _ h => h) (Or.inl ⟨by kernel_rfl, ?_⟩) (by assumption) ?_
  rotate_left 1
  · intro w9 hSw
    try dsimp only at hSw
    go_simp
    try with_reducible rfl
  try simp only [Act.put, List.getElem_toArray, List.getElem_cons_succ, List.getElem_cons_zero, List.setIfInBounds_toArray, List.set_cons_zero, List.set_cons_succ]
  refine wpAnyH_take (i := 11) (v := ?_) rfl (by kernel_rfl) (by kernel_rfl) (by kernel_rfl) (fun _ _ _ h => h) (Or.inl ⟨by kernel_rfl, ?_⟩) (by assumption) ?_
  rotate_left 1
  · intro w9 hSw
    try dsimp only at hSw
    go_simp
    try with_reducible rfl
  try simp only [Act.put, List.getElem_toArray, List.getElem_cons_succ, List.getElem_cons_zero, List.setIfInBounds_toArray, List.set_cons_zero, List.set_cons_succ]
  refine wpAnyH_done (by kernel_rfl) ?_ _
  obtain ⟨q0, q1, q2⟩ := G_seg.out
  go_wp2_with fail
  refine (degreeOf_any Q va ss.length vc f hfl (by omega) _ (inI_ints K_seg.out)).mono ?_
  rw [HFLD.out, HDEG.out]
  rintro e' v9 ⟨rfl, hb9⟩
  have HB_9 := Lib.hid (bt HB_seg.out hb9)
  clear hb9 q0 q1 q2
  go_wp2
  go_ret2
  exact ⟨rfl, HB_9.out⟩

def CZ (w : World) (a : Addr) (v : Value) : Prop := w.cell? a = some v
theorem CZ.below {w w' : World} {a : Addr} {v : Value} (h : CZ w a v) (hb : Below w.heap.size w w') : CZ w' a v := by
  unfold CZ at *
  rw [hb.cell (World.block_lt_of_cell? w a h)]; exact h
def BZ (u w : World) : Prop := Below u.heap.size u w
theorem BZ.below {u w w' : World} (h : BZ u w) (hb : Below w.heap.size w w') : BZ u w' := bt h hb
theorem cnsB_off {q : Int} {t : Nat} {ss : List Int} {j : Nat} (hj : j < ss.length - t) (h : dotFrom q 0 (lagr q (((t + j : Nat) : Int) + 1) (iota t)) (ss.take t) ≠ ss.getD (t + j) 0) : cnsB q t ss = false := by
  rw [← Bool.not_eq_true, cnsB_true]
  exact fun hh => h (hh j hj)
theorem cnsB_short {q : Int} {t : Nat} {ss : List Int} (h : ss.length ≤ t) : cnsB q t ss = true := cnsB_true.2 (fun j hj => by omega)

set_option maxRecDepth 100000 in
set_option maxHeartbeats 3200000 in
theorem sAreConsistent_any (P Q G t : Int) (ad : Option Addr) (cap : Nat) (ss : List Int) (hl : ss.length ≤ 1000000000000) (hcap : ss.length ≤ cap) {w : World} (hz : IsInts w ad ss) :
    Calls Try.prog 51 #[gv P Q G, .int .i64 t, .slice ad ss.length cap] w fun e w' => e = .returned (.tuple #[.bool (acV P Q G t ss), .bool (acB P Q G t ss)]) ∧ Below w.heap.size w w' := by
  have G_0 := Lib.hid (gr_atS w (w.heap.size) (by simp) P Q G 24)
  have HB_0 := Lib.hid (show Below w.heap.size w (w.alloc (.cells #[.int .i64 P, .int .i64 Q, .int .i64 G] 24)) from ba _ _)
  have Z_0 := Lib.hid (LZ.below hz HB_0.out)
  clear hz
  cases h0 : trB P Q G
  · have K0 := Lib.hid (show trB P Q G = false from h0)
    have E1 := Lib.hid (show acB P Q G t ss = false by simp [acB, h0])
    have E2 := Lib.hid (show acV P Q G t ss = false by simp [acV, E1.out])
    rw [E1.out, E2.out]
    clear h0
    obtain ⟨gG0, gG1, gG2⟩ := G_0.out
    go_enter Try.func51, Try.ntmps51
    go_wp2_with fail
    refine (sGroup_any P Q G _).mono ?_
    rw [K0.out]
    rintro e v1 ⟨rfl, hb⟩
    have HB_1 := Lib.hid (bt HB_0.out hb)
    have G_1 := Lib.hid (G_0.out.below hb)
    have Z_1 := Lib.hid (Z_0.out.below hb)
    clear hb gG0 gG1 gG2
    obtain ⟨gG0, gG1, gG2⟩ := G_1.out
    go_wp2
    go_ret2
    exact ⟨rfl, HB_1.out⟩
  have K0 := Lib.hid (show trB P Q G = true from h0)
  obtain ⟨hgd, hmo, h7⟩ := trB_of h0
  cases h1 : inB t 1 7
  · have K1 := Lib.hid (show inB t 1 7 = false from h1)
    have E1 := Lib.hid (show acB P Q G t ss = false by simp [acB, h0, h1])
    have E2 := Lib.hid (show acV P Q G t ss = false by simp [acV, E1.out])
    rw [E1.out, E2.out]
    clear h0 h1
    obtain ⟨gG0, gG1, gG2⟩ := G_0.out
    go_enter Try.func51, Try.ntmps51
    go_wp2_with fail
    refine (sGroup_any P Q G _).mono ?_
    rw [K0.out]
    rintro e v1 ⟨rfl, hb⟩
    have HB_1 := Lib.hid (bt HB_0.out hb)
    have G_1 := Lib.hid (G_0.out.below hb)
    have Z_1 := Lib.hid (Z_0.out.below hb)
    clear hb gG0 gG1 gG2
    obtain ⟨gG0, gG1, gG2⟩ := G_1.out
    go_wp2_with fail
    refine (l1In_any _ _ _ _).mono ?_
    rw [K1.out]
    rintro e w' ⟨rfl, rfl⟩
    go_wp2
    go_ret2
    exact ⟨rfl, HB_1.out⟩
  have K1 := Lib.hid (show inB t 1 7 = true from h1)
  cases h2 : inB (ss.length : Int) 1 7
  · have K2 := Lib.hid (show inB (ss.length : Int) 1 7 = false from h2)
    have E1 := Lib.hid (show acB P Q G t ss = false by simp [acB, h0, h1, h2])
    have E2 := Lib.hid (show acV P Q G t ss = false by simp [acV, E1.out])
    rw [E1.out, E2.out]
    clear h0 h1 h2
    obtain ⟨gG0, gG1, gG2⟩ := G_0.out
    go_enter Try.func51, Try.ntmps51
    go_wp2_with fail
    refine (sGroup_any P Q G _).mono ?_
    rw [K0.out]
    rintro e v1 ⟨rfl, hb⟩
    have HB_1 := Lib.hid (bt HB_0.out hb)
    have G_1 := Lib.hid (G_0.out.below hb)
    have Z_1 := Lib.hid (Z_0.out.below hb)
    clear hb gG0 gG1 gG2
    obtain ⟨gG0, gG1, gG2⟩ := G_1.out
    go_wp2_with fail
    refine (l1In_any _ _ _ _).mono ?_
    rw [K1.out]
    rintro e w' ⟨rfl, rfl⟩
    go_wp2_with fail
    refine (l1In_any _ _ _ _).mono ?_
    rw [K2.out]
    rintro e w' ⟨rfl, rfl⟩
    go_wp2
    go_ret2
    exact ⟨rfl, HB_1.out⟩
  have K2 := Lib.hid (show inB (ss.length : Int) 1 7 = true from h2)
  cases h3 : allIn ss 0 (Q - 1)
  · have K3 := Lib.hid (show allIn ss 0 (Q - 1) = false from h3)
    have E1 := Lib.hid (show acB P Q G t ss = false by simp [acB, h0, h1, h2, h3])
    have E2 := Lib.hid (show acV P Q G t ss = false by simp [acV, E1.out])
    rw [E1.out, E2.out]
    clear h0 h1 h2 h3
    obtain ⟨gG0, gG1, gG2⟩ := G_0.out
    go_enter Try.func51, Try.ntmps51
    go_wp2_with fail
    refine (sGroup_any P Q G _).mono ?_
    rw [K0.out]
    rintro e v1 ⟨rfl, hb⟩
    have HB_1 := Lib.hid (bt HB_0.out hb)
    have G_1 := Lib.hid (G_0.out.below hb)
    have Z_1 := Lib.hid (Z_0.out.below hb)
    clear hb gG0 gG1 gG2
    obtain ⟨gG0, gG1, gG2⟩ := G_1.out
    go_wp2_with fail
    refine (l1In_any _ _ _ _).mono ?_
    rw [K1.out]
    rintro e w' ⟨rfl, rfl⟩
    go_wp2_with fail
    refine (l1In_any _ _ _ _).mono ?_
    rw [K2.out]
    rintro e w' ⟨rfl, rfl⟩
    go_wp2_with fail
    refine (gExps_any P Q G hmo.2 ad ss.length cap ss rfl (by omega) _ Z_1.out).mono ?_
    rw [K3.out]
    rintro e v2 ⟨rfl, hb⟩
    have HB_2 := Lib.hid (bt HB_1.out hb)
    have G_2 := Lib.hid (G_1.out.below hb)
    have Z_2 := Lib.hid (Z_1.out.below hb)
    clear hb gG0 gG1 gG2
    obtain ⟨gG0, gG1, gG2⟩ := G_2.out
    go_wp2
    go_ret2
    exact ⟨rfl, HB_2.out⟩
  have K3 := Lib.hid (show allIn ss 0 (Q - 1) = true from h3)
  by_cases h4 : ¬ (t < (ss.length : Int))
  · have B4 : (ss.length : Int) ≤ t := by omega
    have E1 := Lib.hid (show acB P Q G t ss = true by simp [acB, h0, h1, h2, h3])
    have E2 := Lib.hid (show acV P Q G t ss = true by unfold acV; rw [E1.out, cnsB_short (by omega)]; rfl)
    rw [E1.out, E2.out]
    clear h0 h1 h2 h3 h4
    obtain ⟨gG0, gG1, gG2⟩ := G_0.out
    go_enter Try.func51, Try.ntmps51
    go_wp2_with fail
    refine (sGroup_any P Q G _).mono ?_
    rw [K0.out]
    rintro e v1 ⟨rfl, hb⟩
    have HB_1 := Lib.hid (bt HB_0.out hb)
    have G_1 := Lib.hid (G_0.out.below hb)
    have Z_1 := Lib.hid (Z_0.out.below hb)
    clear hb gG0 gG1 gG2
    obtain ⟨gG0, gG1, gG2⟩ := G_1.out
    go_wp2_with fail
    refine (l1In_any _ _ _ _).mono ?_
    rw [K1.out]
    rintro e w' ⟨rfl, rfl⟩
    go_wp2_with fail
    refine (l1In_any _ _ _ _).mono ?_
    rw [K2.out]
    rintro e w' ⟨rfl, rfl⟩
    go_wp2_with fail
    refine (gExps_any P Q G hmo.2 ad ss.length cap ss rfl (by omega) _ Z_1.out).mono ?_
    rw [K3.out]
    rintro e v2 ⟨rfl, hb⟩
    have HB_2 := Lib.hid (bt HB_1.out hb)
    have G_2 := Lib.hid (G_1.out.below hb)
    have Z_2 := Lib.hid (Z_1.out.below hb)
    clear hb gG0 gG1 gG2
    obtain ⟨gG0, gG1, gG2⟩ := G_2.out
    go_wp2
    go_ret2
    exact ⟨rfl, HB_2.out⟩
  replace h4 := Decidable.not_not.1 h4
  have B4 : ¬ ((ss.length : Int) ≤ t) := by omega
  have E1 := Lib.hid (show acB P Q G t ss = true by simp [acB, h0, h1, h2, h3])
  have E2 := Lib.hid (show acV P Q G t ss = cnsB Q t.toNat ss by simp [acV, E1.out])
  rw [E1.out, E2.out]
  obtain ⟨_, _, ⟨ht1, ht7⟩, ⟨hn1, hn7⟩, hres, hpr, _⟩ := ac_facts E1.out
  obtain ⟨q2, q3, _⟩ := isPr_num hpr
  have hlt := h4
  clear h0 h1 h2 h3 h4 hgd E1 E2
  obtain ⟨t, rfl⟩ := Int.eq_ofNat_of_zero_le (show 0 ≤ t by omega)
  rw [Int.toNat_natCast]
  have hnl : ¬ (ss.length ≤ t) := by omega
  have hdf : decide (ss.length ≤ t) = false := decide_eq_false hnl
  obtain ⟨i0, hi, hy0, hy1, hy2⟩ := info_parts Try.info3
  have HRES := Lib.hid hres
  have HPR := Lib.hid hpr
  clear hres hpr
  have HIT := Lib.hid (show ∀ z ∈ iota t, 0 ≤ z ∧ z < Q by intro z hz; have := iota_mem.1 hz; omega)
  obtain ⟨gG0, gG1, gG2⟩ := G_0.out
  go_enter Try.func51, Try.ntmps51
  go_wp2_with fail
  refine (sGroup_any P Q G _).mono ?_
  rw [K0.out]
  rintro e v1 ⟨rfl, hb⟩
  have HB_1 := Lib.hid (bt HB_0.out hb)
  have G_1 := Lib.hid (G_0.out.below hb)
  have Z_1 := Lib.hid (Z_0.out.below hb)
  clear hb gG0 gG1 gG2
  obtain ⟨gG0, gG1, gG2⟩ := G_1.out
  go_wp2_with fail
  refine (l1In_any _ _ _ _).mono ?_
  rw [K1.out]
  rintro e w' ⟨rfl, rfl⟩
  go_wp2_with fail
  refine (l1In_any _ _ _ _).mono ?_
  rw [K2.out]
  rintro e w' ⟨rfl, rfl⟩
  go_wp2_with fail
  refine (gExps_any P Q G hmo.2 ad ss.length cap ss rfl (by omega) _ Z_1.out).mono ?_
  rw [K3.out]
  rintro e v2 ⟨rfl, hb⟩
  have HB_2 := Lib.hid (bt HB_1.out hb)
  have G_2 := Lib.hid (G_1.out.below hb)
  have Z_2 := Lib.hid (Z_1.out.below hb)
  clear hb gG0 gG1 gG2
  obtain ⟨gG0, gG1, gG2⟩ := G_2.out
  go_wp2_with fail
  go_loopw [8, 9] (fun V I wr => ∃ (k : Nat) (va : Option Addr) (vc : Nat), k ≤ t ∧ V = .slice va k vc ∧ I = .int .i64 ((k : Int) + 1) ∧ wr.ownsRow v2.heap.size 3 1 (.slice va k vc) k ((iota k).map (Value.int .i64)) ∧ Below v2.heap.size v2 wr) (fun _ I _ => t + 1 - (intOf I).toNat)
  case atStart => exact ⟨0, none, 0, Nat.zero_le _, rfl, rfl, World.ownsRow_nil _ _ _ _, Below.refl _ _⟩
  case round =>
    obtain ⟨k, va, vc, hk, rfl, rfl, hownr, hbel⟩ := hrel
    have HO := Lib.hid hownr
    have HBr := Lib.hid hbel
    clear hownr hbel
    by_cases hkt : k < t
    · have hlei : (k : Int) + 1 ≤ (t : Int) := by omega
      have hwk : IntKind.i64.wrap ((k : Int) + 1 + 1) = (k : Int) + 1 + 1 := by rw [IntKind.wrap_i64]; omega
      go_wp2_with (at_builtin
                   refine wpList_append_own _ rfl _ _ 25 rfl v2.heap.size 3 i0 (.int .i64 0) 1 8 Try.underlying25 hi hy0 hy1 hy2 rfl (by decide) _ _ _ rfl (HO.out.alloc _) ⟨wr.heap.size, 0, none⟩ 1 1 [.int .i64 ((k : Int) + 1)] rfl rfl ?c1 ?c2 ?c3 ?c4 ?c5 ?_)
      case c1 => exact cell_one_new _ _ _
      case c2 => intro u hu; simp at hu; subst hu; rfl
      case c3 => unfold maxLen; omega
      case c4 => omega
      case c5 => have := HBr.out.size; simp; omega
      intro v' w1 hown' hgrow _
      obtain ⟨va', vc', rfl⟩ := own_shape hown'
      have HO2 := Lib.hid hown'
      have HG2 := Lib.hid hgrow
      clear hown' hgrow
      go_wp2
      go_roundw
      case rel =>
        refine ⟨k + 1, va', vc', by omega, rfl, by go_num, ?_, ?_⟩
        · have h := HO2.out
          rw [iota_succ, List.map_append]
          simpa using h
        · exact (HBr.out.alloc HBr.out.size _).grown HG2.out (Nat.le_trans HBr.out.size (by simp)) (fun q hq => (HO.out.lt q hq).1)
      case measure => simp only [intOf]; omega
    obtain rfl : t = k := by omega
    have hgt : ¬ ((t : Int) + 1 ≤ (t : Int)) := by omega
    have HX := Lib.hid (owI_mk HO.out HBr.out.size).toIn
    have HGr := Lib.hid (G_2.out.below HBr.out)
    have HZr := Lib.hid (Z_2.out.below HBr.out)
    have HBw := Lib.hid (bt HB_2.out HBr.out)
    clear HO HBr
    have htc : t ≤ cap := by omega
    generalize wr = wq at *
    go_wp2_with fail
    go_loopw [10] (fun I wr => ∃ m : Nat, t ≤ m ∧ m ≤ ss.length ∧ I = .int .i64 ((m : Int) + 1) ∧ (∀ j', t + j' < m → dotFrom Q 0 (lagr Q (((t + j' : Nat) : Int) + 1) (iota t)) (ss.take t) = ss.getD (t + j') 0) ∧ Below wq.heap.size wq wr) (fun I _ => ss.length + 1 - (intOf I).toNat)
    case atStart => exact ⟨t, Nat.le_refl _, by omega, rfl, by intro j' h; omega, Below.refl _ _⟩
    case round =>
      obtain ⟨m, hm, hmn, rfl, hall, hbel⟩ := hrel
      have HALL := Lib.hid hall
      have G_0 := Lib.hid (HGr.out.below hbel)
      have Z_0 := Lib.hid (HZr.out.below hbel)
      have X_0 := Lib.hid (HX.out.below hbel)
      have HB_0 := Lib.hid (bt HBw.out hbel)
      have Q_0 := Lib.hid (show BZ wq wr from hbel)
      clear hall hbel
      by_cases hjn : m < ss.length
      · obtain ⟨b, off, x, rfl, hb, hcx, hd⟩ := (show IsInts wr ad ss from Z_0.out).at (k := m) (by omega)
        have hxv : ss.getD m 0 = x := by
          obtain ⟨hk', he⟩ := head_of_drop hd
          rw [getD_in hk']; exact he
        have C_0 := Lib.hid (show CZ wr ⟨b, off + m, none⟩ (.int .i64 x) from hcx)
        obtain ⟨d, hdv⟩ : ∃ d, dotFrom Q 0 (lagr Q ((m : Int) + 1) (iota t)) (ss.take t) = d := ⟨_, rfl⟩
        have HD := Lib.hid hdv
        have hle : (m : Int) + 1 ≤ (ss.length : Int) := by omega
        have hsub : IntKind.i64.wrap ((m : Int) + 1 - 1) = (m : Int) := by rw [IntKind.wrap_i64]; omega
        have hsu2 : IntKind.i64.wrap (m : Int) = (m : Int) := by rw [IntKind.wrap_i64]; omega
        have hadd : IntKind.i64.wrap ((m : Int) + 1 + 1) = (m : Int) + 1 + 1 := by rw [IntKind.wrap_i64]; omega
        by_cases hdx : d = x
        · have hne : (d != x) = false := by simp [hdx]
          have HS := Lib.hid (show ∀ j', t + j' < m + 1 → dotFrom Q 0 (lagr Q (((t + j' : Nat) : Int) + 1) (iota t)) (ss.take t) = ss.getD (t + j') 0 by
            intro j' hj'
            rcases Nat.lt_or_ge (t + j') m with h | h
            · exact HALL.out j' h
            · have e : t + j' = m := by omega
              rw [e, hdv, hdx, hxv])
          clear hdv hcx hd hxv HALL hdx
          go_wp2_with fail
          have hbd : Below wr.heap.size wr wr.drew := (Below.refl _ wr).drew
          have HB_s := Lib.hid (bt HB_0.out hbd)
          have G_s := Lib.hid (G_0.out.below hbd)
          have X_s := Lib.hid (X_0.out.below hbd)
          have Z_s := Lib.hid (Z_0.out.below hbd)
          have C_s := Lib.hid (C_0.out.below hbd)
          have Q_s := Lib.hid (Q_0.out.below hbd)
          clear hbd
          refine wp_region_held_drew (S := (fun w' => (w'.cell? ⟨w.heap.size, 0, none⟩ = some (.int .i64 P) ∧ w'.cell? ⟨w.heap.size, 1, none⟩ = some (.int .i64 Q) ∧ w'.cell? ⟨w.heap.size, 2, none⟩ = some (.int .i64 G)) ∧ w'.cell? ⟨b, off + m, none⟩ = some (.int .i64 x))) (by kernel_rfl) (show _ from ⟨G_0.out, C_0.out⟩) (fun hHeld => ?_)
          generalize hW0 : wr.drew = Ws at *
          clear hW0
          refine wpAnyH_take (i := 0) (v := ?_) rfl (by kernel_rfl) (by kernel_rfl) (by kernel_rfl) (fun _ _ _ h => h) (Or.inl ⟨by kernel_rfl, ?_⟩) (by assumption) ?_
          rotate_left 1
          · intro w9 hSw
            try dsimp only at hSw
            go_simp
            try with_reducible rfl
          try simp only [Act.put, List.getElem_toArray, List.getElem_cons_succ, List.getElem_cons_zero, List.setIfInBounds_toArray, List.set_cons_zero, List.set_cons_succ]
          refine wpAnyH_take (i := 1) (v := ?_) rfl (by kernel_rfl) (by kernel_rfl) (by kernel_rfl) (fun _ _ _ h => h) (Or.inl ⟨by kernel_rfl, ?_⟩) (by assumption) ?_
          rotate_left 1
          · intro w9 hSw
            try dsimp only at hSw
            go_simp
            try with_reducible rfl
          try simp only [Act.put, List.getElem_toArray, List.getElem_cons_succ, List.getElem_cons_zero, List.setIfInBounds_toArray, List.set_cons_zero, List.set_cons_succ]
          refine wpAnyH_take (i := 2) (v := ?_) rfl (by kernel_rfl) (by kernel_rfl) (by kernel_rfl) (fun _ _ _ h => h) (Or.inl ⟨by kernel_rfl, ?_⟩) (by assumption) ?_
          rotate_left 1
          · intro w9 hSw
            try dsimp only at hSw
            go_simp
            try with_reducible rfl
          try simp only [Act.put, List.getElem_toArray, List.getElem_cons_succ, List.getElem_cons_zero, List.setIfInBounds_toArray, List.set_cons_zero, List.set_cons_succ]
          refine wpAnyH_take (i := 3) (v := ?_) rfl (by kernel_rfl) (by kernel_rfl) (by kernel_rfl) (fun _ _ _ h => h) (Or.inl ⟨by kernel_rfl, ?_⟩) (by assumption) ?_
          rotate_left 1
          · intro w9 hSw
            try dsimp only at hSw
            go_simp
            try with_reducible rfl
          try simp only [Act.put, List.getElem_toArray, List.getElem_cons_succ, List.getElem_cons_zero, List.setIfInBounds_toArray, List.set_cons_zero, List.set_cons_succ]
          refine wpAnyH_take (i := 5) (v := ?_) rfl (by kernel_rfl) (by kernel_rfl) (by kernel_rfl) (fun _ _ _ h => h) (Or.inl ⟨by kernel_rfl, ?_⟩) (by assumption) ?_
          rotate_left 1
          · intro w9 hSw
            try dsimp only at hSw
            go_simp
            try with_reducible rfl
          try simp only [Act.put, List.getElem_toArray, List.getElem_cons_succ, List.getElem_cons_zero, List.setIfInBounds_toArray, List.set_cons_zero, List.set_cons_succ]
          refine wpAnyH_take (i := 6) (v := ?_) rfl (by kernel_rfl) (by kernel_rfl) (by kernel_rfl) (fun _ _ _ h => h) (Or.inl ⟨by kernel_rfl, ?_⟩) (by assumption) ?_
          rotate_left 1
          · intro w9 hSw
            try dsimp only at hSw
            go_simp
            try with_reducible rfl
          try simp only [Act.put, List.getElem_toArray, List.getElem_cons_succ, List.getElem_cons_zero, List.setIfInBounds_toArray, List.set_cons_zero, List.set_cons_succ]
          refine wpAnyH_take (i := 7) (v := ?_) rfl (by kernel_rfl) (by kernel_rfl) (by kernel_rfl) (fun _ _ _ h => h) (Or.inl ⟨by kernel_rfl, ?_⟩) (by assumption) ?_
          rotate_left 1
          · intro w9 hSw
            try dsimp only at hSw
            go_simp
            try with_reducible rfl
          try simp only [Act.put, List.getElem_toArray, List.getElem_cons_succ, List.getElem_cons_zero, List.setIfInBounds_toArray, List.set_cons_zero, List.set_cons_succ]
          refine wpAnyH_take (i := 8) (v := ?_) rfl (by kernel_rfl) (by kernel_rfl) (by kernel_rfl) (fun _ _ _ h => h) (Or.inl ⟨by kernel_rfl, ?_⟩) (by assumption) ?_
          rotate_left 1
          · intro w9 hSw
            try dsimp only at hSw
            go_simp
            try with_reducible rfl
          try simp only [Act.put, List.getElem_toArray, List.getElem_cons_succ, List.getElem_cons_zero, List.setIfInBounds_toArray, List.set_cons_zero, List.set_cons_succ]
          refine wpAnyH_take (i := 9) (v := ?_) rfl (by kernel_rfl) (by kernel_rfl) (by kernel_rfl) (fun _ _ _ h => h) (Or.inl ⟨by kernel_rfl, ?_⟩) (by assumption) ?_
          rotate_left 1
          · intro w9 hSw
            try dsimp only at hSw
            go_simp
            try with_reducible rfl
          try simp only [Act.put, List.getElem_toArray, List.getElem_cons_succ, List.getElem_cons_zero, List.setIfInBounds_toArray, List.set_cons_zero, List.set_cons_succ]
          refine wpAnyH_take (i := 11) (v := ?_) rfl (by kernel_rfl) (by kernel_rfl) (by kernel_rfl) (fun _ _ _ h => h) (Or.inl ⟨by kernel_rfl, ?_⟩) (by assumption) ?_
          rotate_left 1
          · intro w9 hSw
            try dsimp only at hSw
            go_simp
            try with_reducible rfl
          try simp only [Act.put, List.getElem_toArray, List.getElem_cons_succ, List.getElem_cons_zero, List.setIfInBounds_toArray, List.set_cons_zero, List.set_cons_succ]
          refine wpAnyH_take (i := 12) (v := ?_) rfl (by kernel_rfl) (by kernel_rfl) (by kernel_rfl) (fun _ _ _ h => h) (Or.inl ⟨by kernel_rfl, ?_⟩) (by assumption) ?_
          rotate_left 1
          · intro w9 hSw
            try dsimp only at hSw
            go_simp
            try with_reducible rfl
          try simp only [Act.put, List.getElem_toArray, List.getElem_cons_succ, List.getElem_cons_zero, List.setIfInBounds_toArray, List.set_cons_zero, List.set_cons_succ]
          refine wpAnyH_take (i := 13) (v := ?_) rfl (by kernel_rfl) (by kernel_rfl) (by kernel_rfl) (fun _ _ _ h => h) (Or.inl ⟨by kernel_rfl, ?_⟩) (by assumption) ?_
          rotate_left 1
          · intro w9 hSw
            try dsimp only at hSw
            go_simp
            try with_reducible rfl
          try simp only [Act.put, List.getElem_toArray, List.getElem_cons_succ, List.getElem_cons_zero, List.setIfInBounds_toArray, List.set_cons_zero, List.set_cons_succ]
          refine wpAnyH_take (i := 14) (v := ?_) rfl (by kernel_rfl) (by kernel_rfl) (by kernel_rfl) (fun _ _ _ h => h) (Or.inl ⟨by kernel_rfl, ?_⟩) (by assumption) ?_
          rotate_left 1
          · intro w9 hSw
            try dsimp only at hSw
            go_simp
            try with_reducible rfl
          try simp only [Act.put, List.getElem_toArray, List.getElem_cons_succ, List.getElem_cons_zero, List.setIfInBounds_toArray, List.set_cons_zero, List.set_cons_succ]
          refine wpAnyH_take (i := 15) (v := ?_) rfl (by kernel_rfl) (by kernel_rfl) (by kernel_rfl) (fun _ _ _ h => h) (Or.inl ⟨by kernel_rfl, ?_⟩) (by assumption) ?_
          rotate_left 1
          · intro w9 hSw
            try dsimp only at hSw
            go_simp
            try with_reducible rfl
          try simp only [Act.put, List.getElem_toArray, List.getElem_cons_succ, List.getElem_cons_zero, List.setIfInBounds_toArray, List.set_cons_zero, List.set_cons_succ]
          refine wpAnyH_ready (rs := [4]) (by kernel_rfl) (by simp) ?_
          refine AllReadyH.cons rfl (fun K hK => ?_) (AllReadyH.nil)
          go_simp
          go_at_call 110
          refine (yLagrange_any Q va t vc (iota t) ((m : Int) + 1) (iota_length _) (by omega) HPR.out HIT.out (iota_nodup _) (by omega) (by omega) _ (inI_ints X_s.out)).mono ?_
          rintro e' Wse ⟨la, lc, rfl, hown, hb⟩
          have hll := lagr_length Q ((m : Int) + 1) (iota t)
          rw [iota_length] at hll
          have HB_se := Lib.hid (bt HB_s.out hb)
          have G_se := Lib.hid (G_s.out.below hb)
          have X_se := Lib.hid (X_s.out.below hb)
          have Z_se := Lib.hid (Z_s.out.below hb)
          have C_se := Lib.hid (C_s.out.below hb)
          have Q_se := Lib.hid (Q_s.out.below hb)
          have L_se := Lib.hid (LZ_own hown)
          clear hown
          clear hb
          go_wp2_with fail
          refine hK.out _ _ (show _ from ⟨G_se.out, C_se.out⟩) (fun hHeld => ?_)
          clear hK K
          try simp only [Act.put, List.getElem_toArray, List.getElem_cons_succ, List.getElem_cons_zero, List.setIfInBounds_toArray, List.set_cons_zero, List.set_cons_succ]
          refine wpAnyH_ready (rs := [10]) (by kernel_rfl) (by simp) ?_
          refine AllReadyH.cons rfl (fun K hK => ?_) (AllReadyH.nil)
          go_simp
          go_at_call 109
          refine (nDot_any _ _ t _ _ (lagr Q ((m : Int) + 1) (iota t)) (ss.take t) Q hll (by rw [List.length_take]; omega) (by omega) q2 q3 (lagr_res (by omega) _) (fun z hz => HRES.out z (List.mem_of_mem_take hz)) _ L_se.out (IsInts.take (show IsInts _ (some ⟨b, off, none⟩) ss from Z_se.out) t)).mono ?_
          rw [HD.out]
          rintro e' w' ⟨rfl, rfl⟩
          go_wp2_with fail
          refine hK.out _ _ (show _ from ⟨G_se.out, C_se.out⟩) (fun hHeld => ?_)
          clear hK K
          try simp only [Act.put, List.getElem_toArray, List.getElem_cons_succ, List.getElem_cons_zero, List.setIfInBounds_toArray, List.set_cons_zero, List.set_cons_succ]
          refine wpAnyH_take (i := 16) (v := ?_) rfl (by kernel_rfl) (by kernel_rfl) (by kernel_rfl) (fun _ _ _ h => h) (Or.inl ⟨by kernel_rfl, ?_⟩) (by assumption) ?_
          rotate_left 1
          · intro w9 hSw
            try dsimp only at hSw
            go_simp
            try with_reducible rfl
          try simp only [Act.put, List.getElem_toArray, List.getElem_cons_succ, List.getElem_cons_zero, List.setIfInBounds_toArray, List.set_cons_zero, List.set_cons_succ]
          refine wpAnyH_done (by kernel_rfl) ?_ _
          clear hHeld
          go_wp2
          go_roundw
          case rel => exact ⟨m + 1, by omega, by omega, by go_num, HS.out, Q_se.out⟩
          case measure => simp only [intOf]; omega
        · have hne : (d != x) = true := by simp [hdx]
          have HF := Lib.hid (show cnsB Q t ss = false from cnsB_off (j := m - t) (by omega) (by rw [show t + (m - t) = m by omega, hdv, hxv]; exact hdx))
          clear hdv hcx hd hxv HALL hdx
          go_wp2_with fail
          have hbd : Below wr.heap.size wr wr.drew := (Below.refl _ wr).drew
          have HB_s := Lib.hid (bt HB_0.out hbd)
          have G_s := Lib.hid (G_0.out.below hbd)
          have X_s := Lib.hid (X_0.out.below hbd)
          have Z_s := Lib.hid (Z_0.out.below hbd)
          have C_s := Lib.hid (C_0.out.below hbd)
          have Q_s := Lib.hid (Q_0.out.below hbd)
          clear hbd
          refine wp_region_held_drew (S := (fun w' => (w'.cell? ⟨w.heap.size, 0, none⟩ = some (.int .i64 P) ∧ w'.cell? ⟨w.heap.size, 1, none⟩ = some (.int .i64 Q) ∧ w'.cell? ⟨w.heap.size, 2, none⟩ = some (.int .i64 G)) ∧ w'.cell? ⟨b, off + m, none⟩ = some (.int .i64 x))) (by kernel_rfl) (show _ from ⟨G_0.out, C_0.out⟩) (fun hHeld => ?_)
          generalize hW0 : wr.drew = Ws at *
          clear hW0
          refine wpAnyH_take (i := 0) (v := ?_) rfl (by kernel_rfl) (by kernel_rfl) (by kernel_rfl) (fun _ _ _ h => h) (Or.inl ⟨by kernel_rfl, ?_⟩) (by assumption) ?_
          rotate_left 1
          · intro w9 hSw
            try dsimp only at hSw
            go_simp
            try with_reducible rfl
          try simp only [Act.put, List.getElem_toArray, List.getElem_cons_succ, List.getElem_cons_zero, List.setIfInBounds_toArray, List.set_cons_zero, List.set_cons_succ]
          refine wpAnyH_take (i := 1) (v := ?_) rfl (by kernel_rfl) (by kernel_rfl) (by kernel_rfl) (fun _ _ _ h => h) (Or.inl ⟨by kernel_rfl, ?_⟩) (by assumption) ?_
          rotate_left 1
          · intro w9 hSw
            try dsimp only at hSw
            go_simp
            try with_reducible rfl
          try simp only [Act.put, List.getElem_toArray, List.getElem_cons_succ, List.getElem_cons_zero, List.setIfInBounds_toArray, List.set_cons_zero, List.set_cons_succ]
          refine wpAnyH_take (i := 2) (v := ?_) rfl (by kernel_rfl) (by kernel_rfl) (by kernel_rfl) (fun _ _ _ h => h) (Or.inl ⟨by kernel_rfl, ?_⟩) (by assumption) ?_
          rotate_left 1
          · intro w9 hSw
            try dsimp only at hSw
            go_simp
            try with_reducible rfl
          try simp only [Act.put, List.getElem_toArray, List.getElem_cons_succ, List.getElem_cons_zero, List.setIfInBounds_toArray, List.set_cons_zero, List.set_cons_succ]
          refine wpAnyH_take (i := 3) (v := ?_) rfl (by kernel_rfl) (by kernel_rfl) (by kernel_rfl) (fun _ _ _ h => h) (Or.inl ⟨by kernel_rfl, ?_⟩) (by assumption) ?_
          rotate_left 1
          · intro w9 hSw
            try dsimp only at hSw
            go_simp
            try with_reducible rfl
          try simp only [Act.put, List.getElem_toArray, List.getElem_cons_succ, List.getElem_cons_zero, List.setIfInBounds_toArray, List.set_cons_zero, List.set_cons_succ]
          refine wpAnyH_take (i := 5) (v := ?_) rfl (by kernel_rfl) (by kernel_rfl) (by kernel_rfl) (fun _ _ _ h => h) (Or.inl ⟨by kernel_rfl, ?_⟩) (by assumption) ?_
          rotate_left 1
          · intro w9 hSw
            try dsimp only at hSw
            go_simp
            try with_reducible rfl
          try simp only [Act.put, List.getElem_toArray, List.getElem_cons_succ, List.getElem_cons_zero, List.setIfInBounds_toArray, List.set_cons_zero, List.set_cons_succ]
          refine wpAnyH_take (i := 6) (v := ?_) rfl (by kernel_rfl) (by kernel_rfl) (by kernel_rfl) (fun _ _ _ h => h) (Or.inl ⟨by kernel_rfl, ?_⟩) (by assumption) ?_
          rotate_left 1
          · intro w9 hSw
            try dsimp only at hSw
            go_simp
            try with_reducible rfl
          try simp only [Act.put, List.getElem_toArray, List.getElem_cons_succ, List.getElem_cons_zero, List.setIfInBounds_toArray, List.set_cons_zero, List.set_cons_succ]
          refine wpAnyH_take (i := 7) (v := ?_) rfl (by kernel_rfl) (by kernel_rfl) (by kernel_rfl) (fun _ _ _ h => h) (Or.inl ⟨by kernel_rfl, ?_⟩) (by assumption) ?_
          rotate_left 1
          · intro w9 hSw
            try dsimp only at hSw
            go_simp
            try with_reducible rfl
          try simp only [Act.put, List.getElem_toArray, List.getElem_cons_succ, List.getElem_cons_zero, List.setIfInBounds_toArray, List.set_cons_zero, List.set_cons_succ]
          refine wpAnyH_take (i := 8) (v := ?_) rfl (by kernel_rfl) (by kernel_rfl) (by kernel_rfl) (fun _ _ _ h => h) (Or.inl ⟨by kernel_rfl, ?_⟩) (by assumption) ?_
          rotate_left 1
          · intro w9 hSw
            try dsimp only at hSw
            go_simp
            try with_reducible rfl
          try simp only [Act.put, List.getElem_toArray, List.getElem_cons_succ, List.getElem_cons_zero, List.setIfInBounds_toArray, List.set_cons_zero, List.set_cons_succ]
          refine wpAnyH_take (i := 9) (v := ?_) rfl (by kernel_rfl) (by kernel_rfl) (by kernel_rfl) (fun _ _ _ h => h) (Or.inl ⟨by kernel_rfl, ?_⟩) (by assumption) ?_
          rotate_left 1
          · intro w9 hSw
            try dsimp only at hSw
            go_simp
            try with_reducible rfl
          try simp only [Act.put, List.getElem_toArray, List.getElem_cons_succ, List.getElem_cons_zero, List.setIfInBounds_toArray, List.set_cons_zero, List.set_cons_succ]
          refine wpAnyH_take (i := 11) (v := ?_) rfl (by kernel_rfl) (by kernel_rfl) (by kernel_rfl) (fun _ _ _ h => h) (Or.inl ⟨by kernel_rfl, ?_⟩) (by assumption) ?_
          rotate_left 1
          · intro w9 hSw
            try dsimp only at hSw
            go_simp
            try with_reducible rfl
          try simp only [Act.put, List.getElem_toArray, List.getElem_cons_succ, List.getElem_cons_zero, List.setIfInBounds_toArray, List.set_cons_zero, List.set_cons_succ]
          refine wpAnyH_take (i := 12) (v := ?_) rfl (by kernel_rfl) (by kernel_rfl) (by kernel_rfl) (fun _ _ _ h => h) (Or.inl ⟨by kernel_rfl, ?_⟩) (by assumption) ?_
          rotate_left 1
          · intro w9 hSw
            try dsimp only at hSw
            go_simp
            try with_reducible rfl
          try simp only [Act.put, List.getElem_toArray, List.getElem_cons_succ, List.getElem_cons_zero, List.setIfInBounds_toArray, List.set_cons_zero, List.set_cons_succ]
          refine wpAnyH_take (i := 13) (v := ?_) rfl (by kernel_rfl) (by kernel_rfl) (by kernel_rfl) (fun _ _ _ h => h) (Or.inl ⟨by kernel_rfl, ?_⟩) (by assumption) ?_
          rotate_left 1
          · intro w9 hSw
            try dsimp only at hSw
            go_simp
            try with_reducible rfl
          try simp only [Act.put, List.getElem_toArray, List.getElem_cons_succ, List.getElem_cons_zero, List.setIfInBounds_toArray, List.set_cons_zero, List.set_cons_succ]
          refine wpAnyH_take (i := 14) (v := ?_) rfl (by kernel_rfl) (by kernel_rfl) (by kernel_rfl) (fun _ _ _ h => h) (Or.inl ⟨by kernel_rfl, ?_⟩) (by assumption) ?_
          rotate_left 1
          · intro w9 hSw
            try dsimp only at hSw
            go_simp
            try with_reducible rfl
          try simp only [Act.put, List.getElem_toArray, List.getElem_cons_succ, List.getElem_cons_zero, List.setIfInBounds_toArray, List.set_cons_zero, List.set_cons_succ]
          refine wpAnyH_take (i := 15) (v := ?_) rfl (by kernel_rfl) (by kernel_rfl) (by kernel_rfl) (fun _ _ _ h => h) (Or.inl ⟨by kernel_rfl, ?_⟩) (by assumption) ?_
          rotate_left 1
          · intro w9 hSw
            try dsimp only at hSw
            go_simp
            try with_reducible rfl
          try simp only [Act.put, List.getElem_toArray, List.getElem_cons_succ, List.getElem_cons_zero, List.setIfInBounds_toArray, List.set_cons_zero, List.set_cons_succ]
          refine wpAnyH_ready (rs := [4]) (by kernel_rfl) (by simp) ?_
          refine AllReadyH.cons rfl (fun K hK => ?_) (AllReadyH.nil)
          go_simp
          go_at_call 110
          refine (yLagrange_any Q va t vc (iota t) ((m : Int) + 1) (iota_length _) (by omega) HPR.out HIT.out (iota_nodup _) (by omega) (by omega) _ (inI_ints X_s.out)).mono ?_
          rintro e' Wse ⟨la, lc, rfl, hown, hb⟩
          have hll := lagr_length Q ((m : Int) + 1) (iota t)
          rw [iota_length] at hll
          have HB_se := Lib.hid (bt HB_s.out hb)
          have G_se := Lib.hid (G_s.out.below hb)
          have X_se := Lib.hid (X_s.out.below hb)
          have Z_se := Lib.hid (Z_s.out.below hb)
          have C_se := Lib.hid (C_s.out.below hb)
          have Q_se := Lib.hid (Q_s.out.below hb)
          have L_se := Lib.hid (LZ_own hown)
          clear hown
          clear hb
          go_wp2_with fail
          refine hK.out _ _ (show _ from ⟨G_se.out, C_se.out⟩) (fun hHeld => ?_)
          clear hK K
          try simp only [Act.put, List.getElem_toArray, List.getElem_cons_succ, List.getElem_cons_zero, List.setIfInBounds_toArray, List.set_cons_zero, List.set_cons_succ]
          refine wpAnyH_ready (rs := [10]) (by kernel_rfl) (by simp) ?_
          refine AllReadyH.cons rfl (fun K hK => ?_) (AllReadyH.nil)
          go_simp
          go_at_call 109
          refine (nDot_any _ _ t _ _ (lagr Q ((m : Int) + 1) (iota t)) (ss.take t) Q hll (by rw [List.length_take]; omega) (by omega) q2 q3 (lagr_res (by omega) _) (fun z hz => HRES.out z (List.mem_of_mem_take hz)) _ L_se.out (IsInts.take (show IsInts _ (some ⟨b, off, none⟩) ss from Z_se.out) t)).mono ?_
          rw [HD.out]
          rintro e' w' ⟨rfl, rfl⟩
          go_wp2_with fail
          refine hK.out _ _ (show _ from ⟨G_se.out, C_se.out⟩) (fun hHeld => ?_)
          clear hK K
          try simp only [Act.put, List.getElem_toArray, List.getElem_cons_succ, List.getElem_cons_zero, List.setIfInBounds_toArray, List.set_cons_zero, List.set_cons_succ]
          refine wpAnyH_take (i := 16) (v := ?_) rfl (by kernel_rfl) (by kernel_rfl) (by kernel_rfl) (fun _ _ _ h => h) (Or.inl ⟨by kernel_rfl, ?_⟩) (by assumption) ?_
          rotate_left 1
          · intro w9 hSw
            try dsimp only at hSw
            go_simp
            try with_reducible rfl
          try simp only [Act.put, List.getElem_toArray, List.getElem_cons_succ, List.getElem_cons_zero, List.setIfInBounds_toArray, List.set_cons_zero, List.set_cons_succ]
          refine wpAnyH_done (by kernel_rfl) ?_ _
          clear hHeld
          go_wp2
          go_ret2
          exact ⟨by rw [HF.out]; rfl, HB_se.out⟩
      · have HC := Lib.hid (show cnsB Q t ss = true from cnsB_true.2 (fun j hj => HALL.out j (by omega)))
        have hgt2 : ¬ ((m : Int) + 1 ≤ (ss.length : Int)) := by omega
        clear HALL
        go_wp2
        go_ret2
        exact ⟨by rw [HC.out]; rfl, HB_0.out⟩

theorem areConsistent_ans (P Q G t : Int) {B : Nat} {v : Value} {ss : List Int} (hl : ss.length ≤ 1048576) {w : World} (h : InI B w v ss) :
    Calls Try.prog 52 #[gv P Q G, .int .i64 t, v] w fun e w' => e = .returned (.tuple #[.bool (acV P Q G t ss), .bool (acB P Q G t ss)]) ∧ Below w.heap.size w w' := by
  obtain ⟨_, ad, cap, rfl, h1, _, h2⟩ := h; exact areConsistent_any P Q G t ad cap ss (by omega) h2 h1.ints
theorem sAreConsistent_ans (P Q G t : Int) {B : Nat} {v : Value} {ss : List Int} (hl : ss.length ≤ 1048576) {w : World} (h : InI B w v ss) :
    Calls Try.prog 51 #[gv P Q G, .int .i64 t, v] w fun e w' => e = .returned (.tuple #[.bool (acV P Q G t ss), .bool (acB P Q G t ss)]) ∧ Below w.heap.size w w' := by
  obtain ⟨_, ad, cap, rfl, h1, _, h2⟩ := h; exact sAreConsistent_any P Q G t ad cap ss (by omega) h2 h1.ints

end Go.Proofs.Ytfjaohmildkeoaa

