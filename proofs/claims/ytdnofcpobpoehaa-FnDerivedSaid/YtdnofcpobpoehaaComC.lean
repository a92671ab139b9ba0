/- Chapter 9: CombineCommits, Equivocate, BasesOf, of the program and of the reference. -/
import Derived.Test.YtdnofcpobpoehaaComF
import Derived.Test.YtdnofcpobpoehaaHshG
import Derived.Deep.RegionHeld3
namespace Go.Proofs.Ytdnofcpobpoehaa
open Go.RowKit
set_option linter.unusedVariables false
set_option linter.unusedSimpArgs false

/-! ### CombineCommits -/
def ccB (P Q G : Int) (us es : List Int) : Bool := decide (0 < us.length) && popB P Q G us es
def ccV (P Q G : Int) (us es : List Int) : Int := if ccB P Q G us es then popV P Q G us es else 0

set_option maxRecDepth 100000 in
set_option maxHeartbeats 3200000 in
theorem combineCommits_any (P Q G : Int) {B C : Nat} {u x : Value} {us es : List Int} (hul : us.length ≤ 1048576) (hel : es.length ≤ 1048576) {w : World} (hu : InI B w u us) (hx : InI C w x es) :
    Calls Try.prog 55 #[gv P Q G, u, x] w fun e w' => e = .returned (.tuple #[.int .i64 (ccV P Q G us es), .bool (ccB P Q G us es)]) ∧ Below w.heap.size w w' := by
  obtain ⟨ua, uc, rfl⟩ := hu.shape
  obtain ⟨xa, xc, rfl⟩ := hx.shape
  have G_0 := Lib.hid (gr_at w (w.heap.size) (by simp) P Q G 29)
  have HB_0 := Lib.hid (show Below w.heap.size w (w.alloc (.cells #[.int .i64 P, .int .i64 Q, .int .i64 G] 29)) from ba _ _)
  have U_0 := Lib.hid (hu.below HB_0.out)
  have X_0 := Lib.hid (hx.below HB_0.out)
  clear hu hx
  obtain ⟨gG0, gG1, gG2⟩ := G_0.out
  by_cases h0 : us.length = 0
  · have E1 := Lib.hid (show ccB P Q G us es = false by simp [ccB, h0])
    have E2 := Lib.hid (show ccV P Q G us es = 0 by simp [ccV, E1.out])
    rw [E1.out, E2.out]
    have hb0 : ((us.length : Int) == 0) = true := by simp [h0]
    clear h0
    go_enter Try.func55, Try.ntmps55
    go_wp2
    go_ret2
    exact ⟨rfl, HB_0.out⟩
  have e1 : ccB P Q G us es = popB P Q G us es := by unfold ccB; rw [decide_eq_true (by omega), Bool.true_and]
  have e2 : ccV P Q G us es = popV P Q G us es := by unfold ccV popV; rw [e1]; cases popB P Q G us es <;> rfl
  rw [e1, e2]
  have hb0 : ((us.length : Int) == 0) = false := by simp; intro h; exact h0 (by simp [h])
  clear e1 e2 h0
  go_enter Try.func55, Try.ntmps55
  go_wp2_with fail
  refine (productOfPowers_any P Q G ua xa us.length es.length uc xc us es rfl rfl (by omega) (by omega) _ (U_0.out.ints).1 (X_0.out.ints).1).mono ?_
  rintro e' v9 ⟨rfl, hb9⟩
  have HB_9 := Lib.hid (bt HB_0.out hb9)
  clear hb9
  go_wp2
  go_ret2
  exact ⟨rfl, HB_9.out⟩

theorem cc_ref (P Q G : Int) (us es : List Int) : ccB P Q G us es = (goodB P Q G && (inB (us.length : Int) 1 24 && (allEl P Q us && (decide (es.length = us.length) && allIn es 0 (Q - 1))))) := by
  unfold ccB
  cases hg : goodB P Q G
  · simp [popB, hg]
  by_cases hl : es.length = us.length
  · by_cases h24 : us.length ≤ 24
    · rw [pows_all hg h24 hl, decide_eq_true hl]
      have : inB (us.length : Int) 1 24 = decide (0 < us.length) := by
        by_cases h0 : 0 < us.length
        · rw [decide_eq_true h0]; exact inB_true.2 ⟨by omega, by omega⟩
        · rw [decide_eq_false h0]; exact inB_false.2 (by omega)
      rw [this]; simp
    · have : inB (us.length : Int) 1 24 = false := inB_false.2 (by omega)
      rw [this]
      unfold popB
      rw [decide_eq_false h24]; simp
  · unfold popB
    rw [decide_eq_false hl]; simp

theorem gProd_len (P Q G : Int) (ua xa : Option Addr) (uc xc : Nat) (us es : List Int) (W : World) (hu : IsInts W ua us) (hx : IsInts W xa es) (h24 : us.length ≤ 24) (h2 : 2 ≤ P) (h3 : P ≤ 2000000000) (h4 : 2 ≤ Q) (h5 : Q ≤ 2000000000) (hr : ∀ z ∈ us, 0 ≤ z ∧ z < P) (hr' : ∀ e ∈ es, 0 ≤ e ∧ e < Q) (hl : es.length = us.length) :
    Calls Try.prog 122 #[gv P Q G, .slice ua us.length uc, .slice xa es.length xc] W fun e w' => e = .returned (.int .i64 (powsFrom P 1 us es)) ∧ Below W.heap.size W w' := by
  rw [hl]
  exact gProd_any P Q G ua xa us.length uc xc us es rfl hl h24 h2 h3 h4 h5 hr hr' W hu hx

/-! ### Equivocate -/
def evB (P Q G t m r o : Int) : Bool := goodB P Q G && (allIn [t, m, r, o] 0 (Q - 1) && decide (t ≠ 0))
def evW (Q t m r o : Int) : Int := (r + (m - o) % Q * Num.inv t Q % Q) % Q
def evV (P Q G t m r o : Int) : Int := if evB P Q G t m r o then evW Q t m r o else 0
theorem ex_four (Q a b c d : Int) : exsB Q [a, b, c, d] = allIn [a, b, c, d] 0 (Q - 1) := by simp [exsB, allIn, exB]
theorem in_four {Q a b c d : Int} (h : allIn [a, b, c, d] 0 (Q - 1) = true) : (0 ≤ a ∧ a < Q) ∧ (0 ≤ b ∧ b < Q) ∧ (0 ≤ c ∧ c < Q) ∧ 0 ≤ d ∧ d < Q := by
  simp only [allIn, List.all_cons, List.all_nil, Bool.and_true, Bool.and_eq_true, inB_true] at h
  omega
theorem q_inv {P Q G t : Int} (hg : goodB P Q G = true) (h1 : 0 ≤ t ∧ t < Q) (hne : t ≠ 0) : Num.invOk t Q = true ∧ 0 ≤ Num.inv t Q ∧ Num.inv t Q < Q := by
  obtain ⟨p, q, g, rfl, rfl, rfl, _, hq, _, _, _, _, _, _, _⟩ := good_nat hg
  have hq2 := hq.1
  obtain ⟨d, rfl⟩ := Int.eq_ofNat_of_zero_le h1.1
  have hok := Num.invOk_prime hq (x := d) (by omega) (by omega)
  refine ⟨hok, ?_⟩
  have hr := Num.eg_bd q q d 0 1 (Num.bd_start (by omega))
  unfold Num.inv
  rw [hok]
  unfold Num.invRaw
  rw [Int.toNat_natCast, Int.toNat_natCast]
  simp only [if_true]
  split <;> omega
theorem q_sub (q a b : Int) (h2 : 2 ≤ q) (h3 : q ≤ 2000000000) (ha0 : 0 ≤ a) (ha : a < q) (hb0 : 0 ≤ b) (hb : b < q) (w : World) :
    Calls Try.prog 83 #[.int .i64 q, .int .i64 a, .int .i64 b] w fun e w' => e = .returned (.int .i64 ((a - b) % q)) ∧ w = w' := by
  go_enter Try.func83, Try.ntmps83
  go_wp2
  go_ret
  refine ⟨?_, rfl⟩
  show Ending.returned (.int .i64 ((a - b + q) % q)) = _
  rw [Int.add_emod_right]
theorem q_nn (a m : Int) (h0 : 0 ≤ a) (h1 : a ≤ 9000000000000000000) (h2 : 2 ≤ m) (h3 : m ≤ 2000000000) (w : World) :
    Calls Try.prog 80 #[.int .i64 a, .int .i64 m] w fun e w' => e = .returned (.int .i64 (a % m)) ∧ w = w' := by
  have e1 : a.tmod m = a % m := Int.tmod_eq_emod_of_nonneg h0
  have h4 := Int.emod_nonneg a (show m ≠ 0 by omega)
  have h5 := Int.emod_lt_of_pos a (show 0 < m by omega)
  have hneg : ¬ a % m < 0 := by omega
  have hm0 : m ≠ 0 := by omega
  go_enter Try.func80, Try.ntmps80
  go_wp2
  go_ret
  exact ⟨rfl, rfl⟩
theorem q_em (a m : Int) (h0 : -m < a) (h1 : a < m) (h2 : 2 ≤ m) (h3 : m ≤ 2000000000) (w : World) :
    Calls Try.prog 80 #[.int .i64 a, .int .i64 m] w fun e w' => e = .returned (.int .i64 (a % m)) ∧ w = w' := by
  have e : (if a < 0 then a + m else a) = a % m := by
    split
    · rw [← Int.add_emod_right, Int.emod_eq_of_lt (by omega) (by omega)]
    · rw [Int.emod_eq_of_lt (by omega) (by omega)]
  have h := nMod_any a m h0 h1 h2 h3 w
  rwa [e] at h

set_option maxRecDepth 100000 in
set_option maxHeartbeats 3200000 in
theorem equivocate_any (P Q G t m r o : Int) (w : World) :
    Calls Try.prog 32 #[gv P Q G, .int .i64 t, .int .i64 m, .int .i64 r, .int .i64 o] w fun e w' => e = .returned (.tuple #[.int .i64 (evV P Q G t m r o), .bool (evB P Q G t m r o)]) ∧ Below w.heap.size w w' := by
  have G_0 := Lib.hid (gr_at w (w.heap.size) (by simp) P Q G 29)
  have HB_0 := Lib.hid (show Below w.heap.size w (w.alloc (.cells #[.int .i64 P, .int .i64 Q, .int .i64 G] 29)) from ba _ _)
  by_cases h0 : ¬ (t ≠ 0)
  · have B0 : (t == 0) = true := by simpa using h0
    have E1 := Lib.hid (show evB P Q G t m r o = false by simp [evB, h0])
    have E2 := Lib.hid (show evV P Q G t m r o = 0 by simp [evV, E1.out])
    rw [E1.out, E2.out]
    clear h0
    obtain ⟨gG0, gG1, gG2⟩ := G_0.out
    go_enter Try.func32, Try.ntmps32
    go_wp2
    go_ret2
    exact ⟨rfl, HB_0.out⟩
  have h0 := Decidable.not_not.1 h0
  have B0 : (t == 0) = false := by simpa using h0
  cases h1 : goodB P Q G
  · have K1 := Lib.hid (show goodB P Q G = false from h1)
    have E1 := Lib.hid (show evB P Q G t m r o = false by simp [evB, h0, h1])
    have E2 := Lib.hid (show evV P Q G t m r o = 0 by simp [evV, E1.out])
    rw [E1.out, E2.out]
    clear h0 h1
    obtain ⟨gG0, gG1, gG2⟩ := G_0.out
    go_enter Try.func32, Try.ntmps32
    go_wp2_with fail
    refine (isValidGroup_any P Q G _).mono ?_
    rw [K1.out]
    rintro e v1 ⟨rfl, hb⟩
    have HB_1 := Lib.hid (bt HB_0.out hb)
    have G_1 := Lib.hid (G_0.out.below hb)
    clear hb gG0 gG1 gG2
    obtain ⟨gG0, gG1, gG2⟩ := G_1.out
    go_wp2
    go_ret2
    exact ⟨rfl, HB_1.out⟩
  have K1 := Lib.hid (show goodB P Q G = true from h1)
  have hmo := good_mo h1
  have hgr := good_rng h1
  have hgd := h1
  cases h2 : allIn [t, m, r, o] 0 (Q - 1)
  · have K2 := Lib.hid (show exsB Q [t, m, r, o] = false from (ex_four Q t m r o).trans h2)
    have E1 := Lib.hid (show evB P Q G t m r o = false by simp [evB, h0, h1, h2])
    have E2 := Lib.hid (show evV P Q G t m r o = 0 by simp [evV, E1.out])
    rw [E1.out, E2.out]
    clear h0 h1 h2
    obtain ⟨gG0, gG1, gG2⟩ := G_0.out
    go_enter Try.func32, Try.ntmps32
    go_wp2_with fail
    refine (isValidGroup_any P Q G _).mono ?_
    rw [K1.out]
    rintro e v1 ⟨rfl, hb⟩
    have HB_1 := Lib.hid (bt HB_0.out hb)
    have G_1 := Lib.hid (G_0.out.below hb)
    clear hb gG0 gG1 gG2
    obtain ⟨gG0, gG1, gG2⟩ := G_1.out
    go_wp2_with fail
    refine (areExponents_any P Q G _ 4 4 [t, m, r, o] rfl (by decide) _ (ints_lit v1 [t, m, r, o] 3)).mono ?_
    rw [K2.out]
    rintro e v2 ⟨rfl, hb0⟩
    have hb := bt (ba v1 _) hb0
    clear hb0
    have HB_2 := Lib.hid (bt HB_1.out hb)
    have G_2 := Lib.hid (G_1.out.below hb)
    clear hb gG0 gG1 gG2
    obtain ⟨gG0, gG1, gG2⟩ := G_2.out
    go_wp2
    go_ret2
    exact ⟨rfl, HB_2.out⟩
  have K2 := Lib.hid (show exsB Q [t, m, r, o] = true from (ex_four Q t m r o).trans h2)
  obtain ⟨ht9, hm9, hr9, ho9⟩ := in_four h2
  have E1 := Lib.hid (show evB P Q G t m r o = true by simp [evB, h0, h1, h2])
  have E2 := Lib.hid (show evV P Q G t m r o = (r + (m - o) % Q * Num.inv t Q % Q) % Q by simp [evV, evW, E1.out])
  rw [E1.out, E2.out]
  have HI := Lib.hid (q_inv hgd ht9 h0)
  have hs0 := Int.emod_nonneg (m - o) (show Q ≠ 0 by omega)
  have hs1 := Int.emod_lt_of_pos (m - o) (show 0 < Q by omega)
  have hi0 := HI.out.2.1
  have hi1 := HI.out.2.2
  obtain ⟨p0, p1⟩ := prod_bd (a := (m - o) % Q) (z := Num.inv t Q) hs0 (by omega) hi0 (by omega)
  generalize hsv : (m - o) % Q = sv at *
  generalize hiv : Num.inv t Q = iv at *
  have HSV := Lib.hid hsv
  have HIV := Lib.hid hiv
  have q0 := Int.emod_nonneg (sv * iv) (show Q ≠ 0 by omega)
  have q1 := Int.emod_lt_of_pos (sv * iv) (show 0 < Q by omega)
  generalize hpv : sv * iv % Q = pv at *
  have HPV := Lib.hid hpv
  clear h0 h1 h2 hsv hiv hpv hgd
  obtain ⟨gG0, gG1, gG2⟩ := G_0.out
  go_enter Try.func32, Try.ntmps32
  go_wp2_with fail
  refine (isValidGroup_any P Q G _).mono ?_
  rw [K1.out]
  rintro e v1 ⟨rfl, hb⟩
  have HB_1 := Lib.hid (bt HB_0.out hb)
  have G_1 := Lib.hid (G_0.out.below hb)
  clear hb gG0 gG1 gG2
  obtain ⟨gG0, gG1, gG2⟩ := G_1.out
  go_wp2_with fail
  refine (areExponents_any P Q G _ 4 4 [t, m, r, o] rfl (by decide) _ (ints_lit v1 [t, m, r, o] 3)).mono ?_
  rw [K2.out]
  rintro e v2 ⟨rfl, hb0⟩
  have hb := bt (ba v1 _) hb0
  clear hb0
  have HB_2 := Lib.hid (bt HB_1.out hb)
  have G_2 := Lib.hid (G_1.out.below hb)
  clear hb gG0 gG1 gG2
  obtain ⟨gG0, gG1, gG2⟩ := G_2.out
  go_wp2_with fail
  have hbd : Below v2.heap.size v2 v2.drew := (Below.refl _ v2).drew
  have HB_s := Lib.hid (bt HB_2.out hbd)
  have G_s := Lib.hid (G_2.out.below hbd)
  clear hbd
  refine wp_region_held_drew (S := (fun w' => w'.cell? ⟨w.heap.size, 0, none⟩ = some (.int .i64 P) ∧ w'.cell? ⟨w.heap.size, 1, none⟩ = some (.int .i64 Q) ∧ w'.cell? ⟨w.heap.size, 2, none⟩ = some (.int .i64 G))) (by kernel_rfl) (show _ from ⟨G_2.out.1, G_2.out.2.1, G_2.out.2.2⟩) (fun hHeld => ?_)
  generalize hW0 : v2.drew = Ws at *
  clear hW0
  refine wpAnyH_take (i := 0) (v := ?_) rfl (by kernel_rfl) (by kernel_rfl) (by kernel_rfl) (fun _ _ _ h => h) (Or.inl ⟨by kernel_rfl, ?_⟩) (by assumption) ?_
  rotate_left 1
  · intro w9 hSw
    try dsimp only at hSw
    go_simp
    try with_reducible rfl
  try simp only [Act.put, List.getElem_toArray, List.getElem_cons_succ, List.getElem_cons_zero, List.setIfInBounds_toArray, List.set_cons_zero, List.set_cons_succ]
  refine wpAnyH_take (i := 1) (v := ?_) rfl (by kernel_rfl) (by kernel_rfl) (by kernel_rfl) (fun _ _ _ h => h) (Or.inl ⟨by kernel_rfl, ?_⟩) (by assumption) ?_
  rotate_left 1
  · intro w9 hSw
    try dsimp only at hSw
    go_simp
    try with_reducible rfl
  try simp only [Act.put, List.getElem_toArray, List.getElem_cons_succ, List.getElem_cons_zero, List.setIfInBounds_toArray, List.set_cons_zero, List.set_cons_succ]
  refine wpAnyH_take (i := 2) (v := ?_) rfl (by kernel_rfl) (by kernel_rfl) (by kernel_rfl) (fun _ _ _ h => h) (Or.inl ⟨by kernel_rfl, ?_⟩) (by assumption) ?_
  rotate_left 1
  · intro w9 hSw
    try dsimp only at hSw
    go_simp
    try with_reducible rfl
  try simp only [Act.put, List.getElem_toArray, List.getElem_cons_succ, List.getElem_cons_zero, List.setIfInBounds_toArray, List.set_cons_zero, List.set_cons_succ]
  refine wpAnyH_take (i := 3) (v := ?_) rfl (by kernel_rfl) (by kernel_rfl) (by kernel_rfl) (fun _ _ _ h => h) (Or.inl ⟨by kernel_rfl, ?_⟩) (by assumption) ?_
  rotate_left 1
  · intro w9 hSw
    try dsimp only at hSw
    go_simp
    try with_reducible rfl
  try simp only [Act.put, List.getElem_toArray, List.getElem_cons_succ, List.getElem_cons_zero, List.setIfInBounds_toArray, List.set_cons_zero, List.set_cons_succ]
  refine wpAnyH_take (i := 4) (v := ?_) rfl (by kernel_rfl) (by kernel_rfl) (by kernel_rfl) (fun _ _ _ h => h) (Or.inl ⟨by kernel_rfl, ?_⟩) (by assumption) ?_
  rotate_left 1
  · intro w9 hSw
    try dsimp only at hSw
    go_simp
    try with_reducible rfl
  try simp only [Act.put, List.getElem_toArray, List.getElem_cons_succ, List.getElem_cons_zero, List.setIfInBounds_toArray, List.set_cons_zero, List.set_cons_succ]
  refine wpAnyH_take (i := 5) (v := ?_) rfl (by kernel_rfl) (by kernel_rfl) (by kernel_rfl) (fun _ _ _ h => h) (Or.inl ⟨by kernel_rfl, ?_⟩) (by assumption) ?_
  rotate_left 1
  · intro w9 hSw
    try dsimp only at hSw
    go_simp
    try with_reducible rfl
  try simp only [Act.put, List.getElem_toArray, List.getElem_cons_succ, List.getElem_cons_zero, List.setIfInBounds_toArray, List.set_cons_zero, List.set_cons_succ]
  refine wpAnyH_take (i := 7) (v := ?_) rfl (by kernel_rfl) (by kernel_rfl) (by kernel_rfl) (fun _ _ _ h => h) (Or.inl ⟨by kernel_rfl, ?_⟩) (by assumption) ?_
  rotate_left 1
  · intro w9 hSw
    try dsimp only at hSw
    go_simp
    try with_reducible rfl
  try simp only [Act.put, List.getElem_toArray, List.getElem_cons_succ, List.getElem_cons_zero, List.setIfInBounds_toArray, List.set_cons_zero, List.set_cons_succ]
  refine wpAnyH_ready (rs := [6]) (by kernel_rfl) (by simp) ?_
  refine AllReadyH.cons rfl (fun K hK => ?_) (AllReadyH.nil)
  go_simp
  go_at_call 83
  refine (q_sub Q m o hgr.2.1.1 hgr.2.1.2 hm9.1 hm9.2 ho9.1 ho9.2 _).mono ?_
  rw [HSV.out]
  rintro e' w' ⟨rfl, rfl⟩
  go_wp2_with fail
  refine hK.out _ _ (show _ from ⟨G_s.out.1, G_s.out.2.1, G_s.out.2.2⟩) (fun hHeld => ?_)
  clear hK K
  try simp only [Act.put, List.getElem_toArray, List.getElem_cons_succ, List.getElem_cons_zero, List.setIfInBounds_toArray, List.set_cons_zero, List.set_cons_succ]
  refine wpAnyH_ready (rs := [8]) (by kernel_rfl) (by simp) ?_
  refine AllReadyH.cons rfl (fun K hK => ?_) (AllReadyH.nil)
  go_simp
  go_at_call 82
  refine (ediv_any Q sv t hgr.2.1.1 hgr.2.1.2 hs0 hs1 ht9.1 ht9.2 HI.out.1 (by rw [HIV.out]; exact hi0) (by rw [HIV.out]; exact hi1) _).mono ?_
  rw [HIV.out, HPV.out]
  rintro e' w' ⟨rfl, rfl⟩
  go_wp2_with fail
  refine hK.out _ _ (show _ from ⟨G_s.out.1, G_s.out.2.1, G_s.out.2.2⟩) (fun hHeld => ?_)
  clear hK K
  try simp only [Act.put, List.getElem_toArray, List.getElem_cons_succ, List.getElem_cons_zero, List.setIfInBounds_toArray, List.set_cons_zero, List.set_cons_succ]
  refine wpAnyH_take (i := 9) (v := ?_) rfl (by kernel_rfl) (by kernel_rfl) (by kernel_rfl) (fun _ _ _ h => h) (Or.inl ⟨by kernel_rfl, ?_⟩) (by assumption) ?_
  rotate_left 1
  · intro w9 hSw
    try dsimp only at hSw
    go_simp
    try with_reducible rfl
  try simp only [Act.put, List.getElem_toArray, List.getElem_cons_succ, List.getElem_cons_zero, List.setIfInBounds_toArray, List.set_cons_zero, List.set_cons_succ]
  refine wpAnyH_done (by kernel_rfl) ?_ _
  obtain ⟨z0, z1, z2⟩ := G_s.out
  go_wp2
  go_ret2
  exact ⟨rfl, HB_s.out⟩

set_option maxRecDepth 100000 in
set_option maxHeartbeats 3200000 in
theorem sEquivocate_any (P Q G t m r o : Int) (w : World) :
    Calls Try.prog 31 #[gv P Q G, .int .i64 t, .int .i64 m, .int .i64 r, .int .i64 o] w fun e w' => e = .returned (.tuple #[.int .i64 (evV P Q G t m r o), .bool (evB P Q G t m r o)]) ∧ Below w.heap.size w w' := by
  have G_0 := Lib.hid (gr_at w (w.heap.size) (by simp) P Q G 29)
  have HB_0 := Lib.hid (show Below w.heap.size w (w.alloc (.cells #[.int .i64 P, .int .i64 Q, .int .i64 G] 29)) from ba _ _)
  cases h0 : goodB P Q G
  · have K0 := Lib.hid (show goodB P Q G = false from h0)
    have E1 := Lib.hid (show evB P Q G t m r o = false by simp [evB, h0])
    have E2 := Lib.hid (show evV P Q G t m r o = 0 by simp [evV, E1.out])
    rw [E1.out, E2.out]
    clear h0
    obtain ⟨gG0, gG1, gG2⟩ := G_0.out
    go_enter Try.func31, Try.ntmps31
    go_wp2_with fail
    refine (l2Good_any P Q G _).mono ?_
    rw [K0.out]
    rintro e v1 ⟨rfl, hb⟩
    have HB_1 := Lib.hid (bt HB_0.out hb)
    have G_1 := Lib.hid (G_0.out.below hb)
    clear hb gG0 gG1 gG2
    obtain ⟨gG0, gG1, gG2⟩ := G_1.out
    go_wp2
    go_ret2
    exact ⟨rfl, HB_1.out⟩
  have K0 := Lib.hid (show goodB P Q G = true from h0)
  have hmo := good_mo h0
  have hgr := good_rng h0
  have hgd := h0
  cases h1 : allIn [t, m, r, o] 0 (Q - 1)
  · have K1 := Lib.hid (show allIn [t, m, r, o] 0 (Q - 1) = false from h1)
    have E1 := Lib.hid (show evB P Q G t m r o = false by simp [evB, h0, h1])
    have E2 := Lib.hid (show evV P Q G t m r o = 0 by simp [evV, E1.out])
    rw [E1.out, E2.out]
    clear h0 h1
    obtain ⟨gG0, gG1, gG2⟩ := G_0.out
    go_enter Try.func31, Try.ntmps31
    go_wp2_with fail
    refine (l2Good_any P Q G _).mono ?_
    rw [K0.out]
    rintro e v1 ⟨rfl, hb⟩
    have HB_1 := Lib.hid (bt HB_0.out hb)
    have G_1 := Lib.hid (G_0.out.below hb)
    clear hb gG0 gG1 gG2
    obtain ⟨gG0, gG1, gG2⟩ := G_1.out
    go_wp2_with fail
    refine (gExps_any P Q G ⟨by omega, by omega⟩ _ 4 4 [t, m, r, o] rfl (by decide) _ (ints_lit v1 [t, m, r, o] 3)).mono ?_
    rw [K1.out]
    rintro e v2 ⟨rfl, hb0⟩
    have hb := bt (ba v1 _) hb0
    clear hb0
    have HB_2 := Lib.hid (bt HB_1.out hb)
    have G_2 := Lib.hid (G_1.out.below hb)
    clear hb gG0 gG1 gG2
    obtain ⟨gG0, gG1, gG2⟩ := G_2.out
    go_wp2
    go_ret2
    exact ⟨rfl, HB_2.out⟩
  have K1 := Lib.hid (show allIn [t, m, r, o] 0 (Q - 1) = true from h1)
  obtain ⟨ht9, hm9, hr9, ho9⟩ := in_four h1
  by_cases h2 : ¬ (t ≠ 0)
  · have B2 : (t == 0) = true := by simpa using h2
    have E1 := Lib.hid (show evB P Q G t m r o = false by simp [evB, h0, h1, h2])
    have E2 := Lib.hid (show evV P Q G t m r o = 0 by simp [evV, E1.out])
    rw [E1.out, E2.out]
    clear h0 h1 h2
    obtain ⟨gG0, gG1, gG2⟩ := G_0.out
    go_enter Try.func31, Try.ntmps31
    go_wp2_with fail
    refine (l2Good_any P Q G _).mono ?_
    rw [K0.out]
    rintro e v1 ⟨rfl, hb⟩
    have HB_1 := Lib.hid (bt HB_0.out hb)
    have G_1 := Lib.hid (G_0.out.below hb)
    clear hb gG0 gG1 gG2
    obtain ⟨gG0, gG1, gG2⟩ := G_1.out
    go_wp2_with fail
    refine (gExps_any P Q G ⟨by omega, by omega⟩ _ 4 4 [t, m, r, o] rfl (by decide) _ (ints_lit v1 [t, m, r, o] 3)).mono ?_
    rw [K1.out]
    rintro e v2 ⟨rfl, hb0⟩
    have hb := bt (ba v1 _) hb0
    clear hb0
    have HB_2 := Lib.hid (bt HB_1.out hb)
    have G_2 := Lib.hid (G_1.out.below hb)
    clear hb gG0 gG1 gG2
    obtain ⟨gG0, gG1, gG2⟩ := G_2.out
    go_wp2
    go_ret2
    exact ⟨rfl, HB_2.out⟩
  have h2 := Decidable.not_not.1 h2
  have B2 : (t == 0) = false := by simpa using h2
  have E1 := Lib.hid (show evB P Q G t m r o = true by simp [evB, h0, h1, h2])
  have hni : Num.ninv t Q = Num.inv t Q := by rw [Num.inv_ninv, (q_inv hgd ht9 h2).1, if_pos rfl]
  have E2 := Lib.hid (show evV P Q G t m r o = (r + (m - o) % Q * Num.inv t Q) % Q by simp [evV, evW, E1.out])
  rw [E1.out, E2.out]
  have HI := Lib.hid (q_inv hgd ht9 h2)
  have hs0 := Int.emod_nonneg (m - o) (show Q ≠ 0 by omega)
  have hs1 := Int.emod_lt_of_pos (m - o) (show 0 < Q by omega)
  have hi0 := HI.out.2.1
  have hi1 := HI.out.2.2
  obtain ⟨p0, p1⟩ := prod_bd (a := (m - o) % Q) (z := Num.inv t Q) hs0 (by omega) hi0 (by omega)
  generalize hsv : (m - o) % Q = sv at *
  generalize hiv : Num.inv t Q = iv at *
  have HSV := Lib.hid hsv
  have HNI := Lib.hid hni
  have HOK := Lib.hid HI.out.1
  generalize hpv : sv * iv = pv at *
  have HPV := Lib.hid hpv
  have hrp0 : 0 ≤ r + pv := by omega
  have hrp1 : r + pv ≤ 9000000000000000000 := by omega
  have hmw : IntKind.i64.wrap (m - o) = m - o := by rw [IntKind.wrap_i64]; omega
  have hrw : IntKind.i64.wrap (r + pv) = r + pv := by rw [IntKind.wrap_i64]; omega
  have hpw : IntKind.i64.wrap (sv * iv) = pv := by rw [HPV.out, IntKind.wrap_i64]; omega
  clear h0 h1 h2 hsv hiv hpv hni hgd
  obtain ⟨gG0, gG1, gG2⟩ := G_0.out
  go_enter Try.func31, Try.ntmps31
  go_wp2_with fail
  refine (l2Good_any P Q G _).mono ?_
  rw [K0.out]
  rintro e v1 ⟨rfl, hb⟩
  have HB_1 := Lib.hid (bt HB_0.out hb)
  have G_1 := Lib.hid (G_0.out.below hb)
  clear hb gG0 gG1 gG2
  obtain ⟨gG0, gG1, gG2⟩ := G_1.out
  go_wp2_with fail
  refine (gExps_any P Q G ⟨by omega, by omega⟩ _ 4 4 [t, m, r, o] rfl (by decide) _ (ints_lit v1 [t, m, r, o] 3)).mono ?_
  rw [K1.out]
  rintro e v2 ⟨rfl, hb0⟩
  have hb := bt (ba v1 _) hb0
  clear hb0
  have HB_2 := Lib.hid (bt HB_1.out hb)
  have G_2 := Lib.hid (G_1.out.below hb)
  clear hb gG0 gG1 gG2
  obtain ⟨gG0, gG1, gG2⟩ := G_2.out
  go_wp2_with fail
  refine (nInverse_any t Q ht9.1 ht9.2 hgr.2.1.1 hgr.2.1.2 _).mono ?_
  rw [HNI.out, HOK.out]
  rintro e' w' ⟨rfl, rfl⟩
  go_wp2_with fail
  have hbd : Below v2.heap.size v2 v2.drew := (Below.refl _ v2).drew
  have HB_s := Lib.hid (bt HB_2.out hbd)
  have G_s := Lib.hid (G_2.out.below hbd)
  clear hbd
  refine wp_region_held_drew (S := (fun w' => w'.cell? ⟨w.heap.size, 0, none⟩ = some (.int .i64 P) ∧ w'.cell? ⟨w.heap.size, 1, none⟩ = some (.int .i64 Q) ∧ w'.cell? ⟨w.heap.size, 2, none⟩ = some (.int .i64 G))) (by kernel_rfl) (show _ from ⟨G_2.out.1, G_2.out.2.1, G_2.out.2.2⟩) (fun hHeld => ?_)
  generalize hW0 : v2.drew = Ws at *
  clear hW0
  refine wpAnyH_take (i := 0) (v := ?_) rfl (by kernel_rfl) (by kernel_rfl) (by kernel_rfl) (fun _ _ _ h => h) (Or.inl ⟨by kernel_rfl, ?_⟩) (by assumption) ?_
  rotate_left 1
  · intro w9 hSw
    try dsimp only at hSw
    go_simp
    try with_reducible rfl
  try simp only [Act.put, List.getElem_toArray, List.getElem_cons_succ, List.getElem_cons_zero, List.setIfInBounds_toArray, List.set_cons_zero, List.set_cons_succ]
  refine wpAnyH_take (i := 1) (v := ?_) rfl (by kernel_rfl) (by kernel_rfl) (by kernel_rfl) (fun _ _ _ h => h) (Or.inl ⟨by kernel_rfl, ?_⟩) (by assumption) ?_
  rotate_left 1
  · intro w9 hSw
    try dsimp only at hSw
    go_simp
    try with_reducible rfl
  try simp only [Act.put, List.getElem_toArray, List.getElem_cons_succ, List.getElem_cons_zero, List.setIfInBounds_toArray, List.set_cons_zero, List.set_cons_succ]
  refine wpAnyH_take (i := 2) (v := ?_) rfl (by kernel_rfl) (by kernel_rfl) (by kernel_rfl) (fun _ _ _ h => h) (Or.inl ⟨by kernel_rfl, ?_⟩) (by assumption) ?_
  rotate_left 1
  · intro w9 hSw
    try dsimp only at hSw
    go_simp
    try with_reducible rfl
  try simp only [Act.put, List.getElem_toArray, List.getElem_cons_succ, List.getElem_cons_zero, List.setIfInBounds_toArray, List.set_cons_zero, List.set_cons_succ]
  refine wpAnyH_take (i := 3) (v := ?_) rfl (by kernel_rfl) (by kernel_rfl) (by kernel_rfl) (fun _ _ _ h => h) (Or.inl ⟨by kernel_rfl, ?_⟩) (by assumption) ?_
  rotate_left 1
  · intro w9 hSw
    try dsimp only at hSw
    go_simp
    try with_reducible rfl
  try simp only [Act.put, List.getElem_toArray, List.getElem_cons_succ, List.getElem_cons_zero, List.setIfInBounds_toArray, List.set_cons_zero, List.set_cons_succ]
  refine wpAnyH_take (i := 4) (v := ?_) rfl (by kernel_rfl) (by kernel_rfl) (by kernel_rfl) (fun _ _ _ h => h) (Or.inl ⟨by kernel_rfl, ?_⟩) (by assumption) ?_
  rotate_left 1
  · intro w9 hSw
    try dsimp only at hSw
    go_simp
    try with_reducible rfl
  try simp only [Act.put, List.getElem_toArray, List.getElem_cons_succ, List.getElem_cons_zero, List.setIfInBounds_toArray, List.set_cons_zero, List.set_cons_succ]
  refine wpAnyH_take (i := 5) (v := ?_) rfl (by kernel_rfl) (by kernel_rfl) (by kernel_rfl) (fun _ _ _ h => h) (Or.inl ⟨by kernel_rfl, ?_⟩) (by assumption) ?_
  rotate_left 1
  · intro w9 hSw
    try dsimp only at hSw
    go_simp
    try with_reducible rfl
  try simp only [Act.put, List.getElem_toArray, List.getElem_cons_succ, List.getElem_cons_zero, List.setIfInBounds_toArray, List.set_cons_zero, List.set_cons_succ]
  refine wpAnyH_take (i := 7) (v := ?_) rfl (by kernel_rfl) (by kernel_rfl) (by kernel_rfl) (fun _ _ _ h => h) (Or.inl ⟨by kernel_rfl, ?_⟩) (by assumption) ?_
  rotate_left 1
  · intro w9 hSw
    try dsimp only at hSw
    go_simp
    try with_reducible rfl
  try simp only [Act.put, List.getElem_toArray, List.getElem_cons_succ, List.getElem_cons_zero, List.setIfInBounds_toArray, List.set_cons_zero, List.set_cons_succ]
  refine wpAnyH_take (i := 10) (v := ?_) rfl (by kernel_rfl) (by kernel_rfl) (by kernel_rfl) (fun _ _ _ h => h) (Or.inl ⟨by kernel_rfl, ?_⟩) (by assumption) ?_
  rotate_left 1
  · intro w9 hSw
    try dsimp only at hSw
    go_simp
    try with_reducible rfl
  try simp only [Act.put, List.getElem_toArray, List.getElem_cons_succ, List.getElem_cons_zero, List.setIfInBounds_toArray, List.set_cons_zero, List.set_cons_succ]
  refine wpAnyH_take (i := 11) (v := ?_) rfl (by kernel_rfl) (by kernel_rfl) (by kernel_rfl) (fun _ _ _ h => h) (Or.inl ⟨by kernel_rfl, ?_⟩) (by assumption) ?_
  rotate_left 1
  · intro w9 hSw
    try dsimp only at hSw
    go_simp
    try with_reducible rfl
  try simp only [Act.put, List.getElem_toArray, List.getElem_cons_succ, List.getElem_cons_zero, List.setIfInBounds_toArray, List.set_cons_zero, List.set_cons_succ]
  refine wpAnyH_ready (rs := [6]) (by kernel_rfl) (by simp) ?_
  refine AllReadyH.cons rfl (fun K hK => ?_) (AllReadyH.nil)
  go_simp
  go_at_call 80
  refine (q_em (m - o) Q (by omega) (by omega) hgr.2.1.1 hgr.2.1.2 _).mono ?_
  rw [HSV.out]
  rintro e' w' ⟨rfl, rfl⟩
  go_wp2_with fail
  refine hK.out _ _ (show _ from ⟨G_s.out.1, G_s.out.2.1, G_s.out.2.2⟩) (fun hHeld => ?_)
  clear hK K
  try simp only [Act.put, List.getElem_toArray, List.getElem_cons_succ, List.getElem_cons_zero, List.setIfInBounds_toArray, List.set_cons_zero, List.set_cons_succ]
  refine wpAnyH_take (i := 8) (v := ?_) rfl (by kernel_rfl) (by kernel_rfl) (by kernel_rfl) (fun _ _ _ h => h) (Or.inl ⟨by kernel_rfl, ?_⟩) (by assumption) ?_
  rotate_left 1
  · intro w9 hSw
    try dsimp only at hSw
    go_simp
    try with_reducible rfl
  try simp only [Act.put, List.getElem_toArray, List.getElem_cons_succ, List.getElem_cons_zero, List.setIfInBounds_toArray, List.set_cons_zero, List.set_cons_succ]
  refine wpAnyH_take (i := 9) (v := ?_) rfl (by kernel_rfl) (by kernel_rfl) (by kernel_rfl) (fun _ _ _ h => h) (Or.inl ⟨by kernel_rfl, ?_⟩) (by assumption) ?_
  rotate_left 1
  · intro w9 hSw
    try dsimp only at hSw
    go_simp
    try with_reducible rfl
  try simp only [Act.put, List.getElem_toArray, List.getElem_cons_succ, List.getElem_cons_zero, List.setIfInBounds_toArray, List.set_cons_zero, List.set_cons_succ]
  refine wpAnyH_ready (rs := [12]) (by kernel_rfl) (by simp) ?_
  refine AllReadyH.cons rfl (fun K hK => ?_) (AllReadyH.nil)
  go_simp
  go_at_call 80
  refine (q_nn (r + pv) Q hrp0 hrp1 hgr.2.1.1 hgr.2.1.2 _).mono ?_
  rintro e' w' ⟨rfl, rfl⟩
  go_wp2_with fail
  refine hK.out _ _ (show _ from ⟨G_s.out.1, G_s.out.2.1, G_s.out.2.2⟩) (fun hHeld => ?_)
  clear hK K
  try simp only [Act.put, List.getElem_toArray, List.getElem_cons_succ, List.getElem_cons_zero, List.setIfInBounds_toArray, List.set_cons_zero, List.set_cons_succ]
  refine wpAnyH_take (i := 13) (v := ?_) rfl (by kernel_rfl) (by kernel_rfl) (by kernel_rfl) (fun _ _ _ h => h) (Or.inl ⟨by kernel_rfl, ?_⟩) (by assumption) ?_
  rotate_left 1
  · intro w9 hSw
    try dsimp only at hSw
    go_simp
    try with_reducible rfl
  try simp only [Act.put, List.getElem_toArray, List.getElem_cons_succ, List.getElem_cons_zero, List.setIfInBounds_toArray, List.set_cons_zero, List.set_cons_succ]
  refine wpAnyH_take (i := 14) (v := ?_) rfl (by kernel_rfl) (by kernel_rfl) (by kernel_rfl) (fun _ _ _ h => h) (Or.inl ⟨by kernel_rfl, ?_⟩) (by assumption) ?_
  rotate_left 1
  · intro w9 hSw
    try dsimp only at hSw
    go_simp
    try with_reducible rfl
  try simp only [Act.put, List.getElem_toArray, List.getElem_cons_succ, List.getElem_cons_zero, List.setIfInBounds_toArray, List.set_cons_zero, List.set_cons_succ]
  refine wpAnyH_done (by kernel_rfl) ?_ _
  go_wp2
  go_ret2
  exact ⟨rfl, HB_s.out⟩

/-! ### BasesOf -/
abbrev lH : ByteArray := { data := #[104] }
abbrev lHs : ByteArray := { data := #[104, 115] }
def bofB (P Q G n : Int) : Bool := decide (n ≤ 24) && (deOk P Q G lH 0 && dsOk P Q G lHs n)
def bofH (P Q G n : Int) : Int := if bofB P Q G n then deV P Q G lH 0 else 0
def bofL (P Q G n : Int) : List Int := if bofB P Q G n then dsV P Q G lHs n else []
theorem bof_off {P Q G n : Int} (h : bofB P Q G n = false) : bofH P Q G n = 0 ∧ bofL P Q G n = [] := by simp [bofH, bofL, h]
theorem bof_on {P Q G n : Int} (h : bofB P Q G n = true) : bofH P Q G n = deV P Q G lH 0 ∧ bofL P Q G n = dsV P Q G lHs n := by simp [bofH, bofL, h]
theorem bof_len (P Q G n : Int) : (bofL P Q G n).length ≤ 100 := by
  unfold bofL
  split
  · exact dsV_length
  · simp
theorem bof_ref (P Q G n : Int) : bofB P Q G n = (goodB P Q G && (inB n 0 24 && (deOk P Q G lH 0 && dsOk P Q G lHs n))) := by
  unfold bofB
  cases hd : deOk P Q G lH 0
  · simp
  cases hs : dsOk P Q G lHs n
  · simp
  have hg : goodB P Q G = true := by
    unfold deOk deB at hd
    simp only [Bool.and_eq_true] at hd
    exact hd.1.1.1
  have hn : 0 ≤ n := by
    unfold dsOk at hs
    simp only [Bool.and_eq_true] at hs
    exact (inB_true.1 hs.1.2).1
  rw [hg]
  by_cases h : n ≤ 24
  · rw [decide_eq_true h, inB_true.2 ⟨hn, h⟩]; rfl
  · rw [decide_eq_false h, show inB n 0 24 = false from inB_false.2 (by omega)]; rfl
def AnsBs (w : World) (H : Int) (l : List Int) (ok : Bool) (e : Ending) (w' : World) : Prop := ∃ y, e = .returned (.tuple #[.agg #[.int .i64 H, y], .bool ok]) ∧ OwI w.heap.size w'.heap.size w' y l ∧ Below w.heap.size w w'
theorem mid_two (w : World) (b : Nat) (x y : Value) : Mid b (b + 1) w ((w.setCell ⟨b, 0, none⟩ x).setCell ⟨b, 1, none⟩ y) := (mid_cell w b 0 x).trans (mid_cell _ b 1 y)
theorem c_mid {w w' : World} {A B b i : Nat} {v : Value} (hm : Mid A B w w') (h : w.cell? ⟨b, i, none⟩ = some v) (ho : b < A ∨ B ≤ b) : w'.cell? ⟨b, i, none⟩ = some v := by
  rw [World.cell?_of_block (a := ⟨b, i, none⟩) (hm.block b (World.block_lt_of_cell? w _ h) ho)]; exact h
theorem d2_mid {w w' : World} {A B b : Nat} {x y : Value} (h : D2 w b x y) (hm : Mid A B w w') (ho : b < A ∨ B ≤ b) : D2 w' b x y := ⟨c_mid hm h.1 ho, c_mid hm h.2 ho⟩
theorem gr_midc {w w' : World} {A B b : Nat} {P Q G : Int} (h : GR w b P Q G) (hm : Mid A B w w') (ho : b < A ∨ B ≤ b) : GR w' b P Q G := ⟨c_mid hm h.1 ho, c_mid hm h.2.1 ho, c_mid hm h.2.2 ho⟩

set_option maxRecDepth 100000 in
set_option maxHeartbeats 3200000 in
theorem basesOf_any (P Q G n : Int) (w : World) :
    Calls Try.prog 52 #[gv P Q G, .int .i64 n] w (AnsBs w (bofH P Q G n) (bofL P Q G n) (bofB P Q G n)) := by
  have G_0 := Lib.hid ((gr_at w w.heap.size rfl P Q G 29).below (ba _ (.cells #[.int .i64 0, .slice none 0 0] 31)))
  have Z_0 := Lib.hid (b2_at (w.alloc (.cells #[.int .i64 P, .int .i64 Q, .int .i64 G] 29)) (w.heap.size + 1) (by simp) (.int .i64 0) (.slice none 0 0) 31)
  have HB_0 := Lib.hid (show Below w.heap.size w ((w.alloc (.cells #[.int .i64 P, .int .i64 Q, .int .i64 G] 29)).alloc (.cells #[.int .i64 0, .slice none 0 0] 31)) from bt (ba _ _) (ba _ _))
  by_cases h0 : ¬ n ≤ 24
  · have E1 := Lib.hid (show bofB P Q G n = false by simp [bofB, h0])
    rw [E1.out, (bof_off E1.out).1, (bof_off E1.out).2]
    have hgt : (24 : Int) < n := by omega
    clear h0
    obtain ⟨g0, g1, g2⟩ := G_0.out
    obtain ⟨z0, z1, zf⟩ := Z_0.out
    have zf0 := zf 0
    have zf1 := zf 1
    clear zf
    go_enter Try.func52, Try.ntmps52
    go_wp2
    (try simp only [Exit.inBlock, Exit.then])
    refine bodyPost_ret (v := .tuple #[.agg #[.int .i64 0, .slice none 0 0], .bool false]) ?_ rfl ?_
    · rw [results_cell_tmp rfl]; go_simp
    · exact ⟨_, rfl, owI_nil _ _ HB_0.out.size, HB_0.out⟩
  have h0 := Decidable.not_not.1 h0
  have hle : n ≤ 24 := h0
  obtain ⟨hv, hhv⟩ : ∃ v, deV P Q G lH 0 = v := ⟨_, rfl⟩
  obtain ⟨lv, hlv⟩ : ∃ v, dsV P Q G lHs n = v := ⟨_, rfl⟩
  cases h2 : deOk P Q G lH 0
  · have KD := Lib.hid (show deV P Q G lH 0 = hv ∧ deOk P Q G lH 0 = false from ⟨hhv, h2⟩)
    have E1 := Lib.hid (show bofB P Q G n = false by simp [bofB, h0, h2])
    rw [E1.out, (bof_off E1.out).1, (bof_off E1.out).2]
    clear h0 h2 hhv hlv
    obtain ⟨g0, g1, g2⟩ := G_0.out
    obtain ⟨z0, z1, zf⟩ := Z_0.out
    have zf0 := zf 0
    have zf1 := zf 1
    clear zf
    go_enter Try.func52, Try.ntmps52
    go_wp2_with fail
    refine (deriveElement_any P Q G lH (by decide) 0 _).mono ?_
    rw [KD.out.1, KD.out.2]
    rintro e v1 ⟨rfl, hb⟩
    have HB_1 := Lib.hid (bt HB_0.out hb)
    have G_1 := Lib.hid (G_0.out.below hb)
    have Z_1 := Lib.hid (Z_0.out.below hb)
    clear hb
    clear g0 g1 g2 z0 z1 zf0 zf1
    obtain ⟨g0, g1, g2⟩ := G_1.out
    obtain ⟨z0, z1, zf⟩ := Z_1.out
    have zf0 := zf 0
    have zf1 := zf 1
    clear zf
    go_wp2
    (try simp only [Exit.inBlock, Exit.then])
    refine bodyPost_ret (v := .tuple #[.agg #[.int .i64 0, .slice none 0 0], .bool false]) ?_ rfl ?_
    · rw [results_cell_tmp rfl]; go_simp
    · have hm5 := mid_two v1 (w.heap.size + 1) (.int .i64 0) (.slice none 0 0)
      exact ⟨_, rfl, owI_nil _ _ (Nat.le_trans HB_1.out.size hm5.size), HB_1.out.trans (hm5.toBelow (by omega) HB_1.out.size)⟩
  have KD := Lib.hid (show deV P Q G lH 0 = hv ∧ deOk P Q G lH 0 = true from ⟨hhv, h2⟩)
  cases h3 : dsOk P Q G lHs n
  · have KS := Lib.hid (show dsV P Q G lHs n = lv ∧ dsOk P Q G lHs n = false from ⟨hlv, h3⟩)
    have E1 := Lib.hid (show bofB P Q G n = false by simp [bofB, h0, h2, h3])
    rw [E1.out, (bof_off E1.out).1, (bof_off E1.out).2]
    clear h0 h2 h3 hhv hlv
    obtain ⟨g0, g1, g2⟩ := G_0.out
    obtain ⟨z0, z1, zf⟩ := Z_0.out
    have zf0 := zf 0
    have zf1 := zf 1
    clear zf
    go_enter Try.func52, Try.ntmps52
    go_wp2_with fail
    refine (deriveElement_any P Q G lH (by decide) 0 _).mono ?_
    rw [KD.out.1, KD.out.2]
    rintro e v1 ⟨rfl, hb⟩
    have HB_1 := Lib.hid (bt HB_0.out hb)
    have G_1 := Lib.hid (G_0.out.below hb)
    have Z_1 := Lib.hid (Z_0.out.below hb)
    clear hb
    clear g0 g1 g2 z0 z1 zf0 zf1
    obtain ⟨g0, g1, g2⟩ := G_1.out
    obtain ⟨z0, z1, zf⟩ := Z_1.out
    have zf0 := zf 0
    have zf1 := zf 1
    clear zf
    go_wp2_with fail
    refine (deriveElements_any P Q G lHs (by decide) n _).mono ?_
    rw [KS.out.1, KS.out.2]
    rintro e v2 ⟨la, ln, lc, rfl, hown, hb⟩
    have hln := (own_ints hown).2.1
    subst hln
    have hOW := owI_mk hown hb.size
    have LV := Lib.hid Z_1.out.lt
    have HB_2 := Lib.hid (bt HB_1.out hb)
    have G_2 := Lib.hid (G_1.out.below hb)
    have Z_2 := Lib.hid (Z_1.out.below hb)
    clear hb
    clear g0 g1 g2 z0 z1 zf0 zf1
    obtain ⟨g0, g1, g2⟩ := G_2.out
    obtain ⟨z0, z1, zf⟩ := Z_2.out
    have zf0 := zf 0
    have zf1 := zf 1
    clear zf
    clear hOW hown
    go_wp2
    (try simp only [Exit.inBlock, Exit.then])
    refine bodyPost_ret (v := .tuple #[.agg #[.int .i64 0, .slice none 0 0], .bool false]) ?_ rfl ?_
    · rw [results_cell_tmp rfl]; go_simp
    · have hm5 := mid_two v2 (w.heap.size + 1) (.int .i64 0) (.slice none 0 0)
      exact ⟨_, rfl, owI_nil _ _ (Nat.le_trans HB_2.out.size hm5.size), HB_2.out.trans (hm5.toBelow (by omega) HB_2.out.size)⟩
  have KS := Lib.hid (show dsV P Q G lHs n = lv ∧ dsOk P Q G lHs n = true from ⟨hlv, h3⟩)
  have E1 := Lib.hid (show bofB P Q G n = true by simp [bofB, h0, h2, h3])
  rw [E1.out, (bof_on E1.out).1, (bof_on E1.out).2, hhv, hlv]
  clear h0 h2 h3 hhv hlv
  obtain ⟨g0, g1, g2⟩ := G_0.out
  obtain ⟨z0, z1, zf⟩ := Z_0.out
  have zf0 := zf 0
  have zf1 := zf 1
  clear zf
  go_enter Try.func52, Try.ntmps52
  go_wp2_with fail
  refine (deriveElement_any P Q G lH (by decide) 0 _).mono ?_
  rw [KD.out.1, KD.out.2]
  rintro e v1 ⟨rfl, hb⟩
  have HB_1 := Lib.hid (bt HB_0.out hb)
  have G_1 := Lib.hid (G_0.out.below hb)
  have Z_1 := Lib.hid (Z_0.out.below hb)
  clear hb
  clear g0 g1 g2 z0 z1 zf0 zf1
  obtain ⟨g0, g1, g2⟩ := G_1.out
  obtain ⟨z0, z1, zf⟩ := Z_1.out
  have zf0 := zf 0
  have zf1 := zf 1
  clear zf
  go_wp2_with fail
  refine (deriveElements_any P Q G lHs (by decide) n _).mono ?_
  rw [KS.out.1, KS.out.2]
  rintro e v2 ⟨la, ln, lc, rfl, hown, hb⟩
  have hln := (own_ints hown).2.1
  subst hln
  have hOW := owI_mk hown hb.size
  have LV := Lib.hid Z_1.out.lt
  have HB_2 := Lib.hid (bt HB_1.out hb)
  have G_2 := Lib.hid (G_1.out.below hb)
  have Z_2 := Lib.hid (Z_1.out.below hb)
  clear hb
  clear g0 g1 g2 z0 z1 zf0 zf1
  obtain ⟨g0, g1, g2⟩ := G_2.out
  obtain ⟨z0, z1, zf⟩ := Z_2.out
  have zf0 := zf 0
  have zf1 := zf 1
  clear zf
  have OW := Lib.hid hOW
  clear hOW hown
  go_wp2
  (try simp only [Exit.inBlock, Exit.then])
  refine bodyPost_ret (v := .tuple #[.agg #[.int .i64 hv, .slice la lv.length lc], .bool true]) ?_ rfl ?_
  · rw [results_cell_tmp rfl]; go_simp
  · have hm5 := mid_two v2 (w.heap.size + 1) (.int .i64 hv) (.slice la lv.length lc)
    have h1 := OW.out.mid hm5 (.inr (by have := LV.out; omega))
    have hwl := HB_1.out.size
    exact ⟨_, rfl, h1.wide hwl hm5.size (Nat.le_refl _), HB_2.out.trans (hm5.toBelow (by omega) HB_2.out.size)⟩

set_option maxRecDepth 100000 in
set_option maxHeartbeats 3200000 in
theorem sBasesOf_any (P Q G n : Int) (w : World) :
    Calls Try.prog 53 #[gv P Q G, .int .i64 n] w (AnsBs w (bofH P Q G n) (bofL P Q G n) (bofB P Q G n)) := by
  have G_0 := Lib.hid ((gr_at w w.heap.size rfl P Q G 29).below (ba _ (.cells #[.int .i64 0, .slice none 0 0] 31)))
  have Z_0 := Lib.hid (b2_at (w.alloc (.cells #[.int .i64 P, .int .i64 Q, .int .i64 G] 29)) (w.heap.size + 1) (by simp) (.int .i64 0) (.slice none 0 0) 31)
  have HB_0 := Lib.hid (show Below w.heap.size w ((w.alloc (.cells #[.int .i64 P, .int .i64 Q, .int .i64 G] 29)).alloc (.cells #[.int .i64 0, .slice none 0 0] 31)) from bt (ba _ _) (ba _ _))
  cases h0 : goodB P Q G
  · have E1 := Lib.hid (show bofB P Q G n = false by simp [bof_ref, h0])
    rw [E1.out, (bof_off E1.out).1, (bof_off E1.out).2]
    have KG := Lib.hid h0
    clear h0
    obtain ⟨g0, g1, g2⟩ := G_0.out
    obtain ⟨z0, z1, zf⟩ := Z_0.out
    have zf0 := zf 0
    have zf1 := zf 1
    clear zf
    go_enter Try.func53, Try.ntmps53
    go_wp2_with fail
    refine (l2Good_any P Q G _).mono ?_
    rw [KG.out]
    rintro e v1 ⟨rfl, hb⟩
    have HB_1 := Lib.hid (bt HB_0.out hb)
    have G_1 := Lib.hid (G_0.out.below hb)
    have Z_1 := Lib.hid (Z_0.out.below hb)
    clear hb
    clear g0 g1 g2 z0 z1 zf0 zf1
    obtain ⟨g0, g1, g2⟩ := G_1.out
    obtain ⟨z0, z1, zf⟩ := Z_1.out
    have zf0 := zf 0
    have zf1 := zf 1
    clear zf
    go_wp2
    (try simp only [Exit.inBlock, Exit.then])
    refine bodyPost_ret (v := .tuple #[.agg #[.int .i64 0, .slice none 0 0], .bool false]) ?_ rfl ?_
    · rw [results_cell_tmp rfl]; go_simp
    · have hm5 := mid_two v1 (w.heap.size + 1) (.int .i64 0) (.slice none 0 0)
      exact ⟨_, rfl, owI_nil _ _ (Nat.le_trans HB_1.out.size hm5.size), HB_1.out.trans (hm5.toBelow (by omega) HB_1.out.size)⟩
  have KG := Lib.hid h0
  cases h1 : inB n 0 24
  · have E1 := Lib.hid (show bofB P Q G n = false by simp [bof_ref, h0, h1])
    rw [E1.out, (bof_off E1.out).1, (bof_off E1.out).2]
    have KN := Lib.hid h1
    clear h0 h1
    obtain ⟨g0, g1, g2⟩ := G_0.out
    obtain ⟨z0, z1, zf⟩ := Z_0.out
    have zf0 := zf 0
    have zf1 := zf 1
    clear zf
    go_enter Try.func53, Try.ntmps53
    go_wp2_with fail
    refine (l2Good_any P Q G _).mono ?_
    rw [KG.out]
    rintro e v1 ⟨rfl, hb⟩
    have HB_1 := Lib.hid (bt HB_0.out hb)
    have G_1 := Lib.hid (G_0.out.below hb)
    have Z_1 := Lib.hid (Z_0.out.below hb)
    clear hb
    clear g0 g1 g2 z0 z1 zf0 zf1
    obtain ⟨g0, g1, g2⟩ := G_1.out
    obtain ⟨z0, z1, zf⟩ := Z_1.out
    have zf0 := zf 0
    have zf1 := zf 1
    clear zf
    go_wp2_with fail
    refine (l1In_any _ _ _ _).mono ?_
    rw [KN.out]
    rintro e w' ⟨rfl, rfl⟩
    go_wp2
    (try simp only [Exit.inBlock, Exit.then])
    refine bodyPost_ret (v := .tuple #[.agg #[.int .i64 0, .slice none 0 0], .bool false]) ?_ rfl ?_
    · rw [results_cell_tmp rfl]; go_simp
    · have hm5 := mid_two v1 (w.heap.size + 1) (.int .i64 0) (.slice none 0 0)
      exact ⟨_, rfl, owI_nil _ _ (Nat.le_trans HB_1.out.size hm5.size), HB_1.out.trans (hm5.toBelow (by omega) HB_1.out.size)⟩
  have KN := Lib.hid h1
  obtain ⟨hv, hhv⟩ : ∃ v, deV P Q G lH 0 = v := ⟨_, rfl⟩
  obtain ⟨lv, hlv⟩ : ∃ v, dsV P Q G lHs n = v := ⟨_, rfl⟩
  cases h2 : deOk P Q G lH 0
  · have KD := Lib.hid (show deV P Q G lH 0 = hv ∧ deOk P Q G lH 0 = false from ⟨hhv, h2⟩)
    have E1 := Lib.hid (show bofB P Q G n = false by simp [bof_ref, h0, h1, h2])
    rw [E1.out, (bof_off E1.out).1, (bof_off E1.out).2]
    obtain ⟨b3, h3⟩ : ∃ b, dsOk P Q G lHs n = b := ⟨_, rfl⟩
    have KS := Lib.hid (show dsV P Q G lHs n = lv ∧ dsOk P Q G lHs n = b3 from ⟨hlv, h3⟩)
    clear h0 h1 h2 h3 hhv hlv
    obtain ⟨g0, g1, g2⟩ := G_0.out
    obtain ⟨z0, z1, zf⟩ := Z_0.out
    have zf0 := zf 0
    have zf1 := zf 1
    clear zf
    go_enter Try.func53, Try.ntmps53
    go_wp2_with fail
    refine (l2Good_any P Q G _).mono ?_
    rw [KG.out]
    rintro e v1 ⟨rfl, hb⟩
    have HB_1 := Lib.hid (bt HB_0.out hb)
    have G_1 := Lib.hid (G_0.out.below hb)
    have Z_1 := Lib.hid (Z_0.out.below hb)
    clear hb
    clear g0 g1 g2 z0 z1 zf0 zf1
    obtain ⟨g0, g1, g2⟩ := G_1.out
    obtain ⟨z0, z1, zf⟩ := Z_1.out
    have zf0 := zf 0
    have zf1 := zf 1
    clear zf
    go_wp2_with fail
    refine (l1In_any _ _ _ _).mono ?_
    rw [KN.out]
    rintro e w' ⟨rfl, rfl⟩
    go_wp2_with fail
    refine (sDeriveElement_any P Q G lH (by decide) 0 _).mono ?_
    rw [KD.out.1, KD.out.2]
    rintro e v2 ⟨rfl, hb⟩
    have HB_2 := Lib.hid (bt HB_1.out hb)
    have G_2 := Lib.hid (G_1.out.below hb)
    have Z_2 := Lib.hid (Z_1.out.below hb)
    clear hb
    clear g0 g1 g2 z0 z1 zf0 zf1
    obtain ⟨g0, g1, g2⟩ := G_2.out
    obtain ⟨z0, z1, zf⟩ := Z_2.out
    have zf0 := zf 0
    have zf1 := zf 1
    clear zf
    go_wp2_with fail
    refine (sDeriveElements_any P Q G lHs (by decide) n _).mono ?_
    rw [KS.out.1, KS.out.2]
    rintro e v3 ⟨la, ln, lc, rfl, hown, hb⟩
    have hln := (own_ints hown).2.1
    subst hln
    have hOW := owI_mk hown hb.size
    have LV := Lib.hid Z_2.out.lt
    have HB_3 := Lib.hid (bt HB_2.out hb)
    have G_3 := Lib.hid (G_2.out.below hb)
    have Z_3 := Lib.hid (Z_2.out.below hb)
    clear hb
    clear g0 g1 g2 z0 z1 zf0 zf1
    obtain ⟨g0, g1, g2⟩ := G_3.out
    obtain ⟨z0, z1, zf⟩ := Z_3.out
    have zf0 := zf 0
    have zf1 := zf 1
    clear zf
    clear hOW hown
    go_wp2
    (try simp only [Exit.inBlock, Exit.then])
    refine bodyPost_ret (v := .tuple #[.agg #[.int .i64 0, .slice none 0 0], .bool false]) ?_ rfl ?_
    · rw [results_cell_tmp rfl]; go_simp
    · have hm5 := mid_two v3 (w.heap.size + 1) (.int .i64 0) (.slice none 0 0)
      exact ⟨_, rfl, owI_nil _ _ (Nat.le_trans HB_3.out.size hm5.size), HB_3.out.trans (hm5.toBelow (by omega) HB_3.out.size)⟩
  have KD := Lib.hid (show deV P Q G lH 0 = hv ∧ deOk P Q G lH 0 = true from ⟨hhv, h2⟩)
  cases h3 : dsOk P Q G lHs n
  · have KS := Lib.hid (show dsV P Q G lHs n = lv ∧ dsOk P Q G lHs n = false from ⟨hlv, h3⟩)
    have E1 := Lib.hid (show bofB P Q G n = false by simp [bof_ref, h0, h1, h2, h3])
    rw [E1.out, (bof_off E1.out).1, (bof_off E1.out).2]
    clear h0 h1 h2 h3 hhv hlv
    obtain ⟨g0, g1, g2⟩ := G_0.out
    obtain ⟨z0, z1, zf⟩ := Z_0.out
    have zf0 := zf 0
    have zf1 := zf 1
    clear zf
    go_enter Try.func53, Try.ntmps53
    go_wp2_with fail
    refine (l2Good_any P Q G _).mono ?_
    rw [KG.out]
    rintro e v1 ⟨rfl, hb⟩
    have HB_1 := Lib.hid (bt HB_0.out hb)
    have G_1 := Lib.hid (G_0.out.below hb)
    have Z_1 := Lib.hid (Z_0.out.below hb)
    clear hb
    clear g0 g1 g2 z0 z1 zf0 zf1
    obtain ⟨g0, g1, g2⟩ := G_1.out
    obtain ⟨z0, z1, zf⟩ := Z_1.out
    have zf0 := zf 0
    have zf1 := zf 1
    clear zf
    go_wp2_with fail
    refine (l1In_any _ _ _ _).mono ?_
    rw [KN.out]
    rintro e w' ⟨rfl, rfl⟩
    go_wp2_with fail
    refine (sDeriveElement_any P Q G lH (by decide) 0 _).mono ?_
    rw [KD.out.1, KD.out.2]
    rintro e v2 ⟨rfl, hb⟩
    have HB_2 := Lib.hid (bt HB_1.out hb)
    have G_2 := Lib.hid (G_1.out.below hb)
    have Z_2 := Lib.hid (Z_1.out.below hb)
    clear hb
    clear g0 g1 g2 z0 z1 zf0 zf1
    obtain ⟨g0, g1, g2⟩ := G_2.out
    obtain ⟨z0, z1, zf⟩ := Z_2.out
    have zf0 := zf 0
    have zf1 := zf 1
    clear zf
    go_wp2_with fail
    refine (sDeriveElements_any P Q G lHs (by decide) n _).mono ?_
    rw [KS.out.1, KS.out.2]
    rintro e v3 ⟨la, ln, lc, rfl, hown, hb⟩
    have hln := (own_ints hown).2.1
    subst hln
    have hOW := owI_mk hown hb.size
    have LV := Lib.hid Z_2.out.lt
    have HB_3 := Lib.hid (bt HB_2.out hb)
    have G_3 := Lib.hid (G_2.out.below hb)
    have Z_3 := Lib.hid (Z_2.out.below hb)
    clear hb
    clear g0 g1 g2 z0 z1 zf0 zf1
    obtain ⟨g0, g1, g2⟩ := G_3.out
    obtain ⟨z0, z1, zf⟩ := Z_3.out
    have zf0 := zf 0
    have zf1 := zf 1
    clear zf
    clear hOW hown
    go_wp2
    (try simp only [Exit.inBlock, Exit.then])
    refine bodyPost_ret (v := .tuple #[.agg #[.int .i64 0, .slice none 0 0], .bool false]) ?_ rfl ?_
    · rw [results_cell_tmp rfl]; go_simp
    · have hm5 := mid_two v3 (w.heap.size + 1) (.int .i64 0) (.slice none 0 0)
      exact ⟨_, rfl, owI_nil _ _ (Nat.le_trans HB_3.out.size hm5.size), HB_3.out.trans (hm5.toBelow (by omega) HB_3.out.size)⟩
  have KS := Lib.hid (show dsV P Q G lHs n = lv ∧ dsOk P Q G lHs n = true from ⟨hlv, h3⟩)
  have E1 := Lib.hid (show bofB P Q G n = true by simp [bof_ref, h0, h1, h2, h3])
  rw [E1.out, (bof_on E1.out).1, (bof_on E1.out).2, hhv, hlv]
  clear h0 h1 h2 h3 hhv hlv
  obtain ⟨g0, g1, g2⟩ := G_0.out
  obtain ⟨z0, z1, zf⟩ := Z_0.out
  have zf0 := zf 0
  have zf1 := zf 1
  clear zf
  go_enter Try.func53, Try.ntmps53
  go_wp2_with fail
  refine (l2Good_any P Q G _).mono ?_
  rw [KG.out]
  rintro e v1 ⟨rfl, hb⟩
  have HB_1 := Lib.hid (bt HB_0.out hb)
  have G_1 := Lib.hid (G_0.out.below hb)
  have Z_1 := Lib.hid (Z_0.out.below hb)
  clear hb
  clear g0 g1 g2 z0 z1 zf0 zf1
  obtain ⟨g0, g1, g2⟩ := G_1.out
  obtain ⟨z0, z1, zf⟩ := Z_1.out
  have zf0 := zf 0
  have zf1 := zf 1
  clear zf
  go_wp2_with fail
  refine (l1In_any _ _ _ _).mono ?_
  rw [KN.out]
  rintro e w' ⟨rfl, rfl⟩
  go_wp2_with fail
  refine (sDeriveElement_any P Q G lH (by decide) 0 _).mono ?_
  rw [KD.out.1, KD.out.2]
  rintro e v2 ⟨rfl, hb⟩
  have HB_2 := Lib.hid (bt HB_1.out hb)
  have G_2 := Lib.hid (G_1.out.below hb)
  have Z_2 := Lib.hid (Z_1.out.below hb)
  clear hb
  clear g0 g1 g2 z0 z1 zf0 zf1
  obtain ⟨g0, g1, g2⟩ := G_2.out
  obtain ⟨z0, z1, zf⟩ := Z_2.out
  have zf0 := zf 0
  have zf1 := zf 1
  clear zf
  go_wp2_with fail
  refine (sDeriveElements_any P Q G lHs (by decide) n _).mono ?_
  rw [KS.out.1, KS.out.2]
  rintro e v3 ⟨la, ln, lc, rfl, hown, hb⟩
  have hln := (own_ints hown).2.1
  subst hln
  have hOW := owI_mk hown hb.size
  have LV := Lib.hid Z_2.out.lt
  have HB_3 := Lib.hid (bt HB_2.out hb)
  have G_3 := Lib.hid (G_2.out.below hb)
  have Z_3 := Lib.hid (Z_2.out.below hb)
  clear hb
  clear g0 g1 g2 z0 z1 zf0 zf1
  obtain ⟨g0, g1, g2⟩ := G_3.out
  obtain ⟨z0, z1, zf⟩ := Z_3.out
  have zf0 := zf 0
  have zf1 := zf 1
  clear zf
  have OW := Lib.hid hOW
  clear hOW hown
  go_wp2
  (try simp only [Exit.inBlock, Exit.then])
  refine bodyPost_ret (v := .tuple #[.agg #[.int .i64 hv, .slice la lv.length lc], .bool true]) ?_ rfl ?_
  · rw [results_cell_tmp rfl]; go_simp
  · have hm5 := mid_two v3 (w.heap.size + 1) (.int .i64 hv) (.slice la lv.length lc)
    have h1 := OW.out.mid hm5 (.inr (by have := LV.out; omega))
    have hwl := HB_2.out.size
    exact ⟨_, rfl, h1.wide hwl hm5.size (Nat.le_refl _), HB_3.out.trans (hm5.toBelow (by omega) HB_3.out.size)⟩

end Go.Proofs.Ytdnofcpobpoehaa

