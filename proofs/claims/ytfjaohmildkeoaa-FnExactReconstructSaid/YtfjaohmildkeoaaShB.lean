/- Chapter 11: values in the exponent of the reference; whether a share is right; CommitAt and CheckShare of both. -/
import Derived.Test.YtfjaohmildkeoaaShA
import Derived.Deep.RegionHeld3
namespace Go.Proofs.Ytfjaohmildkeoaa
open Go.RowKit
set_option linter.unusedVariables false
set_option linter.unusedSimpArgs false

theorem mul_two {P x y : Int} (h0 : 0 ≤ x) (h1 : x < P) : mulFrom P 1 [x, y] = x * y % P := by
  show 1 * x % P * y % P = _
  rw [Int.one_mul, Int.emod_eq_of_lt h0 h1]
theorem atF_step {P Q i out pw c t : Int} {cs rest : List Int} {k : Nat} (h : cs.drop k = c :: rest) (hb : t = atF P Q i out pw (cs.drop k)) : t = atF P Q i (out * Num.pow c pw P % P) (pw * i % Q) rest := by
  rw [hb, h]; rfl

set_option maxRecDepth 100000 in
set_option maxHeartbeats 1600000 in
theorem sAt_any (P Q G i : Int) (hg : goodB P Q G = true) (hi : 0 ≤ i) (hi' : i ≤ 7) (ad : Option Addr) (n cap : Nat) (cs : List Int) (hn : cs.length = n) (hl : n ≤ 1000000) (he : allEl P Q cs = true) (w : World) (hz : IsInts w ad cs) :
    Calls Try.prog 105 #[gv P Q G, .slice ad n cap, .int .i64 i] w fun e w' => e = .returned (.int .i64 (atV P Q cs i)) ∧ Below w.heap.size w w' := by
  have hbg := goodB_true.1 hg
  have hP2 : 2 ≤ P := by omega
  have hP3 : P ≤ 2000000000 := by omega
  have hQ2 : 2 ≤ Q := by omega
  have hQ3 : Q ≤ 2000000000 := by omega
  have hQ0 : Q ≠ 0 := by omega
  have HE := Lib.hid (els_range he)
  have HN := Lib.hid hn
  have HZ := Lib.hid hz
  clear hbg hg he hn hz
  unfold atV
  go_enter Try.func105, Try.ntmps105
  go_wp2
  go_loopw [7, 8, 10, 13] (fun O W _ K wr => ∃ (k : Nat) (o pw : Int), k ≤ n ∧ (0 ≤ o ∧ o < P) ∧ (0 ≤ pw ∧ pw < Q) ∧ O = .int .i64 o ∧ W = .int .i64 pw ∧ K = .int .i64 k ∧ atF P Q i 1 1 cs = atF P Q i o pw (cs.drop k) ∧ Below w.heap.size w wr ∧ GR wr w.heap.size P Q G) (fun _ _ _ K _ => n - (intOf K).toNat)
  case atStart => exact ⟨0, 1, 1, Nat.zero_le _, ⟨by omega, by omega⟩, ⟨by omega, by omega⟩, rfl, rfl, rfl, rfl, ba _ _, gr_new _ _ _ _ _⟩
  case round =>
    obtain ⟨k, o, pw, hk, ⟨ho0, ho1⟩, ⟨hw0, hw1⟩, rfl, rfl, rfl, hrl, hbel, hgr⟩ := hrel
    by_cases hkn : k < n
    · obtain ⟨b, off, c, rfl, hb, hc, hd⟩ := (HZ.out.below hbel (Nat.le_refl _)).at (k := k) (by have := HN.out; omega)
      obtain ⟨⟨hc1, hc2⟩, _⟩ := HE.out c (mem_drop hd)
      have HS := Lib.hid (atF_step hd hrl)
      obtain ⟨hv0, hv1⟩ := pow_lt c pw P hP2
      obtain ⟨pv, hpv⟩ : ∃ pv, Num.pow c pw P = pv := ⟨_, rfl⟩
      rw [hpv] at hv0 hv1
      have HPV := Lib.hid hpv
      have HM := Lib.hid (mul_two (y := pv) ho0 ho1)
      have HMP := Lib.hid (show ∀ z ∈ [o, pv], 0 ≤ z ∧ z < P by intro z hz; simp at hz; rcases hz with rfl | rfl <;> omega)
      have hm0 : 0 ≤ o * pv % P := Int.emod_nonneg _ (by omega)
      have hm1 : o * pv % P < P := Int.emod_lt_of_pos _ (by omega)
      obtain ⟨q0, q1⟩ := prod_bd (a := pw) (z := i) hw0 (by omega) hi (by omega)
      have hx1 : IntKind.i64.wrap (pw * i) = pw * i := by rw [IntKind.wrap_i64]; omega
      have hx2 : (pw * i).tmod Q = pw * i % Q := Int.tmod_eq_emod_of_nonneg q0
      have hq0 : 0 ≤ pw * i % Q := Int.emod_nonneg _ hQ0
      have hq1 : pw * i % Q < Q := Int.emod_lt_of_pos _ (by omega)
      have hx3 : IntKind.i64.wrap (pw * i % Q) = pw * i % Q := by rw [IntKind.wrap_i64]; omega
      have HB_0 := Lib.hid hbel
      have G_0 := Lib.hid hgr
      clear hpv hd hrl hbel hgr
      go_wp2_with fail
      have hbd : Below wr.heap.size wr wr.drew := (Below.refl _ wr).drew
      have HB_s := Lib.hid (bt HB_0.out hbd)
      have G_s := Lib.hid (G_0.out.below hbd)
      clear hbd
      refine wp_region_held_drew (S := (fun w' => w'.cell? ⟨w.heap.size, 0, none⟩ = some (.int .i64 P) ∧ w'.cell? ⟨w.heap.size, 1, none⟩ = some (.int .i64 Q) ∧ w'.cell? ⟨w.heap.size, 2, none⟩ = some (.int .i64 G))) (by kernel_rfl) (show _ from G_0.out) (fun hHeld => ?_)
      generalize hW0 : wr.drew = Ws at *
      clear hW0
      refine wpAnyH_take (i := 0) (v := ?_) rfl (by kernel_rfl) (by kernel_rfl) (by kernel_rfl) (fun _ _ _ h => h) (Or.inl ⟨by kernel_rfl, ?_⟩) (by assumption) ?_
      rotate_left 1
      · intro w9 hSw
        try dsimp only at hSw
        go_simp
        try with_reducible rfl
      try simp only [Act.put, List.getElem_toArray, List.getElem_cons_succ, List.getElem_cons_zero, List.setIfInBounds_toArray, List.set_cons_zero, List.set_cons_succ]
      refine wpAnyH_take (i := 1) (v := ?_) rfl (by kernel_rfl) (by kernel_rfl) (by kernel_rfl) (fun _ _ _ h => h) (Or.inl ⟨by kernel_rfl, ?_⟩) (by assumption) ?_
      rotate_left 1
      · intro w9 hSw
        try dsimp only at hSw
        go_simp
        try with_reducible rfl
      try simp only [Act.put, List.getElem_toArray, List.getElem_cons_succ, List.getElem_cons_zero, List.setIfInBounds_toArray, List.set_cons_zero, List.set_cons_succ]
      refine wpAnyH_take (i := 2) (v := ?_) rfl (by kernel_rfl) (by kernel_rfl) (by kernel_rfl) (fun _ _ _ h => h) (Or.inl ⟨by kernel_rfl, ?_⟩) (by assumption) ?_
      rotate_left 1
      · intro w9 hSw
        try dsimp only at hSw
        go_simp
        try with_reducible rfl
      try simp only [Act.put, List.getElem_toArray, List.getElem_cons_succ, List.getElem_cons_zero, List.setIfInBounds_toArray, List.set_cons_zero, List.set_cons_succ]
      refine wpAnyH_take (i := 3) (v := ?_) rfl (by kernel_rfl) (by kernel_rfl) (by kernel_rfl) (fun _ _ _ h => h) (Or.inl ⟨by kernel_rfl, ?_⟩) (by assumption) ?_
      rotate_left 1
      · intro w9 hSw
        try dsimp only at hSw
        go_simp
        try with_reducible rfl
      try simp only [Act.put, List.getElem_toArray, List.getElem_cons_succ, List.getElem_cons_zero, List.setIfInBounds_toArray, List.set_cons_zero, List.set_cons_succ]
      refine wpAnyH_take (i := 4) (v := ?_) rfl (by kernel_rfl) (by kernel_rfl) (by kernel_rfl) (fun _ _ _ h => h) (Or.inl ⟨by kernel_rfl, ?_⟩) (by assumption) ?_
      rotate_left 1
      · intro w9 hSw
        try dsimp only at hSw
        go_simp
        try with_reducible rfl
      try simp only [Act.put, List.getElem_toArray, List.getElem_cons_succ, List.getElem_cons_zero, List.setIfInBounds_toArray, List.set_cons_zero, List.set_cons_succ]
      refine wpAnyH_ready (rs := [5]) (by kernel_rfl) (by simp) ?_
      refine AllReadyH.cons rfl (fun K hK => ?_) (AllReadyH.nil)
      go_simp
      go_at_call 91
      refine (gExp_any P Q G c pw (by omega) (by omega) (by omega) (by omega) hP2 hP3 hQ2 hQ3 _).mono ?_
      rw [HPV.out]
      rintro e' Wsf ⟨rfl, hb⟩
      have HB_sf := Lib.hid (bt HB_s.out hb)
      have G_sf := Lib.hid (G_s.out.below hb)
      clear hb
      go_wp2_with fail
      refine hK.out _ _ (show _ from G_sf.out) (fun hHeld => ?_)
      clear hK K
      try simp only [Act.put, List.getElem_toArray, List.getElem_cons_succ, List.getElem_cons_zero, List.setIfInBounds_toArray, List.set_cons_zero, List.set_cons_succ]
      refine wpAnyH_ready (rs := [6]) (by kernel_rfl) (by simp) ?_
      refine AllReadyH.cons rfl (fun K hK => ?_) (AllReadyH.nil)
      go_simp
      have hb := ba Wsf (.cells #[.int .i64 o, .int .i64 pv] 3)
      have HB_sfg := Lib.hid (bt HB_sf.out hb)
      have G_sfg := Lib.hid (G_sf.out.below hb)
      have L_sfg := Lib.hid (show IsInts (Wsf.alloc (.cells #[.int .i64 o, .int .i64 pv] 3)) (some ⟨Wsf.heap.size, 0, none⟩) [o, pv] from ints_lit Wsf [o, pv] 3)
      clear hb
      refine hK.out _ _ (show _ from G_sfg.out) (fun hHeld => ?_)
      clear hK K
      try simp only [Act.put, List.getElem_toArray, List.getElem_cons_succ, List.getElem_cons_zero, List.setIfInBounds_toArray, List.set_cons_zero, List.set_cons_succ]
      generalize hW9 : Wsf.alloc (.cells #[.int .i64 o, .int .i64 pv] 3) = Wsfg at *
      clear hW9
      refine wpAnyH_ready (rs := [7]) (by kernel_rfl) (by simp) ?_
      refine AllReadyH.cons rfl (fun K hK => ?_) (AllReadyH.nil)
      go_simp
      go_at_call 132
      refine (gMul_any P Q G _ 2 2 [o, pv] rfl (by decide) hP2 hP3 HMP.out _ L_sfg.out).mono ?_
      rw [HM.out]
      rintro e' Wsfgh ⟨rfl, hb⟩
      have HB_sfgh := Lib.hid (bt HB_sfg.out hb)
      have G_sfgh := Lib.hid (G_sfg.out.below hb)
      have L_sfgh := Lib.hid (L_sfg.out.below hb)
      clear hb
      go_wp2_with fail
      refine hK.out _ _ (show _ from G_sfgh.out) (fun hHeld => ?_)
      clear hK K
      try simp only [Act.put, List.getElem_toArray, List.getElem_cons_succ, List.getElem_cons_zero, List.setIfInBounds_toArray, List.set_cons_zero, List.set_cons_succ]
      refine wpAnyH_take (i := 8) (v := ?_) rfl (by kernel_rfl) (by kernel_rfl) (by kernel_rfl) (fun _ _ _ h => h) (Or.inl ⟨by kernel_rfl, ?_⟩) (by assumption) ?_
      rotate_left 1
      · intro w9 hSw
        try dsimp only at hSw
        go_simp
        try with_reducible rfl
      try simp only [Act.put, List.getElem_toArray, List.getElem_cons_succ, List.getElem_cons_zero, List.setIfInBounds_toArray, List.set_cons_zero, List.set_cons_succ]
      refine wpAnyH_done (by kernel_rfl) ?_ _
      clear hHeld
      obtain ⟨g0, g1, g2⟩ := G_sfgh.out
      go_wp2
      go_roundw
      case rel => exact ⟨k + 1, _, _, by omega, ⟨hm0, hm1⟩, ⟨hq0, hq1⟩, rfl, rfl, by go_num, by have h := HS.out; rw [HPV.out] at h; exact h, HB_sfgh.out, G_sfgh.out⟩
      case measure => simp only [intOf]; omega
    · have HR := Lib.hid hrl
      have HB := Lib.hid hbel
      clear hrl hbel hgr
      go_wp2
      go_ret
      refine ⟨?_, HB.out⟩
      rw [HR.out, List.drop_of_length_le (by have := HN.out; omega)]; rfl

/-! ### Right shares -/
def fitB (P Q G : Int) (cs : List Int) (i s : Int) : Bool := Num.pow G s P == atV P Q cs i

set_option maxRecDepth 100000 in
set_option maxHeartbeats 3200000 in
theorem isShare_any (P Q G i s : Int) (hg : goodB P Q G = true) (hi : 0 ≤ i) (hi' : i ≤ 7) (hs : 0 ≤ s ∧ s < Q) (ad : Option Addr) (n cap : Nat) (cs : List Int) (hn : cs.length = n) (hl : n ≤ 1000000) (he : allEl P Q cs = true) (w : World) (hz : IsInts w ad cs) :
    Calls Try.prog 69 #[gv P Q G, .slice ad n cap, .int .i64 i, .int .i64 s] w fun e w' => e = .returned (.bool (fitB P Q G cs i s)) ∧ Below w.heap.size w w' := by
  obtain ⟨hs0, hs1⟩ := hs
  have hbg := goodB_true.1 hg
  have hP2 : 2 ≤ P := by omega
  have hP3 : P ≤ 2000000000 := by omega
  have hQ2 : 2 ≤ Q := by omega
  have hQ3 : Q ≤ 2000000000 := by omega
  have hG0 : 0 ≤ G := by omega
  have hG1 : G ≤ 2000000000 := by omega
  have HGD := Lib.hid hg
  have HE := Lib.hid he
  have HN := Lib.hid hn
  obtain ⟨x, hx⟩ : ∃ x, Num.pow G s P = x := ⟨_, rfl⟩
  obtain ⟨y, hy⟩ : ∃ y, atV P Q cs i = y := ⟨_, rfl⟩
  have e1 : fitB P Q G cs i s = (x == y) := by unfold fitB; rw [hx, hy]
  rw [e1]
  have HL := Lib.hid hx
  have HR := Lib.hid hy
  have G_0 := Lib.hid (gr_atS w (w.heap.size) (by simp) P Q G 24)
  have HB_0 := Lib.hid (show Below w.heap.size w (w.alloc (.cells #[.int .i64 P, .int .i64 Q, .int .i64 G] 24)) from ba _ _)
  have Z_0 := Lib.hid (LZ.below hz HB_0.out)
  clear hbg hg he hn hz e1 hx hy
  obtain ⟨g0, g1, g2⟩ := G_0.out
  go_enter Try.func69, Try.ntmps69
  go_wp2_with fail
  clear g0 g1 g2
  generalize hW9 : w.alloc (.cells #[.int .i64 P, .int .i64 Q, .int .i64 G] 24) = v0 at *
  clear hW9
  have hbd : Below v0.heap.size v0 v0.drew := (Below.refl _ v0).drew
  have HB_s := Lib.hid (bt HB_0.out hbd)
  have G_s := Lib.hid (G_0.out.below hbd)
  have Z_s := Lib.hid (Z_0.out.below hbd)
  clear hbd
  refine wp_region_held_drew (S := (fun w' => w'.cell? ⟨w.heap.size, 0, none⟩ = some (.int .i64 P) ∧ w'.cell? ⟨w.heap.size, 1, none⟩ = some (.int .i64 Q) ∧ w'.cell? ⟨w.heap.size, 2, none⟩ = some (.int .i64 G))) (by kernel_rfl) (show _ from G_0.out) (fun hHeld => ?_)
  generalize hW0 : v0.drew = Ws at *
  clear hW0
  refine wpAnyH_take (i := 0) (v := ?_) rfl (by kernel_rfl) (by kernel_rfl) (by kernel_rfl) (fun _ _ _ h => h) (Or.inl ⟨by kernel_rfl, ?_⟩) (by assumption) ?_
  rotate_left 1
  · intro w9 hSw
    try dsimp only at hSw
    go_simp
    try with_reducible rfl
  try simp only [Act.put, List.getElem_toArray, List.getElem_cons_succ, List.getElem_cons_zero, List.setIfInBounds_toArray, List.set_cons_zero, List.set_cons_succ]
  refine wpAnyH_take (i := 1) (v := ?_) rfl (by kernel_rfl) (by kernel_rfl) (by kernel_rfl) (fun _ _ _ h => h) (Or.inl ⟨by kernel_rfl, ?_⟩) (by assumption) ?_
  rotate_left 1
  · intro w9 hSw
    try dsimp only at hSw
    go_simp
    try with_reducible rfl
  try simp only [Act.put, List.getElem_toArray, List.getElem_cons_succ, List.getElem_cons_zero, List.setIfInBounds_toArray, List.set_cons_zero, List.set_cons_succ]
  refine wpAnyH_take (i := 2) (v := ?_) rfl (by kernel_rfl) (by kernel_rfl) (by kernel_rfl) (fun _ _ _ h => h) (Or.inl ⟨by kernel_rfl, ?_⟩) (by assumption) ?_
  rotate_left 1
  · intro w9 hSw
    try dsimp only at hSw
    go_simp
    try with_reducible rfl
  try simp only [Act.put, List.getElem_toArray, List.getElem_cons_succ, List.getElem_cons_zero, List.setIfInBounds_toArray, List.set_cons_zero, List.set_cons_succ]
  refine wpAnyH_take (i := 3) (v := ?_) rfl (by kernel_rfl) (by kernel_rfl) (by kernel_rfl) (fun _ _ _ h => h) (Or.inl ⟨by kernel_rfl, ?_⟩) (by assumption) ?_
  rotate_left 1
  · intro w9 hSw
    try dsimp only at hSw
    go_simp
    try with_reducible rfl
  try simp only [Act.put, List.getElem_toArray, List.getElem_cons_succ, List.getElem_cons_zero, List.setIfInBounds_toArray, List.set_cons_zero, List.set_cons_succ]
  refine wpAnyH_take (i := 5) (v := ?_) rfl (by kernel_rfl) (by kernel_rfl) (by kernel_rfl) (fun _ _ _ h => h) (Or.inl ⟨by kernel_rfl, ?_⟩) (by assumption) ?_
  rotate_left 1
  · intro w9 hSw
    try dsimp only at hSw
    go_simp
    try with_reducible rfl
  try simp only [Act.put, List.getElem_toArray, List.getElem_cons_succ, List.getElem_cons_zero, List.setIfInBounds_toArray, List.set_cons_zero, List.set_cons_succ]
  refine wpAnyH_take (i := 6) (v := ?_) rfl (by kernel_rfl) (by kernel_rfl) (by kernel_rfl) (fun _ _ _ h => h) (Or.inl ⟨by kernel_rfl, ?_⟩) (by assumption) ?_
  rotate_left 1
  · intro w9 hSw
    try dsimp only at hSw
    go_simp
    try with_reducible rfl
  try simp only [Act.put, List.getElem_toArray, List.getElem_cons_succ, List.getElem_cons_zero, List.setIfInBounds_toArray, List.set_cons_zero, List.set_cons_succ]
  refine wpAnyH_take (i := 7) (v := ?_) rfl (by kernel_rfl) (by kernel_rfl) (by kernel_rfl) (fun _ _ _ h => h) (Or.inl ⟨by kernel_rfl, ?_⟩) (by assumption) ?_
  rotate_left 1
  · intro w9 hSw
    try dsimp only at hSw
    go_simp
    try with_reducible rfl
  try simp only [Act.put, List.getElem_toArray, List.getElem_cons_succ, List.getElem_cons_zero, List.setIfInBounds_toArray, List.set_cons_zero, List.set_cons_succ]
  refine wpAnyH_ready (rs := [4]) (by kernel_rfl) (by simp) ?_
  refine AllReadyH.cons rfl (fun K hK => ?_) (AllReadyH.nil)
  go_simp
  go_at_call 102
  refine (power_any P Q G G s hG0 hG1 hs0 (by omega) hP2 hP3 _).mono ?_
  rw [HL.out]
  rintro e' Wse ⟨rfl, hb⟩
  have HB_se := Lib.hid (bt HB_s.out hb)
  have G_se := Lib.hid (G_s.out.below hb)
  have Z_se := Lib.hid (Z_s.out.below hb)
  clear hb
  go_wp2_with fail
  refine hK.out _ _ (show _ from G_se.out) (fun hHeld => ?_)
  clear hK K
  try simp only [Act.put, List.getElem_toArray, List.getElem_cons_succ, List.getElem_cons_zero, List.setIfInBounds_toArray, List.set_cons_zero, List.set_cons_succ]
  refine wpAnyH_ready (rs := [8]) (by kernel_rfl) (by simp) ?_
  refine AllReadyH.cons rfl (fun K hK => ?_) (AllReadyH.nil)
  go_simp
  go_at_call 86
  refine (commitAt_any P Q G i HGD.out hi hi' ad n cap cs HN.out hl HE.out _ Z_se.out).mono ?_
  rw [HR.out]
  rintro e' Wsei ⟨rfl, hb⟩
  have HB_sei := Lib.hid (bt HB_se.out hb)
  have G_sei := Lib.hid (G_se.out.below hb)
  have Z_sei := Lib.hid (Z_se.out.below hb)
  clear hb
  go_wp2_with fail
  refine hK.out _ _ (show _ from G_sei.out) (fun hHeld => ?_)
  clear hK K
  try simp only [Act.put, List.getElem_toArray, List.getElem_cons_succ, List.getElem_cons_zero, List.setIfInBounds_toArray, List.set_cons_zero, List.set_cons_succ]
  refine wpAnyH_take (i := 9) (v := ?_) rfl (by kernel_rfl) (by kernel_rfl) (by kernel_rfl) (fun _ _ _ h => h) (Or.inl ⟨by kernel_rfl, ?_⟩) (by assumption) ?_
  rotate_left 1
  · intro w9 hSw
    try dsimp only at hSw
    go_simp
    try with_reducible rfl
  try simp only [Act.put, List.getElem_toArray, List.getElem_cons_succ, List.getElem_cons_zero, List.setIfInBounds_toArray, List.set_cons_zero, List.set_cons_succ]
  refine wpAnyH_take (i := 10) (v := ?_) rfl (by kernel_rfl) (by kernel_rfl) (by kernel_rfl) (fun _ _ _ h => h) (Or.inl ⟨by kernel_rfl, ?_⟩) (by assumption) ?_
  rotate_left 1
  · intro w9 hSw
    try dsimp only at hSw
    go_simp
    try with_reducible rfl
  try simp only [Act.put, List.getElem_toArray, List.getElem_cons_succ, List.getElem_cons_zero, List.setIfInBounds_toArray, List.set_cons_zero, List.set_cons_succ]
  refine wpAnyH_done (by kernel_rfl) ?_ _
  go_wp2
  go_ret
  exact ⟨rfl, HB_sei.out⟩

set_option maxRecDepth 100000 in
set_option maxHeartbeats 3200000 in
theorem sFits_any (P Q G i s : Int) (hg : goodB P Q G = true) (hi : 0 ≤ i) (hi' : i ≤ 7) (hs : 0 ≤ s ∧ s < Q) (ad : Option Addr) (n cap : Nat) (cs : List Int) (hn : cs.length = n) (hl : n ≤ 1000000) (he : allEl P Q cs = true) (w : World) (hz : IsInts w ad cs) :
    Calls Try.prog 73 #[gv P Q G, .slice ad n cap, .int .i64 i, .int .i64 s] w fun e w' => e = .returned (.bool (fitB P Q G cs i s)) ∧ Below w.heap.size w w' := by
  obtain ⟨hs0, hs1⟩ := hs
  have hbg := goodB_true.1 hg
  have hP2 : 2 ≤ P := by omega
  have hP3 : P ≤ 2000000000 := by omega
  have hQ2 : 2 ≤ Q := by omega
  have hQ3 : Q ≤ 2000000000 := by omega
  have hG0 : 0 ≤ G := by omega
  have hG1 : G ≤ 2000000000 := by omega
  have HGD := Lib.hid hg
  have HE := Lib.hid he
  have HN := Lib.hid hn
  obtain ⟨x, hx⟩ : ∃ x, Num.pow G s P = x := ⟨_, rfl⟩
  obtain ⟨y, hy⟩ : ∃ y, atV P Q cs i = y := ⟨_, rfl⟩
  have e1 : fitB P Q G cs i s = (x == y) := by unfold fitB; rw [hx, hy]
  rw [e1]
  have HL := Lib.hid hx
  have HR := Lib.hid hy
  have G_0 := Lib.hid (gr_atS w (w.heap.size) (by simp) P Q G 24)
  have HB_0 := Lib.hid (show Below w.heap.size w (w.alloc (.cells #[.int .i64 P, .int .i64 Q, .int .i64 G] 24)) from ba _ _)
  have Z_0 := Lib.hid (LZ.below hz HB_0.out)
  clear hbg hg he hn hz e1 hx hy
  obtain ⟨g0, g1, g2⟩ := G_0.out
  go_enter Try.func73, Try.ntmps73
  go_wp2_with fail
  clear g0 g1 g2
  generalize hW9 : w.alloc (.cells #[.int .i64 P, .int .i64 Q, .int .i64 G] 24) = v0 at *
  clear hW9
  have hbd : Below v0.heap.size v0 v0.drew := (Below.refl _ v0).drew
  have HB_s := Lib.hid (bt HB_0.out hbd)
  have G_s := Lib.hid (G_0.out.below hbd)
  have Z_s := Lib.hid (Z_0.out.below hbd)
  clear hbd
  refine wp_region_held_drew (S := (fun w' => w'.cell? ⟨w.heap.size, 0, none⟩ = some (.int .i64 P) ∧ w'.cell? ⟨w.heap.size, 1, none⟩ = some (.int .i64 Q) ∧ w'.cell? ⟨w.heap.size, 2, none⟩ = some (.int .i64 G))) (by kernel_rfl) (show _ from G_0.out) (fun hHeld => ?_)
  generalize hW0 : v0.drew = Ws at *
  clear hW0
  refine wpAnyH_take (i := 0) (v := ?_) rfl (by kernel_rfl) (by kernel_rfl) (by kernel_rfl) (fun _ _ _ h => h) (Or.inl ⟨by kernel_rfl, ?_⟩) (by assumption) ?_
  rotate_left 1
  · intro w9 hSw
    try dsimp only at hSw
    go_simp
    try with_reducible rfl
  try simp only [Act.put, List.getElem_toArray, List.getElem_cons_succ, List.getElem_cons_zero, List.setIfInBounds_toArray, List.set_cons_zero, List.set_cons_succ]
  refine wpAnyH_take (i := 1) (v := ?_) rfl (by kernel_rfl) (by kernel_rfl) (by kernel_rfl) (fun _ _ _ h => h) (Or.inl ⟨by kernel_rfl, ?_⟩) (by assumption) ?_
  rotate_left 1
  · intro w9 hSw
    try dsimp only at hSw
    go_simp
    try with_reducible rfl
  try simp only [Act.put, List.getElem_toArray, List.getElem_cons_succ, List.getElem_cons_zero, List.setIfInBounds_toArray, List.set_cons_zero, List.set_cons_succ]
  refine wpAnyH_take (i := 2) (v := ?_) rfl (by kernel_rfl) (by kernel_rfl) (by kernel_rfl) (fun _ _ _ h => h) (Or.inl ⟨by kernel_rfl, ?_⟩) (by assumption) ?_
  rotate_left 1
  · intro w9 hSw
    try dsimp only at hSw
    go_simp
    try with_reducible rfl
  try simp only [Act.put, List.getElem_toArray, List.getElem_cons_succ, List.getElem_cons_zero, List.setIfInBounds_toArray, List.set_cons_zero, List.set_cons_succ]
  refine wpAnyH_take (i := 3) (v := ?_) rfl (by kernel_rfl) (by kernel_rfl) (by kernel_rfl) (fun _ _ _ h => h) (Or.inl ⟨by kernel_rfl, ?_⟩) (by assumption) ?_
  rotate_left 1
  · intro w9 hSw
    try dsimp only at hSw
    go_simp
    try with_reducible rfl
  try simp only [Act.put, List.getElem_toArray, List.getElem_cons_succ, List.getElem_cons_zero, List.setIfInBounds_toArray, List.set_cons_zero, List.set_cons_succ]
  refine wpAnyH_take (i := 5) (v := ?_) rfl (by kernel_rfl) (by kernel_rfl) (by kernel_rfl) (fun _ _ _ h => h) (Or.inl ⟨by kernel_rfl, ?_⟩) (by assumption) ?_
  rotate_left 1
  · intro w9 hSw
    try dsimp only at hSw
    go_simp
    try with_reducible rfl
  try simp only [Act.put, List.getElem_toArray, List.getElem_cons_succ, List.getElem_cons_zero, List.setIfInBounds_toArray, List.set_cons_zero, List.set_cons_succ]
  refine wpAnyH_take (i := 6) (v := ?_) rfl (by kernel_rfl) (by kernel_rfl) (by kernel_rfl) (fun _ _ _ h => h) (Or.inl ⟨by kernel_rfl, ?_⟩) (by assumption) ?_
  rotate_left 1
  · intro w9 hSw
    try dsimp only at hSw
    go_simp
    try with_reducible rfl
  try simp only [Act.put, List.getElem_toArray, List.getElem_cons_succ, List.getElem_cons_zero, List.setIfInBounds_toArray, List.set_cons_zero, List.set_cons_succ]
  refine wpAnyH_take (i := 7) (v := ?_) rfl (by kernel_rfl) (by kernel_rfl) (by kernel_rfl) (fun _ _ _ h => h) (Or.inl ⟨by kernel_rfl, ?_⟩) (by assumption) ?_
  rotate_left 1
  · intro w9 hSw
    try dsimp only at hSw
    go_simp
    try with_reducible rfl
  try simp only [Act.put, List.getElem_toArray, List.getElem_cons_succ, List.getElem_cons_zero, List.setIfInBounds_toArray, List.set_cons_zero, List.set_cons_succ]
  refine wpAnyH_ready (rs := [4]) (by kernel_rfl) (by simp) ?_
  refine AllReadyH.cons rfl (fun K hK => ?_) (AllReadyH.nil)
  go_simp
  go_at_call 91
  refine (gExp_any P Q G G s hG0 hG1 hs0 hs1 hP2 hP3 hQ2 hQ3 _).mono ?_
  rw [HL.out]
  rintro e' Wse ⟨rfl, hb⟩
  have HB_se := Lib.hid (bt HB_s.out hb)
  have G_se := Lib.hid (G_s.out.below hb)
  have Z_se := Lib.hid (Z_s.out.below hb)
  clear hb
  go_wp2_with fail
  refine hK.out _ _ (show _ from G_se.out) (fun hHeld => ?_)
  clear hK K
  try simp only [Act.put, List.getElem_toArray, List.getElem_cons_succ, List.getElem_cons_zero, List.setIfInBounds_toArray, List.set_cons_zero, List.set_cons_succ]
  refine wpAnyH_ready (rs := [8]) (by kernel_rfl) (by simp) ?_
  refine AllReadyH.cons rfl (fun K hK => ?_) (AllReadyH.nil)
  go_simp
  go_at_call 105
  refine (sAt_any P Q G i HGD.out hi hi' ad n cap cs HN.out hl HE.out _ Z_se.out).mono ?_
  rw [HR.out]
  rintro e' Wsei ⟨rfl, hb⟩
  have HB_sei := Lib.hid (bt HB_se.out hb)
  have G_sei := Lib.hid (G_se.out.below hb)
  have Z_sei := Lib.hid (Z_se.out.below hb)
  clear hb
  go_wp2_with fail
  refine hK.out _ _ (show _ from G_sei.out) (fun hHeld => ?_)
  clear hK K
  try simp only [Act.put, List.getElem_toArray, List.getElem_cons_succ, List.getElem_cons_zero, List.setIfInBounds_toArray, List.set_cons_zero, List.set_cons_succ]
  refine wpAnyH_take (i := 9) (v := ?_) rfl (by kernel_rfl) (by kernel_rfl) (by kernel_rfl) (fun _ _ _ h => h) (Or.inl ⟨by kernel_rfl, ?_⟩) (by assumption) ?_
  rotate_left 1
  · intro w9 hSw
    try dsimp only at hSw
    go_simp
    try with_reducible rfl
  try simp only [Act.put, List.getElem_toArray, List.getElem_cons_succ, List.getElem_cons_zero, List.setIfInBounds_toArray, List.set_cons_zero, List.set_cons_succ]
  refine wpAnyH_take (i := 10) (v := ?_) rfl (by kernel_rfl) (by kernel_rfl) (by kernel_rfl) (fun _ _ _ h => h) (Or.inl ⟨by kernel_rfl, ?_⟩) (by assumption) ?_
  rotate_left 1
  · intro w9 hSw
    try dsimp only at hSw
    go_simp
    try with_reducible rfl
  try simp only [Act.put, List.getElem_toArray, List.getElem_cons_succ, List.getElem_cons_zero, List.setIfInBounds_toArray, List.set_cons_zero, List.set_cons_succ]
  refine wpAnyH_done (by kernel_rfl) ?_ _
  go_wp2
  go_ret
  exact ⟨rfl, HB_sei.out⟩

/-! ### CommitAt -/
def caB (P Q G : Int) (cs : List Int) (i : Int) : Bool := trB P Q G && (cmsB P Q cs && inB i 0 7)
def caV (P Q G : Int) (cs : List Int) (i : Int) : Int := if caB P Q G cs i then atV P Q cs i else 0
def ckB (P Q G : Int) (cs : List Int) (i s : Int) : Bool := trB P Q G && (cmsB P Q cs && (inB i 1 7 && exB Q s))
def ckV (P Q G : Int) (cs : List Int) (i s : Int) : Bool := ckB P Q G cs i s && fitB P Q G cs i s
theorem isTr_in (i : Int) : isTr i = inB i 1 7 := rfl
theorem trB_of {P Q G : Int} (h : trB P Q G = true) : goodB P Q G = true ∧ Mo P Q ∧ 7 < Q := ⟨(trB_true.1 h).2, good_mo (trB_true.1 h).2, (trB_true.1 h).1⟩
theorem allIn_one (Q s : Int) : allIn [s] 0 (Q - 1) = exB Q s := by simp [allIn, exB]
theorem in_off {i : Int} (h0 : ¬ i = 0) (h : inB i 1 7 = false) : inB i 0 7 = false := inB_false.2 (by have := inB_false.1 h; omega)
theorem in_on {i : Int} (h : inB i 1 7 = true) : inB i 0 7 = true := inB_true.2 (by have := inB_true.1 h; omega)

set_option maxRecDepth 100000 in
set_option maxHeartbeats 3200000 in
theorem commitAtP_any (P Q G i : Int) (ad : Option Addr) (cap : Nat) (cs : List Int) (hl : cs.length ≤ 1000000000000) {w : World} (hz : IsInts w ad cs) :
    Calls Try.prog 22 #[gv P Q G, .slice ad cs.length cap, .int .i64 i] w fun e w' => e = .returned (.tuple #[.int .i64 (caV P Q G cs i), .bool (caB P Q G cs i)]) ∧ Below w.heap.size w w' := by
  have G_0 := Lib.hid (gr_atS w (w.heap.size) (by simp) P Q G 24)
  have HB_0 := Lib.hid (show Below w.heap.size w (w.alloc (.cells #[.int .i64 P, .int .i64 Q, .int .i64 G] 24)) from ba _ _)
  have Z_0 := Lib.hid (LZ.below hz HB_0.out)
  clear hz
  by_cases hi0 : i = 0
  · subst hi0
    have hn0 : ((0 : Int) != 0) = false := by decide
    cases h0 : trB P Q G
    · have K0 := Lib.hid (show trB P Q G = false from h0)
      have E1 := Lib.hid (show caB P Q G cs 0 = false by simp [caB, h0])
      have E2 := Lib.hid (show caV P Q G cs 0 = 0 by simp [caV, E1.out])
      rw [E1.out, E2.out]
      clear h0
      obtain ⟨gG0, gG1, gG2⟩ := G_0.out
      go_enter Try.func22, Try.ntmps22
      go_wp2_with fail
      refine (hasTrustees_any P Q G _).mono ?_
      rw [K0.out]
      rintro e v1 ⟨rfl, hb⟩
      have HB_1 := Lib.hid (bt HB_0.out hb)
      have G_1 := Lib.hid (G_0.out.below hb)
      have Z_1 := Lib.hid (Z_0.out.below hb)
      clear hb gG0 gG1 gG2
      obtain ⟨gG0, gG1, gG2⟩ := G_1.out
      go_wp2
      go_ret2
      exact ⟨rfl, HB_1.out⟩
    have K0 := Lib.hid (show trB P Q G = true from h0)
    obtain ⟨hgd, hmo, h7⟩ := trB_of h0
    cases h1 : cmsB P Q cs
    · have K1 := Lib.hid (show cmsB P Q cs = false from h1)
      have E1 := Lib.hid (show caB P Q G cs 0 = false by simp [caB, h0, h1])
      have E2 := Lib.hid (show caV P Q G cs 0 = 0 by simp [caV, E1.out])
      rw [E1.out, E2.out]
      clear h0 h1
      obtain ⟨gG0, gG1, gG2⟩ := G_0.out
      go_enter Try.func22, Try.ntmps22
      go_wp2_with fail
      refine (hasTrustees_any P Q G _).mono ?_
      rw [K0.out]
      rintro e v1 ⟨rfl, hb⟩
      have HB_1 := Lib.hid (bt HB_0.out hb)
      have G_1 := Lib.hid (G_0.out.below hb)
      have Z_1 := Lib.hid (Z_0.out.below hb)
      clear hb gG0 gG1 gG2
      obtain ⟨gG0, gG1, gG2⟩ := G_1.out
      go_wp2_with fail
      refine (areCommits_any P Q G hmo ad cs.length cap cs rfl (by omega) _ Z_1.out).mono ?_
      rw [K1.out]
      rintro e v2 ⟨rfl, hb⟩
      have HB_2 := Lib.hid (bt HB_1.out hb)
      have G_2 := Lib.hid (G_1.out.below hb)
      have Z_2 := Lib.hid (Z_1.out.below hb)
      clear hb gG0 gG1 gG2
      obtain ⟨gG0, gG1, gG2⟩ := G_2.out
      go_wp2
      go_ret2
      exact ⟨rfl, HB_2.out⟩
    have K1 := Lib.hid (show cmsB P Q cs = true from h1)
    obtain ⟨hc1, hc7, hce⟩ := cmsB_true.1 h1
    have E1 := Lib.hid (show caB P Q G cs 0 = true by simp [caB, h0, h1, inB])
    have E2 := Lib.hid (show caV P Q G cs 0 = atV P Q cs 0 by simp [caV, E1.out])
    rw [E1.out, E2.out]
    have HGD := Lib.hid hgd
    have HCE := Lib.hid hce
    have hi9 : (0 : Int) ≤ 0 ∧ 0 ≤ (7 : Int) := by first | omega | exact inB_true.1 (by assumption)
    clear h0 h1 hgd hce
    obtain ⟨gG0, gG1, gG2⟩ := G_0.out
    go_enter Try.func22, Try.ntmps22
    go_wp2_with fail
    refine (hasTrustees_any P Q G _).mono ?_
    rw [K0.out]
    rintro e v1 ⟨rfl, hb⟩
    have HB_1 := Lib.hid (bt HB_0.out hb)
    have G_1 := Lib.hid (G_0.out.below hb)
    have Z_1 := Lib.hid (Z_0.out.below hb)
    clear hb gG0 gG1 gG2
    obtain ⟨gG0, gG1, gG2⟩ := G_1.out
    go_wp2_with fail
    refine (areCommits_any P Q G hmo ad cs.length cap cs rfl (by omega) _ Z_1.out).mono ?_
    rw [K1.out]
    rintro e v2 ⟨rfl, hb⟩
    have HB_2 := Lib.hid (bt HB_1.out hb)
    have G_2 := Lib.hid (G_1.out.below hb)
    have Z_2 := Lib.hid (Z_1.out.below hb)
    clear hb gG0 gG1 gG2
    obtain ⟨gG0, gG1, gG2⟩ := G_2.out
    go_wp2_with fail
    refine (commitAt_any P Q G 0 HGD.out hi9.1 hi9.2 ad cs.length cap cs rfl (by omega) HCE.out _ Z_2.out).mono ?_
    rintro e' v9 ⟨rfl, hb9⟩
    have HB_9 := Lib.hid (bt HB_2.out hb9)
    clear hb9
    go_wp2
    go_ret2
    exact ⟨rfl, HB_9.out⟩
  have hn0 : (i != 0) = true := by simpa using hi0
  cases h0 : trB P Q G
  · have K0 := Lib.hid (show trB P Q G = false from h0)
    have E1 := Lib.hid (show caB P Q G cs i = false by simp [caB, h0])
    have E2 := Lib.hid (show caV P Q G cs i = 0 by simp [caV, E1.out])
    rw [E1.out, E2.out]
    clear h0
    obtain ⟨gG0, gG1, gG2⟩ := G_0.out
    go_enter Try.func22, Try.ntmps22
    go_wp2_with fail
    refine (hasTrustees_any P Q G _).mono ?_
    rw [K0.out]
    rintro e v1 ⟨rfl, hb⟩
    have HB_1 := Lib.hid (bt HB_0.out hb)
    have G_1 := Lib.hid (G_0.out.below hb)
    have Z_1 := Lib.hid (Z_0.out.below hb)
    clear hb gG0 gG1 gG2
    obtain ⟨gG0, gG1, gG2⟩ := G_1.out
    go_wp2
    go_ret2
    exact ⟨rfl, HB_1.out⟩
  have K0 := Lib.hid (show trB P Q G = true from h0)
  obtain ⟨hgd, hmo, h7⟩ := trB_of h0
  cases h1 : cmsB P Q cs
  · have K1 := Lib.hid (show cmsB P Q cs = false from h1)
    have E1 := Lib.hid (show caB P Q G cs i = false by simp [caB, h0, h1])
    have E2 := Lib.hid (show caV P Q G cs i = 0 by simp [caV, E1.out])
    rw [E1.out, E2.out]
    clear h0 h1
    obtain ⟨gG0, gG1, gG2⟩ := G_0.out
    go_enter Try.func22, Try.ntmps22
    go_wp2_with fail
    refine (hasTrustees_any P Q G _).mono ?_
    rw [K0.out]
    rintro e v1 ⟨rfl, hb⟩
    have HB_1 := Lib.hid (bt HB_0.out hb)
    have G_1 := Lib.hid (G_0.out.below hb)
    have Z_1 := Lib.hid (Z_0.out.below hb)
    clear hb gG0 gG1 gG2
    obtain ⟨gG0, gG1, gG2⟩ := G_1.out
    go_wp2_with fail
    refine (areCommits_any P Q G hmo ad cs.length cap cs rfl (by omega) _ Z_1.out).mono ?_
    rw [K1.out]
    rintro e v2 ⟨rfl, hb⟩
    have HB_2 := Lib.hid (bt HB_1.out hb)
    have G_2 := Lib.hid (G_1.out.below hb)
    have Z_2 := Lib.hid (Z_1.out.below hb)
    clear hb gG0 gG1 gG2
    obtain ⟨gG0, gG1, gG2⟩ := G_2.out
    go_wp2
    go_ret2
    exact ⟨rfl, HB_2.out⟩
  have K1 := Lib.hid (show cmsB P Q cs = true from h1)
  obtain ⟨hc1, hc7, hce⟩ := cmsB_true.1 h1
  cases h2 : inB i 1 7
  · have K2 := Lib.hid (show isTr i = false from h2)
    have E1 := Lib.hid (show caB P Q G cs i = false by simp [caB, h0, h1, in_off hi0 h2])
    have E2 := Lib.hid (show caV P Q G cs i = 0 by simp [caV, E1.out])
    rw [E1.out, E2.out]
    clear h0 h1 h2
    obtain ⟨gG0, gG1, gG2⟩ := G_0.out
    go_enter Try.func22, Try.ntmps22
    go_wp2_with fail
    refine (hasTrustees_any P Q G _).mono ?_
    rw [K0.out]
    rintro e v1 ⟨rfl, hb⟩
    have HB_1 := Lib.hid (bt HB_0.out hb)
    have G_1 := Lib.hid (G_0.out.below hb)
    have Z_1 := Lib.hid (Z_0.out.below hb)
    clear hb gG0 gG1 gG2
    obtain ⟨gG0, gG1, gG2⟩ := G_1.out
    go_wp2_with fail
    refine (areCommits_any P Q G hmo ad cs.length cap cs rfl (by omega) _ Z_1.out).mono ?_
    rw [K1.out]
    rintro e v2 ⟨rfl, hb⟩
    have HB_2 := Lib.hid (bt HB_1.out hb)
    have G_2 := Lib.hid (G_1.out.below hb)
    have Z_2 := Lib.hid (Z_1.out.below hb)
    clear hb gG0 gG1 gG2
    obtain ⟨gG0, gG1, gG2⟩ := G_2.out
    go_wp2_with fail
    refine (isTrustee_any i _).mono ?_
    rw [K2.out]
    rintro e w' ⟨rfl, rfl⟩
    go_wp2
    go_ret2
    exact ⟨rfl, HB_2.out⟩
  have K2 := Lib.hid (show isTr i = true from h2)
  have hi17 := inB_true.1 h2
  have E1 := Lib.hid (show caB P Q G cs i = true by simp [caB, h0, h1, in_on h2])
  have E2 := Lib.hid (show caV P Q G cs i = atV P Q cs i by simp [caV, E1.out])
  rw [E1.out, E2.out]
  have HGD := Lib.hid hgd
  have HCE := Lib.hid hce
  have hi9 : (0 : Int) ≤ i ∧ i ≤ (7 : Int) := by first | omega | exact inB_true.1 (by assumption)
  clear h0 h1 h2 hgd hce
  obtain ⟨gG0, gG1, gG2⟩ := G_0.out
  go_enter Try.func22, Try.ntmps22
  go_wp2_with fail
  refine (hasTrustees_any P Q G _).mono ?_
  rw [K0.out]
  rintro e v1 ⟨rfl, hb⟩
  have HB_1 := Lib.hid (bt HB_0.out hb)
  have G_1 := Lib.hid (G_0.out.below hb)
  have Z_1 := Lib.hid (Z_0.out.below hb)
  clear hb gG0 gG1 gG2
  obtain ⟨gG0, gG1, gG2⟩ := G_1.out
  go_wp2_with fail
  refine (areCommits_any P Q G hmo ad cs.length cap cs rfl (by omega) _ Z_1.out).mono ?_
  rw [K1.out]
  rintro e v2 ⟨rfl, hb⟩
  have HB_2 := Lib.hid (bt HB_1.out hb)
  have G_2 := Lib.hid (G_1.out.below hb)
  have Z_2 := Lib.hid (Z_1.out.below hb)
  clear hb gG0 gG1 gG2
  obtain ⟨gG0, gG1, gG2⟩ := G_2.out
  go_wp2_with fail
  refine (isTrustee_any i _).mono ?_
  rw [K2.out]
  rintro e w' ⟨rfl, rfl⟩
  go_wp2_with fail
  refine (commitAt_any P Q G i HGD.out hi9.1 hi9.2 ad cs.length cap cs rfl (by omega) HCE.out _ Z_2.out).mono ?_
  rintro e' v9 ⟨rfl, hb9⟩
  have HB_9 := Lib.hid (bt HB_2.out hb9)
  clear hb9
  go_wp2
  go_ret2
  exact ⟨rfl, HB_9.out⟩

set_option maxRecDepth 100000 in
set_option maxHeartbeats 3200000 in
theorem sCommitAt_any (P Q G i : Int) (ad : Option Addr) (cap : Nat) (cs : List Int) (hl : cs.length ≤ 1000000000000) {w : World} (hz : IsInts w ad cs) :
    Calls Try.prog 46 #[gv P Q G, .slice ad cs.length cap, .int .i64 i] w fun e w' => e = .returned (.tuple #[.int .i64 (caV P Q G cs i), .bool (caB P Q G cs i)]) ∧ Below w.heap.size w w' := by
  have G_0 := Lib.hid (gr_atS w (w.heap.size) (by simp) P Q G 24)
  have HB_0 := Lib.hid (show Below w.heap.size w (w.alloc (.cells #[.int .i64 P, .int .i64 Q, .int .i64 G] 24)) from ba _ _)
  have Z_0 := Lib.hid (LZ.below hz HB_0.out)
  clear hz
  cases h0 : trB P Q G
  · have K0 := Lib.hid (show trB P Q G = false from h0)
    have E1 := Lib.hid (show caB P Q G cs i = false by simp [caB, h0])
    have E2 := Lib.hid (show caV P Q G cs i = 0 by simp [caV, E1.out])
    rw [E1.out, E2.out]
    clear h0
    obtain ⟨gG0, gG1, gG2⟩ := G_0.out
    go_enter Try.func46, Try.ntmps46
    go_wp2_with fail
    refine (sGroup_any P Q G _).mono ?_
    rw [K0.out]
    rintro e v1 ⟨rfl, hb⟩
    have HB_1 := Lib.hid (bt HB_0.out hb)
    have G_1 := Lib.hid (G_0.out.below hb)
    have Z_1 := Lib.hid (Z_0.out.below hb)
    clear hb gG0 gG1 gG2
    obtain ⟨gG0, gG1, gG2⟩ := G_1.out
    go_wp2
    go_ret2
    exact ⟨rfl, HB_1.out⟩
  have K0 := Lib.hid (show trB P Q G = true from h0)
  obtain ⟨hgd, hmo, h7⟩ := trB_of h0
  cases h1 : cmsB P Q cs
  · have K1 := Lib.hid (show cmsB P Q cs = false from h1)
    have E1 := Lib.hid (show caB P Q G cs i = false by simp [caB, h0, h1])
    have E2 := Lib.hid (show caV P Q G cs i = 0 by simp [caV, E1.out])
    rw [E1.out, E2.out]
    clear h0 h1
    obtain ⟨gG0, gG1, gG2⟩ := G_0.out
    go_enter Try.func46, Try.ntmps46
    go_wp2_with fail
    refine (sGroup_any P Q G _).mono ?_
    rw [K0.out]
    rintro e v1 ⟨rfl, hb⟩
    have HB_1 := Lib.hid (bt HB_0.out hb)
    have G_1 := Lib.hid (G_0.out.below hb)
    have Z_1 := Lib.hid (Z_0.out.below hb)
    clear hb gG0 gG1 gG2
    obtain ⟨gG0, gG1, gG2⟩ := G_1.out
    go_wp2_with fail
    refine (sCommits_any P Q G hmo ad cs.length cap cs rfl (by omega) _ Z_1.out).mono ?_
    rw [K1.out]
    rintro e v2 ⟨rfl, hb⟩
    have HB_2 := Lib.hid (bt HB_1.out hb)
    have G_2 := Lib.hid (G_1.out.below hb)
    have Z_2 := Lib.hid (Z_1.out.below hb)
    clear hb gG0 gG1 gG2
    obtain ⟨gG0, gG1, gG2⟩ := G_2.out
    go_wp2
    go_ret2
    exact ⟨rfl, HB_2.out⟩
  have K1 := Lib.hid (show cmsB P Q cs = true from h1)
  obtain ⟨hc1, hc7, hce⟩ := cmsB_true.1 h1
  cases h2 : inB i 0 7
  · have K2 := Lib.hid (show inB i 0 7 = false from h2)
    have E1 := Lib.hid (show caB P Q G cs i = false by simp [caB, h0, h1, h2])
    have E2 := Lib.hid (show caV P Q G cs i = 0 by simp [caV, E1.out])
    rw [E1.out, E2.out]
    clear h0 h1 h2
    obtain ⟨gG0, gG1, gG2⟩ := G_0.out
    go_enter Try.func46, Try.ntmps46
    go_wp2_with fail
    refine (sGroup_any P Q G _).mono ?_
    rw [K0.out]
    rintro e v1 ⟨rfl, hb⟩
    have HB_1 := Lib.hid (bt HB_0.out hb)
    have G_1 := Lib.hid (G_0.out.below hb)
    have Z_1 := Lib.hid (Z_0.out.below hb)
    clear hb gG0 gG1 gG2
    obtain ⟨gG0, gG1, gG2⟩ := G_1.out
    go_wp2_with fail
    refine (sCommits_any P Q G hmo ad cs.length cap cs rfl (by omega) _ Z_1.out).mono ?_
    rw [K1.out]
    rintro e v2 ⟨rfl, hb⟩
    have HB_2 := Lib.hid (bt HB_1.out hb)
    have G_2 := Lib.hid (G_1.out.below hb)
    have Z_2 := Lib.hid (Z_1.out.below hb)
    clear hb gG0 gG1 gG2
    obtain ⟨gG0, gG1, gG2⟩ := G_2.out
    go_wp2_with fail
    refine (l1In_any _ _ _ _).mono ?_
    rw [K2.out]
    rintro e w' ⟨rfl, rfl⟩
    go_wp2
    go_ret2
    exact ⟨rfl, HB_2.out⟩
  have K2 := Lib.hid (show inB i 0 7 = true from h2)
  have E1 := Lib.hid (show caB P Q G cs i = true by simp [caB, h0, h1, h2])
  have E2 := Lib.hid (show caV P Q G cs i = atV P Q cs i by simp [caV, E1.out])
  rw [E1.out, E2.out]
  have HGD := Lib.hid hgd
  have HCE := Lib.hid hce
  have hi9 : (0 : Int) ≤ i ∧ i ≤ (7 : Int) := by first | omega | exact inB_true.1 (by assumption)
  clear h0 h1 h2 hgd hce
  obtain ⟨gG0, gG1, gG2⟩ := G_0.out
  go_enter Try.func46, Try.ntmps46
  go_wp2_with fail
  refine (sGroup_any P Q G _).mono ?_
  rw [K0.out]
  rintro e v1 ⟨rfl, hb⟩
  have HB_1 := Lib.hid (bt HB_0.out hb)
  have G_1 := Lib.hid (G_0.out.below hb)
  have Z_1 := Lib.hid (Z_0.out.below hb)
  clear hb gG0 gG1 gG2
  obtain ⟨gG0, gG1, gG2⟩ := G_1.out
  go_wp2_with fail
  refine (sCommits_any P Q G hmo ad cs.length cap cs rfl (by omega) _ Z_1.out).mono ?_
  rw [K1.out]
  rintro e v2 ⟨rfl, hb⟩
  have HB_2 := Lib.hid (bt HB_1.out hb)
  have G_2 := Lib.hid (G_1.out.below hb)
  have Z_2 := Lib.hid (Z_1.out.below hb)
  clear hb gG0 gG1 gG2
  obtain ⟨gG0, gG1, gG2⟩ := G_2.out
  go_wp2_with fail
  refine (l1In_any _ _ _ _).mono ?_
  rw [K2.out]
  rintro e w' ⟨rfl, rfl⟩
  go_wp2_with fail
  refine (sAt_any P Q G i HGD.out hi9.1 hi9.2 ad cs.length cap cs rfl (by omega) HCE.out _ Z_2.out).mono ?_
  rintro e' v9 ⟨rfl, hb9⟩
  have HB_9 := Lib.hid (bt HB_2.out hb9)
  clear hb9
  go_wp2
  go_ret2
  exact ⟨rfl, HB_9.out⟩

set_option maxRecDepth 100000 in
set_option maxHeartbeats 3200000 in
theorem checkShare_any (P Q G i s : Int) (ad : Option Addr) (cap : Nat) (cs : List Int) (hl : cs.length ≤ 1000000000000) {w : World} (hz : IsInts w ad cs) :
    Calls Try.prog 15 #[gv P Q G, .slice ad cs.length cap, .int .i64 i, .int .i64 s] w fun e w' => e = .returned (.tuple #[.bool (ckV P Q G cs i s), .bool (ckB P Q G cs i s)]) ∧ Below w.heap.size w w' := by
  have G_0 := Lib.hid (gr_atS w (w.heap.size) (by simp) P Q G 24)
  have HB_0 := Lib.hid (show Below w.heap.size w (w.alloc (.cells #[.int .i64 P, .int .i64 Q, .int .i64 G] 24)) from ba _ _)
  have Z_0 := Lib.hid (LZ.below hz HB_0.out)
  clear hz
  cases h0 : trB P Q G
  · have K0 := Lib.hid (show trB P Q G = false from h0)
    have E1 := Lib.hid (show ckB P Q G cs i s = false by simp [ckB, h0])
    have E2 := Lib.hid (show ckV P Q G cs i s = false by simp [ckV, E1.out])
    rw [E1.out, E2.out]
    clear h0
    obtain ⟨gG0, gG1, gG2⟩ := G_0.out
    go_enter Try.func15, Try.ntmps15
    go_wp2_with fail
    refine (hasTrustees_any P Q G _).mono ?_
    rw [K0.out]
    rintro e v1 ⟨rfl, hb⟩
    have HB_1 := Lib.hid (bt HB_0.out hb)
    have G_1 := Lib.hid (G_0.out.below hb)
    have Z_1 := Lib.hid (Z_0.out.below hb)
    clear hb gG0 gG1 gG2
    obtain ⟨gG0, gG1, gG2⟩ := G_1.out
    go_wp2
    go_ret2
    exact ⟨rfl, HB_1.out⟩
  have K0 := Lib.hid (show trB P Q G = true from h0)
  obtain ⟨hgd, hmo, h7⟩ := trB_of h0
  cases h1 : cmsB P Q cs
  · have K1 := Lib.hid (show cmsB P Q cs = false from h1)
    have E1 := Lib.hid (show ckB P Q G cs i s = false by simp [ckB, h0, h1])
    have E2 := Lib.hid (show ckV P Q G cs i s = false by simp [ckV, E1.out])
    rw [E1.out, E2.out]
    clear h0 h1
    obtain ⟨gG0, gG1, gG2⟩ := G_0.out
    go_enter Try.func15, Try.ntmps15
    go_wp2_with fail
    refine (hasTrustees_any P Q G _).mono ?_
    rw [K0.out]
    rintro e v1 ⟨rfl, hb⟩
    have HB_1 := Lib.hid (bt HB_0.out hb)
    have G_1 := Lib.hid (G_0.out.below hb)
    have Z_1 := Lib.hid (Z_0.out.below hb)
    clear hb gG0 gG1 gG2
    obtain ⟨gG0, gG1, gG2⟩ := G_1.out
    go_wp2_with fail
    refine (areCommits_any P Q G hmo ad cs.length cap cs rfl (by omega) _ Z_1.out).mono ?_
    rw [K1.out]
    rintro e v2 ⟨rfl, hb⟩
    have HB_2 := Lib.hid (bt HB_1.out hb)
    have G_2 := Lib.hid (G_1.out.below hb)
    have Z_2 := Lib.hid (Z_1.out.below hb)
    clear hb gG0 gG1 gG2
    obtain ⟨gG0, gG1, gG2⟩ := G_2.out
    go_wp2
    go_ret2
    exact ⟨rfl, HB_2.out⟩
  have K1 := Lib.hid (show cmsB P Q cs = true from h1)
  obtain ⟨hc1, hc7, hce⟩ := cmsB_true.1 h1
  cases h2 : inB i 1 7
  · have K2 := Lib.hid (show isTr i = false from h2)
    have E1 := Lib.hid (show ckB P Q G cs i s = false by simp [ckB, h0, h1, h2])
    have E2 := Lib.hid (show ckV P Q G cs i s = false by simp [ckV, E1.out])
    rw [E1.out, E2.out]
    clear h0 h1 h2
    obtain ⟨gG0, gG1, gG2⟩ := G_0.out
    go_enter Try.func15, Try.ntmps15
    go_wp2_with fail
    refine (hasTrustees_any P Q G _).mono ?_
    rw [K0.out]
    rintro e v1 ⟨rfl, hb⟩
    have HB_1 := Lib.hid (bt HB_0.out hb)
    have G_1 := Lib.hid (G_0.out.below hb)
    have Z_1 := Lib.hid (Z_0.out.below hb)
    clear hb gG0 gG1 gG2
    obtain ⟨gG0, gG1, gG2⟩ := G_1.out
    go_wp2_with fail
    refine (areCommits_any P Q G hmo ad cs.length cap cs rfl (by omega) _ Z_1.out).mono ?_
    rw [K1.out]
    rintro e v2 ⟨rfl, hb⟩
    have HB_2 := Lib.hid (bt HB_1.out hb)
    have G_2 := Lib.hid (G_1.out.below hb)
    have Z_2 := Lib.hid (Z_1.out.below hb)
    clear hb gG0 gG1 gG2
    obtain ⟨gG0, gG1, gG2⟩ := G_2.out
    go_wp2_with fail
    refine (isTrustee_any i _).mono ?_
    rw [K2.out]
    rintro e w' ⟨rfl, rfl⟩
    go_wp2
    go_ret2
    exact ⟨rfl, HB_2.out⟩
  have K2 := Lib.hid (show isTr i = true from h2)
  cases h3 : exB Q s
  · have K3 := Lib.hid (show exB Q s = false from h3)
    have E1 := Lib.hid (show ckB P Q G cs i s = false by simp [ckB, h0, h1, h2, h3])
    have E2 := Lib.hid (show ckV P Q G cs i s = false by simp [ckV, E1.out])
    rw [E1.out, E2.out]
    clear h0 h1 h2 h3
    obtain ⟨gG0, gG1, gG2⟩ := G_0.out
    go_enter Try.func15, Try.ntmps15
    go_wp2_with fail
    refine (hasTrustees_any P Q G _).mono ?_
    rw [K0.out]
    rintro e v1 ⟨rfl, hb⟩
    have HB_1 := Lib.hid (bt HB_0.out hb)
    have G_1 := Lib.hid (G_0.out.below hb)
    have Z_1 := Lib.hid (Z_0.out.below hb)
    clear hb gG0 gG1 gG2
    obtain ⟨gG0, gG1, gG2⟩ := G_1.out
    go_wp2_with fail
    refine (areCommits_any P Q G hmo ad cs.length cap cs rfl (by omega) _ Z_1.out).mono ?_
    rw [K1.out]
    rintro e v2 ⟨rfl, hb⟩
    have HB_2 := Lib.hid (bt HB_1.out hb)
    have G_2 := Lib.hid (G_1.out.below hb)
    have Z_2 := Lib.hid (Z_1.out.below hb)
    clear hb gG0 gG1 gG2
    obtain ⟨gG0, gG1, gG2⟩ := G_2.out
    go_wp2_with fail
    refine (isTrustee_any i _).mono ?_
    rw [K2.out]
    rintro e w' ⟨rfl, rfl⟩
    go_wp2_with fail
    refine (hasExponent_any P Q G s _).mono ?_
    rw [K3.out]
    rintro e v3 ⟨rfl, hb⟩
    have HB_3 := Lib.hid (bt HB_2.out hb)
    have G_3 := Lib.hid (G_2.out.below hb)
    have Z_3 := Lib.hid (Z_2.out.below hb)
    clear hb gG0 gG1 gG2
    obtain ⟨gG0, gG1, gG2⟩ := G_3.out
    go_wp2
    go_ret2
    exact ⟨rfl, HB_3.out⟩
  have K3 := Lib.hid (show exB Q s = true from h3)
  have E1 := Lib.hid (show ckB P Q G cs i s = true by simp [ckB, h0, h1, h2, h3])
  have E2 := Lib.hid (show ckV P Q G cs i s = fitB P Q G cs i s by simp [ckV, E1.out])
  rw [E1.out, E2.out]
  have HGD := Lib.hid hgd
  have HCE := Lib.hid hce
  have hi9 := inB_true.1 h2
  have hs9 := exB_true.1 h3
  clear h0 h1 h2 h3 hgd hce
  obtain ⟨gG0, gG1, gG2⟩ := G_0.out
  go_enter Try.func15, Try.ntmps15
  go_wp2_with fail
  refine (hasTrustees_any P Q G _).mono ?_
  rw [K0.out]
  rintro e v1 ⟨rfl, hb⟩
  have HB_1 := Lib.hid (bt HB_0.out hb)
  have G_1 := Lib.hid (G_0.out.below hb)
  have Z_1 := Lib.hid (Z_0.out.below hb)
  clear hb gG0 gG1 gG2
  obtain ⟨gG0, gG1, gG2⟩ := G_1.out
  go_wp2_with fail
  refine (areCommits_any P Q G hmo ad cs.length cap cs rfl (by omega) _ Z_1.out).mono ?_
  rw [K1.out]
  rintro e v2 ⟨rfl, hb⟩
  have HB_2 := Lib.hid (bt HB_1.out hb)
  have G_2 := Lib.hid (G_1.out.below hb)
  have Z_2 := Lib.hid (Z_1.out.below hb)
  clear hb gG0 gG1 gG2
  obtain ⟨gG0, gG1, gG2⟩ := G_2.out
  go_wp2_with fail
  refine (isTrustee_any i _).mono ?_
  rw [K2.out]
  rintro e w' ⟨rfl, rfl⟩
  go_wp2_with fail
  refine (hasExponent_any P Q G s _).mono ?_
  rw [K3.out]
  rintro e v3 ⟨rfl, hb⟩
  have HB_3 := Lib.hid (bt HB_2.out hb)
  have G_3 := Lib.hid (G_2.out.below hb)
  have Z_3 := Lib.hid (Z_2.out.below hb)
  clear hb gG0 gG1 gG2
  obtain ⟨gG0, gG1, gG2⟩ := G_3.out
  go_wp2_with fail
  refine (isShare_any P Q G i s HGD.out (by omega) hi9.2 hs9 ad cs.length cap cs rfl (by omega) HCE.out _ Z_3.out).mono ?_
  rintro e' v9 ⟨rfl, hb9⟩
  have HB_9 := Lib.hid (bt HB_3.out hb9)
  clear hb9
  go_wp2
  go_ret2
  exact ⟨rfl, HB_9.out⟩

set_option maxRecDepth 100000 in
set_option maxHeartbeats 3200000 in
theorem sCheckShare_any (P Q G i s : Int) (ad : Option Addr) (cap : Nat) (cs : List Int) (hl : cs.length ≤ 1000000000000) {w : World} (hz : IsInts w ad cs) :
    Calls Try.prog 16 #[gv P Q G, .slice ad cs.length cap, .int .i64 i, .int .i64 s] w fun e w' => e = .returned (.tuple #[.bool (ckV P Q G cs i s), .bool (ckB P Q G cs i s)]) ∧ Below w.heap.size w w' := by
  have G_0 := Lib.hid (gr_atS w (w.heap.size) (by simp) P Q G 24)
  have HB_0 := Lib.hid (show Below w.heap.size w (w.alloc (.cells #[.int .i64 P, .int .i64 Q, .int .i64 G] 24)) from ba _ _)
  have Z_0 := Lib.hid (LZ.below hz HB_0.out)
  clear hz
  cases h0 : trB P Q G
  · have K0 := Lib.hid (show trB P Q G = false from h0)
    have E1 := Lib.hid (show ckB P Q G cs i s = false by simp [ckB, h0])
    have E2 := Lib.hid (show ckV P Q G cs i s = false by simp [ckV, E1.out])
    rw [E1.out, E2.out]
    clear h0
    obtain ⟨gG0, gG1, gG2⟩ := G_0.out
    go_enter Try.func16, Try.ntmps16
    go_wp2_with fail
    refine (sGroup_any P Q G _).mono ?_
    rw [K0.out]
    rintro e v1 ⟨rfl, hb⟩
    have HB_1 := Lib.hid (bt HB_0.out hb)
    have G_1 := Lib.hid (G_0.out.below hb)
    have Z_1 := Lib.hid (Z_0.out.below hb)
    clear hb gG0 gG1 gG2
    obtain ⟨gG0, gG1, gG2⟩ := G_1.out
    go_wp2
    go_ret2
    exact ⟨rfl, HB_1.out⟩
  have K0 := Lib.hid (show trB P Q G = true from h0)
  obtain ⟨hgd, hmo, h7⟩ := trB_of h0
  cases h1 : cmsB P Q cs
  · have K1 := Lib.hid (show cmsB P Q cs = false from h1)
    have E1 := Lib.hid (show ckB P Q G cs i s = false by simp [ckB, h0, h1])
    have E2 := Lib.hid (show ckV P Q G cs i s = false by simp [ckV, E1.out])
    rw [E1.out, E2.out]
    clear h0 h1
    obtain ⟨gG0, gG1, gG2⟩ := G_0.out
    go_enter Try.func16, Try.ntmps16
    go_wp2_with fail
    refine (sGroup_any P Q G _).mono ?_
    rw [K0.out]
    rintro e v1 ⟨rfl, hb⟩
    have HB_1 := Lib.hid (bt HB_0.out hb)
    have G_1 := Lib.hid (G_0.out.below hb)
    have Z_1 := Lib.hid (Z_0.out.below hb)
    clear hb gG0 gG1 gG2
    obtain ⟨gG0, gG1, gG2⟩ := G_1.out
    go_wp2_with fail
    refine (sCommits_any P Q G hmo ad cs.length cap cs rfl (by omega) _ Z_1.out).mono ?_
    rw [K1.out]
    rintro e v2 ⟨rfl, hb⟩
    have HB_2 := Lib.hid (bt HB_1.out hb)
    have G_2 := Lib.hid (G_1.out.below hb)
    have Z_2 := Lib.hid (Z_1.out.below hb)
    clear hb gG0 gG1 gG2
    obtain ⟨gG0, gG1, gG2⟩ := G_2.out
    go_wp2
    go_ret2
    exact ⟨rfl, HB_2.out⟩
  have K1 := Lib.hid (show cmsB P Q cs = true from h1)
  obtain ⟨hc1, hc7, hce⟩ := cmsB_true.1 h1
  cases h2 : inB i 1 7
  · have K2 := Lib.hid (show inB i 1 7 = false from h2)
    have E1 := Lib.hid (show ckB P Q G cs i s = false by simp [ckB, h0, h1, h2])
    have E2 := Lib.hid (show ckV P Q G cs i s = false by simp [ckV, E1.out])
    rw [E1.out, E2.out]
    clear h0 h1 h2
    obtain ⟨gG0, gG1, gG2⟩ := G_0.out
    go_enter Try.func16, Try.ntmps16
    go_wp2_with fail
    refine (sGroup_any P Q G _).mono ?_
    rw [K0.out]
    rintro e v1 ⟨rfl, hb⟩
    have HB_1 := Lib.hid (bt HB_0.out hb)
    have G_1 := Lib.hid (G_0.out.below hb)
    have Z_1 := Lib.hid (Z_0.out.below hb)
    clear hb gG0 gG1 gG2
    obtain ⟨gG0, gG1, gG2⟩ := G_1.out
    go_wp2_with fail
    refine (sCommits_any P Q G hmo ad cs.length cap cs rfl (by omega) _ Z_1.out).mono ?_
    rw [K1.out]
    rintro e v2 ⟨rfl, hb⟩
    have HB_2 := Lib.hid (bt HB_1.out hb)
    have G_2 := Lib.hid (G_1.out.below hb)
    have Z_2 := Lib.hid (Z_1.out.below hb)
    clear hb gG0 gG1 gG2
    obtain ⟨gG0, gG1, gG2⟩ := G_2.out
    go_wp2_with fail
    refine (l1In_any _ _ _ _).mono ?_
    rw [K2.out]
    rintro e w' ⟨rfl, rfl⟩
    go_wp2
    go_ret2
    exact ⟨rfl, HB_2.out⟩
  have K2 := Lib.hid (show inB i 1 7 = true from h2)
  cases h3 : exB Q s
  · have K3 := Lib.hid (show allIn [s] 0 (Q - 1) = false from (allIn_one Q s).trans h3)
    have E1 := Lib.hid (show ckB P Q G cs i s = false by simp [ckB, h0, h1, h2, h3])
    have E2 := Lib.hid (show ckV P Q G cs i s = false by simp [ckV, E1.out])
    rw [E1.out, E2.out]
    clear h0 h1 h2 h3
    obtain ⟨gG0, gG1, gG2⟩ := G_0.out
    go_enter Try.func16, Try.ntmps16
    go_wp2_with fail
    refine (sGroup_any P Q G _).mono ?_
    rw [K0.out]
    rintro e v1 ⟨rfl, hb⟩
    have HB_1 := Lib.hid (bt HB_0.out hb)
    have G_1 := Lib.hid (G_0.out.below hb)
    have Z_1 := Lib.hid (Z_0.out.below hb)
    clear hb gG0 gG1 gG2
    obtain ⟨gG0, gG1, gG2⟩ := G_1.out
    go_wp2_with fail
    refine (sCommits_any P Q G hmo ad cs.length cap cs rfl (by omega) _ Z_1.out).mono ?_
    rw [K1.out]
    rintro e v2 ⟨rfl, hb⟩
    have HB_2 := Lib.hid (bt HB_1.out hb)
    have G_2 := Lib.hid (G_1.out.below hb)
    have Z_2 := Lib.hid (Z_1.out.below hb)
    clear hb gG0 gG1 gG2
    obtain ⟨gG0, gG1, gG2⟩ := G_2.out
    go_wp2_with fail
    refine (l1In_any _ _ _ _).mono ?_
    rw [K2.out]
    rintro e w' ⟨rfl, rfl⟩
    go_wp2_with fail
    refine (gExps_any P Q G hmo.2 _ 1 1 [s] rfl (by decide) _ (ints_lit v2 [s] 3)).mono ?_
    rw [K3.out]
    rintro e v3 ⟨rfl, hb0⟩
    have hb := bt (ba v2 _) hb0
    clear hb0
    have HB_3 := Lib.hid (bt HB_2.out hb)
    have G_3 := Lib.hid (G_2.out.below hb)
    have Z_3 := Lib.hid (Z_2.out.below hb)
    clear hb gG0 gG1 gG2
    obtain ⟨gG0, gG1, gG2⟩ := G_3.out
    go_wp2
    go_ret2
    exact ⟨rfl, HB_3.out⟩
  have K3 := Lib.hid (show allIn [s] 0 (Q - 1) = true from (allIn_one Q s).trans h3)
  have E1 := Lib.hid (show ckB P Q G cs i s = true by simp [ckB, h0, h1, h2, h3])
  have E2 := Lib.hid (show ckV P Q G cs i s = fitB P Q G cs i s by simp [ckV, E1.out])
  rw [E1.out, E2.out]
  have HGD := Lib.hid hgd
  have HCE := Lib.hid hce
  have hi9 := inB_true.1 h2
  have hs9 := exB_true.1 h3
  clear h0 h1 h2 h3 hgd hce
  obtain ⟨gG0, gG1, gG2⟩ := G_0.out
  go_enter Try.func16, Try.ntmps16
  go_wp2_with fail
  refine (sGroup_any P Q G _).mono ?_
  rw [K0.out]
  rintro e v1 ⟨rfl, hb⟩
  have HB_1 := Lib.hid (bt HB_0.out hb)
  have G_1 := Lib.hid (G_0.out.below hb)
  have Z_1 := Lib.hid (Z_0.out.below hb)
  clear hb gG0 gG1 gG2
  obtain ⟨gG0, gG1, gG2⟩ := G_1.out
  go_wp2_with fail
  refine (sCommits_any P Q G hmo ad cs.length cap cs rfl (by omega) _ Z_1.out).mono ?_
  rw [K1.out]
  rintro e v2 ⟨rfl, hb⟩
  have HB_2 := Lib.hid (bt HB_1.out hb)
  have G_2 := Lib.hid (G_1.out.below hb)
  have Z_2 := Lib.hid (Z_1.out.below hb)
  clear hb gG0 gG1 gG2
  obtain ⟨gG0, gG1, gG2⟩ := G_2.out
  go_wp2_with fail
  refine (l1In_any _ _ _ _).mono ?_
  rw [K2.out]
  rintro e w' ⟨rfl, rfl⟩
  go_wp2_with fail
  refine (gExps_any P Q G hmo.2 _ 1 1 [s] rfl (by decide) _ (ints_lit v2 [s] 3)).mono ?_
  rw [K3.out]
  rintro e v3 ⟨rfl, hb0⟩
  have hb := bt (ba v2 _) hb0
  clear hb0
  have HB_3 := Lib.hid (bt HB_2.out hb)
  have G_3 := Lib.hid (G_2.out.below hb)
  have Z_3 := Lib.hid (Z_2.out.below hb)
  clear hb gG0 gG1 gG2
  obtain ⟨gG0, gG1, gG2⟩ := G_3.out
  go_wp2_with fail
  refine (sFits_any P Q G i s HGD.out (by omega) hi9.2 hs9 ad cs.length cap cs rfl (by omega) HCE.out _ Z_3.out).mono ?_
  rintro e' v9 ⟨rfl, hb9⟩
  have HB_9 := Lib.hid (bt HB_3.out hb9)
  clear hb9
  go_wp2
  go_ret2
  exact ⟨rfl, HB_9.out⟩

/-! ### As the laws call them -/
theorem commitAt_ans (P Q G i : Int) {B : Nat} {v : Value} {cs : List Int} (hl : cs.length ≤ 1048576) {w : World} (h : InI B w v cs) :
    Calls Try.prog 22 #[gv P Q G, v, .int .i64 i] w fun e w' => e = .returned (.tuple #[.int .i64 (caV P Q G cs i), .bool (caB P Q G cs i)]) ∧ Below w.heap.size w w' := by
  obtain ⟨_, ad, cap, rfl, h1, _⟩ := h; exact commitAtP_any P Q G i ad cap cs (by omega) h1.ints
theorem sCommitAt_ans (P Q G i : Int) {B : Nat} {v : Value} {cs : List Int} (hl : cs.length ≤ 1048576) {w : World} (h : InI B w v cs) :
    Calls Try.prog 46 #[gv P Q G, v, .int .i64 i] w fun e w' => e = .returned (.tuple #[.int .i64 (caV P Q G cs i), .bool (caB P Q G cs i)]) ∧ Below w.heap.size w w' := by
  obtain ⟨_, ad, cap, rfl, h1, _⟩ := h; exact sCommitAt_any P Q G i ad cap cs (by omega) h1.ints
theorem checkShare_ans (P Q G i s : Int) {B : Nat} {v : Value} {cs : List Int} (hl : cs.length ≤ 1048576) {w : World} (h : InI B w v cs) :
    Calls Try.prog 15 #[gv P Q G, v, .int .i64 i, .int .i64 s] w fun e w' => e = .returned (.tuple #[.bool (ckV P Q G cs i s), .bool (ckB P Q G cs i s)]) ∧ Below w.heap.size w w' := by
  obtain ⟨_, ad, cap, rfl, h1, _⟩ := h; exact checkShare_any P Q G i s ad cap cs (by omega) h1.ints
theorem sCheckShare_ans (P Q G i s : Int) {B : Nat} {v : Value} {cs : List Int} (hl : cs.length ≤ 1048576) {w : World} (h : InI B w v cs) :
    Calls Try.prog 16 #[gv P Q G, v, .int .i64 i, .int .i64 s] w fun e w' => e = .returned (.tuple #[.bool (ckV P Q G cs i s), .bool (ckB P Q G cs i s)]) ∧ Below w.heap.size w w' := by
  obtain ⟨_, ad, cap, rfl, h1, _⟩ := h; exact sCheckShare_any P Q G i s ad cap cs (by omega) h1.ints

end Go.Proofs.Ytfjaohmildkeoaa

