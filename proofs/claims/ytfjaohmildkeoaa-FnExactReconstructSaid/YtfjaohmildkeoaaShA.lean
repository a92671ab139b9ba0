/- Chapter 11: groups, trustees, commitments, shares of both; values in the exponent of both. -/
import Derived.Test.YtfjaohmildkeoaaShF
import Derived.Test.YtfjaohmildkeoaaPolR
import Derived.Test.YtfjaohmildkeoaaInR
namespace Go.Proofs.Ytfjaohmildkeoaa
open Go.RowKit Go.Shelf
set_option linter.unusedVariables false
set_option linter.unusedSimpArgs false

def LZ (w : World) (ad : Option Addr) (zs : List Int) : Prop := IsInts w ad zs
theorem LZ.below {w w' : World} {ad : Option Addr} {zs : List Int} (h : LZ w ad zs) (hb : Below w.heap.size w w') : LZ w' ad zs := IsInts.below h hb (Nat.le_refl _)
theorem gr_atS (w : World) (b : Nat) (hb : w.heap.size = b) (P Q G : Int) (t : TypeId) : GR (w.alloc (.cells #[.int .i64 P, .int .i64 Q, .int .i64 G] t)) b P Q G := by
  subst hb; exact gr_new _ _ _ _ _

theorem hasTrustees_any (P Q G : Int) (w : World) :
    Calls Try.prog 65 #[gv P Q G] w fun e w' => e = .returned (.bool (trB P Q G)) ∧ Below w.heap.size w w' := by
  by_cases h : 7 < Q
  · have hr : trB P Q G = goodB P Q G := by simp [trB, h]
    rw [hr]
    go_enter Try.func65, Try.ntmps65
    go_wp2_with fail
    refine (isValidGroup_any P Q G _).mono ?_
    rintro e w1 ⟨rfl, hb⟩
    have HB := Lib.hid (bt (ba _ _) hb)
    clear hb
    go_wp2
    go_ret
    exact ⟨rfl, HB.out⟩
  · have hr : trB P Q G = false := by simp [trB, h]
    rw [hr]
    go_enter Try.func65, Try.ntmps65
    go_wp2
    go_ret
    exact ⟨rfl, ba _ _⟩

theorem sGroup_any (P Q G : Int) (w : World) :
    Calls Try.prog 70 #[gv P Q G] w fun e w' => e = .returned (.bool (trB P Q G)) ∧ Below w.heap.size w w' := by
  have hgr := Lib.hid (gr_new w P Q G 24)
  cases hg : goodB P Q G
  · have hr : trB P Q G = false := by simp [trB, hg]
    rw [hr]
    have HG := Lib.hid hg
    clear hg
    obtain ⟨g0, g1, g2⟩ := hgr.out
    go_enter Try.func70, Try.ntmps70
    go_wp2_with fail
    refine (l2Good_any P Q G _).mono ?_
    rintro e w1 ⟨rfl, hb⟩
    rw [HG.out]
    have HB := Lib.hid (bt (ba _ _) hb)
    clear hb g0 g1 g2
    go_wp2
    go_ret
    exact ⟨rfl, HB.out⟩
  · have hr : trB P Q G = decide (7 < Q) := by simp [trB, hg]
    rw [hr]
    have HG := Lib.hid hg
    clear hg
    obtain ⟨g0, g1, g2⟩ := hgr.out
    go_enter Try.func70, Try.ntmps70
    go_wp2_with fail
    refine (l2Good_any P Q G _).mono ?_
    rintro e w1 ⟨rfl, hb⟩
    rw [HG.out]
    have HB := Lib.hid (bt (ba _ _) hb)
    have HR := Lib.hid (hgr.out.below hb)
    clear hb g0 g1 g2
    obtain ⟨g0, g1, g2⟩ := HR.out
    go_wp2
    go_ret
    exact ⟨rfl, HB.out⟩

/-! ### Trustees -/
def isTr (i : Int) : Bool := decide (1 ≤ i) && decide (i ≤ 7)
theorem isTr_true {i : Int} : isTr i = true ↔ 1 ≤ i ∧ i ≤ 7 := by simp [isTr]
theorem isTrustee_any (i : Int) (w : World) :
    Calls Try.prog 67 #[.int .i64 i] w fun e w' => e = .returned (.bool (isTr i)) ∧ w = w' := by
  by_cases h1 : 1 ≤ i
  · by_cases h2 : i ≤ 7
    · have hr : isTr i = true := by simp [isTr, h1, h2]
      rw [hr]
      go_enter Try.func67, Try.ntmps67
      go_wp2
      go_ret
      exact ⟨rfl, rfl⟩
    · have hr : isTr i = false := by simp [isTr, h2]
      rw [hr]
      go_enter Try.func67, Try.ntmps67
      go_wp2
      go_ret
      exact ⟨rfl, rfl⟩
  · have hr : isTr i = false := by simp [isTr, h1]
    rw [hr]
    go_enter Try.func67, Try.ntmps67
    go_wp2
    go_ret
    exact ⟨rfl, rfl⟩

/-! ### Commitments -/
theorem elsB_short {P Q : Int} {zs : List Int} (h : zs.length ≤ 24) : elsB P Q zs = allEl P Q zs := by simp [elsB, h]
theorem areCommits_any (P Q G : Int) (hm : Mo P Q) (ad : Option Addr) (n cap : Nat) (cs : List Int) (hn : cs.length = n) (hl : n ≤ 1152921504606846976) (w : World) (hz : IsInts w ad cs) :
    Calls Try.prog 66 #[gv P Q G, .slice ad n cap] w fun e w' => e = .returned (.bool (cmsB P Q cs)) ∧ Below w.heap.size w w' := by
  by_cases h1 : 1 ≤ n
  · have h1i : (1 : Int) ≤ (n : Int) := by omega
    by_cases h2 : n ≤ 7
    · have h2i : (n : Int) ≤ 7 := by omega
      have hr : cmsB P Q cs = elsB P Q cs := by rw [elsB_short (by omega)]; simp [cmsB, hn, h1, h2]
      rw [hr]
      have HN := Lib.hid hn
      clear hr hn
      go_enter Try.func66, Try.ntmps66
      go_wp2_with fail
      refine (areElements_any P Q G hm ad n cap cs HN.out hl _ (hz.below (ba _ _) (Nat.le_refl _))).mono ?_
      rintro e w1 ⟨rfl, hb⟩
      have HB := Lib.hid (bt (ba _ _) hb)
      clear hb
      go_wp2
      go_ret
      exact ⟨rfl, HB.out⟩
    · have h2i : (7 : Int) < (n : Int) := by omega
      have hr : cmsB P Q cs = false := by simp [cmsB, hn, h2]
      rw [hr]
      clear hr
      go_enter Try.func66, Try.ntmps66
      go_wp2
      go_ret
      exact ⟨rfl, ba _ _⟩
  · have h1i : (n : Int) < 1 := by omega
    have hr : cmsB P Q cs = false := by simp [cmsB, hn, h1]
    rw [hr]
    clear hr
    go_enter Try.func66, Try.ntmps66
    go_wp2
    go_ret
    exact ⟨rfl, ba _ _⟩

theorem sCommits_any (P Q G : Int) (hm : Mo P Q) (ad : Option Addr) (n cap : Nat) (cs : List Int) (hn : cs.length = n) (hl : n ≤ 1152921504606846976) (w : World) (hz : IsInts w ad cs) :
    Calls Try.prog 71 #[gv P Q G, .slice ad n cap] w fun e w' => e = .returned (.bool (cmsB P Q cs)) ∧ Below w.heap.size w w' := by
  cases h1 : inB (n : Int) 1 7
  · have hr : cmsB P Q cs = false := by
      have := inB_false.1 h1
      simp only [cmsB, hn, Bool.and_eq_false_iff, decide_eq_false_iff_not]; omega
    rw [hr]
    have H1 := Lib.hid h1
    clear hr h1
    go_enter Try.func71, Try.ntmps71
    go_wp2_with fail
    refine (l1In_any _ _ _ _).mono ?_
    rw [H1.out]
    rintro e w1 ⟨rfl, rfl⟩
    go_wp2
    go_ret
    exact ⟨rfl, ba _ _⟩
  · have hr : cmsB P Q cs = allEl P Q cs := by
      have := inB_true.1 h1
      simp only [cmsB, hn]; rw [decide_eq_true (by omega), decide_eq_true (by omega)]; rfl
    rw [hr]
    have H1 := Lib.hid h1
    have HN := Lib.hid hn
    clear hr h1 hn
    go_enter Try.func71, Try.ntmps71
    go_wp2_with fail
    refine (l1In_any _ _ _ _).mono ?_
    rw [H1.out]
    rintro e w1 ⟨rfl, rfl⟩
    go_wp2_with fail
    refine (gIs_any P Q G hm ad n cap cs HN.out hl _ (hz.below (ba _ _) (Nat.le_refl _))).mono ?_
    rintro e w1 ⟨rfl, hb⟩
    have HB := Lib.hid (bt (ba _ _) hb)
    clear hb
    go_wp2
    go_ret
    exact ⟨rfl, HB.out⟩

/-! ### Values in the exponent: the program -/
theorem keepsOthers_below {W W' : World} (h : Below W.heap.size W W') : KeepsOthers W W' :=
  ⟨h.size, fun b o hb _ => by rw [h.block b (Array.getElem?_eq_some_iff.1 hb).1]; exact hb⟩
theorem letsOut_not {Q : Exit → Act → World → Prop} (h : ∀ a w, ¬ Q .outgrown a w) : ¬ LetsOut Q := fun ⟨a, w, h'⟩ => h a w h'

attribute [local go_sem] Oper.semAt_some
set_option maxRecDepth 100000 in
set_option maxHeartbeats 4000000 in
theorem commitAt_any (P Q G i : Int) (hg : goodB P Q G = true) (hi : 0 ≤ i) (hi' : i ≤ 7) (ad : Option Addr) (len cap : Nat) (cs : List Int) (hn : cs.length = len) (hl : len ≤ 1000000) (he : allEl P Q cs = true) (w : World) (hz : IsInts w ad cs) :
    Calls Try.prog 86 #[gv P Q G, .slice ad len cap, .int .i64 i] w fun e W' => e = .returned (.int .i64 (atV P Q cs i)) ∧ Below w.heap.size w W' := by
  subst hn
  have hbg := goodB_true.1 hg
  have hP2 : 2 ≤ P := by omega
  have hP3 : P ≤ 2000000000 := by omega
  have hP0 : P ≠ 0 := by omega
  have HE := Lib.hid (els_range he)
  have HAT := Lib.hid (hor_at hg hi he)
  clear hbg hg he
  refine (callsIn_wide (n := 3)).1 ?_
  refine callsIn_of_wp_marks Try.func86 rfl trivial ?_ rfl
  simp only [Try.ntmps86, List.size_toArray, List.length_cons, List.length_nil, Nat.reduceAdd, Nat.reduceSub, Array.replicate_succ, Array.replicate_zero, List.push_toArray, List.append_toArray, List.nil_append, List.cons_append]
  gi_wp2_with (first
    | (refine ⟨trivial, ?_⟩; gi_at_call 133; refine (backward_in Fence.wide (3 - 1) trivial rfl _ _ _ _).mono ?_; rintro e w' ⟨rfl, rfl⟩)
    | fail)
  obtain ⟨B, hB⟩ : ∃ B, w.heap.size = B := ⟨_, rfl⟩
  rw [hB]
  obtain ⟨W0, hW0⟩ : ∃ W0, ((((w.alloc (.cells #[.int .i64 P, .int .i64 Q, .int .i64 G] 24)).alloc (.cells #[.int .i64 i] 3)).alloc (.cells #[.int .i64 1] 3)).alloc (.cells #[.slice ad cs.length cap] 25)) = W0 := ⟨_, rfl⟩
  rw [hW0]
  have hsz : W0.heap.size = B + 1 + 1 + 1 + 1 := by rw [← hW0]; simp [hB]
  have bg : GR W0 B P Q G := by rw [← hW0, ← hB]; exact (((gr_new w P Q G _).below (ba _ _)).below (ba _ _)).below (ba _ _)
  have bi : Go.Boxed W0 (B + 1) 3 (.int .i64 i) := by
    have h := Go.Boxed.new (w.alloc (.cells #[.int .i64 P, .int .i64 Q, .int .i64 G] 24)) 3 (.int .i64 i)
    rw [World.size_alloc, hB] at h
    rw [← hW0]; exact (h.alloc _).alloc _
  have bv : Go.Boxed W0 (B + 1 + 1) 3 (.int .i64 1) := by
    have h := Go.Boxed.new ((w.alloc (.cells #[.int .i64 P, .int .i64 Q, .int .i64 G] 24)).alloc (.cells #[.int .i64 i] 3)) 3 (.int .i64 1)
    rw [World.size_alloc, World.size_alloc, hB] at h
    rw [← hW0]; exact h.alloc _
  have bs : Go.Boxed W0 (B + 1 + 1 + 1) 25 (.slice ad cs.length cap) := by
    have h := Go.Boxed.new (((w.alloc (.cells #[.int .i64 P, .int .i64 Q, .int .i64 G] 24)).alloc (.cells #[.int .i64 i] 3)).alloc (.cells #[.int .i64 1] 3)) 25 (.slice ad cs.length cap)
    rw [World.size_alloc, World.size_alloc, World.size_alloc, hB] at h
    rw [← hW0]; exact h
  have hB0 : Below B w W0 := by
    rw [← hW0, ← hB]
    exact ((((Below.refl _ w).alloc (Nat.le_refl _) _).alloc (by simp) _).alloc (by simp; omega) _).alloc (by simp; omega) _
  refine wpIn_rangeFunc_ownG rfl (by omega) (gf := 167) (lb := #[.pointer (some ⟨B + 1 + 1 + 1, 0, none⟩)]) rfl trivial (enters_of Try.func167 (by kernel_rfl) rfl)
    (backwardE_stops Fence.wide (3 - 1) trivial rfl (by omega) (B + 1 + 1 + 1) B ad cap cs (by omega) _ (by omega) bs.cell (hz.below hB0 (by omega)) (fun a ha h0 => by rw [← hB]; exact ints_lt hz h0 a ha)) KpB.trans (kpB_b (by omega) (by omega)) (Below.refl _ _) (fun _ => rfl)
    (fun pre W => (W.cell? ⟨B + 1 + 1, 0, none⟩ = some (.int .i64 (horM P i (pre.map (·.1)))) ∧ W.frozen? ⟨B + 1 + 1, 0, none⟩ = false ∧ W.cell? ⟨B, 0, none⟩ = some (.int .i64 P) ∧ W.cell? ⟨B, 1, none⟩ = some (.int .i64 Q) ∧ W.cell? ⟨B, 2, none⟩ = some (.int .i64 G) ∧ W.cell? ⟨B + 1, 0, none⟩ = some (.int .i64 i) ∧ W.cell? ⟨B + 1 + 1 + 1, 0, none⟩ = some (.slice ad cs.length cap)) ∧ Below B w W)
    (fun _ _ _ => False)
    (OwnFrom.and (Own.from (fun s A B row hs hg hr => ⟨cell_kept hs.1 hg hr, (frozen_kept hs.1 hg hr).trans hs.2.1, cell_kept hs.2.2.1 hg hr, cell_kept hs.2.2.2.1 hg hr, cell_kept hs.2.2.2.2.1 hg hr, cell_kept hs.2.2.2.2.2.1 hg hr, cell_kept hs.2.2.2.2.2.2 hg hr⟩) _) (ownFrom_below (by omega) (by omega)))
    (fun _ _ _ _ _ hs _ _ => hs)
    ⟨⟨bv.cell, bv.frozen, bg.1, bg.2.1, bg.2.2, bi.cell, bs.cell⟩, hB0⟩
    (fun p => { tmps := #[gv P Q G, .slice ad cs.length cap, .int .i64 i, .pointer (some ⟨B, 0, none⟩), undef, .pointer (some ⟨B + 1, 0, none⟩), .int .i64 0, .pointer (some ⟨B + 1 + 1, 0, none⟩), undef, .int .i64 p.1.2, .slice ad cs.length cap,
      .func (.func 167) #[] #[.pointer (some ⟨B + 1 + 1 + 1, 0, none⟩)], .int .i64 (p.1.1 : Int), .int .i64 p.1.2, undef, undef, undef, undef, undef, undef, undef, undef, undef, undef], defers := [] }) ?assign ?body ?done ?stop
  case assign =>
    intro l p W K hK
    gi_wp2
    exact hK
  case body =>
    rintro l pre p W ⟨⟨hc, hf, hg0, hg1, hg2, hcx, hcs⟩, hBW⟩ _
    obtain ⟨⟨hc1, hc2⟩, _⟩ := HE.out p.1.2 p.2
    obtain ⟨hv0, hv1⟩ := horM_rng (i := i) hP2 (pre.map (·.1))
    have HS := Lib.hid (show horM P i ((pre ++ [p]).map (·.1)) = Num.pow (horM P i (pre.map (·.1))) i P * p.1.2 % P by rw [List.map_append]; exact horM_snoc P i _ p.1)
    generalize horM P i (pre.map (·.1)) = v at *
    obtain ⟨hq0, hq1⟩ := pow_lt v i P hP2
    obtain ⟨m0, m1⟩ := prod_bd (a := Num.pow v i P) (z := p.1.2) hq0 (by omega) (by omega) (by omega)
    have hmr0 : 0 ≤ Num.pow v i P * p.1.2 % P := Int.emod_nonneg _ hP0
    have hmr1 : Num.pow v i P * p.1.2 % P < P := Int.emod_lt_of_pos _ (by omega)
    have hvx : IntKind.i64.wrap (Num.pow v i P * p.1.2) = Num.pow v i P * p.1.2 := by rw [IntKind.wrap_i64]; omega
    have hvm : (Num.pow v i P * p.1.2).tmod P = Num.pow v i P * p.1.2 % P := Int.tmod_eq_emod_of_nonneg m0
    have hvr : IntKind.i64.wrap (Num.pow v i P * p.1.2 % P) = Num.pow v i P * p.1.2 % P := by rw [IntKind.wrap_i64]; omega
    have HC := Lib.hid (And.intro hc hf)
    have HG := Lib.hid (show GR W B P Q G from ⟨hg0, hg1, hg2⟩)
    have HI := Lib.hid hcx
    have HBW := Lib.hid hBW
    have HZ := Lib.hid hcs
    clear hc hf hg0 hg1 hg2 hcx hcs hBW
    gi_wp2
    refine wpIn_region_held (S := fun w' => (w'.cell? ⟨B, 0, none⟩ = some (.int .i64 P) ∧ w'.cell? ⟨B, 1, none⟩ = some (.int .i64 Q) ∧ w'.cell? ⟨B, 2, none⟩ = some (.int .i64 G)) ∧ w'.cell? ⟨B + 1, 0, none⟩ = some (.int .i64 i)) (by kernel_rfl) (by kernel_rfl) (letsOut_not (fun a w h => h)) (show _ from ⟨HG.out, HI.out⟩) (fun hHeld => ?_)
    refine wpAnyH_take (i := 0) (v := ?_) rfl (by kernel_rfl) (by kernel_rfl) (by kernel_rfl) (fun _ _ _ h => h) (Or.inl ⟨by kernel_rfl, ?_⟩) (by assumption) ?_
    rotate_left 1
    · intro w9 hSw
      try dsimp only at hSw
      go_simp
      try with_reducible rfl
    try simp only [Act.put, List.getElem_toArray, List.getElem_cons_succ, List.getElem_cons_zero, List.setIfInBounds_toArray, List.set_cons_zero, List.set_cons_succ]
    refine wpAnyH_take (i := 2) (v := ?_) rfl (by kernel_rfl) (by kernel_rfl) (by kernel_rfl) (fun _ _ _ h => h) (Or.inl ⟨by kernel_rfl, ?_⟩) (by assumption) ?_
    rotate_left 1
    · intro w9 hSw
      try dsimp only at hSw
      go_simp
      try with_reducible rfl
    try simp only [Act.put, List.getElem_toArray, List.getElem_cons_succ, List.getElem_cons_zero, List.setIfInBounds_toArray, List.set_cons_zero, List.set_cons_succ]
    refine wpAnyH_take (i := 4) (v := ?_) rfl (by kernel_rfl) (by kernel_rfl) (by kernel_rfl) (fun _ _ _ h => h) (Or.inl ⟨by kernel_rfl, ?_⟩) (by assumption) ?_
    rotate_left 1
    · intro w9 hSw
      try dsimp only at hSw
      go_simp
      try with_reducible rfl
    try simp only [Act.put, List.getElem_toArray, List.getElem_cons_succ, List.getElem_cons_zero, List.setIfInBounds_toArray, List.set_cons_zero, List.set_cons_succ]
    refine wpAnyH_take (i := 6) (v := ?_) rfl (by kernel_rfl) (by kernel_rfl) (by kernel_rfl) (fun _ _ _ h => h) (Or.inl ⟨by kernel_rfl, ?_⟩) (by assumption) ?_
    rotate_left 1
    · intro w9 hSw
      try dsimp only at hSw
      go_simp
      try with_reducible rfl
    try simp only [Act.put, List.getElem_toArray, List.getElem_cons_succ, List.getElem_cons_zero, List.setIfInBounds_toArray, List.set_cons_zero, List.set_cons_succ]
    refine wpAnyH_take (i := 7) (v := ?_) rfl (by kernel_rfl) (by kernel_rfl) (by kernel_rfl) (fun _ _ _ h => h) (Or.inl ⟨by kernel_rfl, ?_⟩) (by assumption) ?_
    rotate_left 1
    · intro w9 hSw
      try dsimp only at hSw
      go_simp
      try with_reducible rfl
    try simp only [Act.put, List.getElem_toArray, List.getElem_cons_succ, List.getElem_cons_zero, List.setIfInBounds_toArray, List.set_cons_zero, List.set_cons_succ]
    refine wpAnyH_ready (rs := [1]) (by kernel_rfl) (by simp) ?_
    refine AllReadyH.cons rfl (fun K hK => ?_) (AllReadyH.nil)
    have hc1 : W.drew.cell? ⟨B + 1 + 1, 0, none⟩ = some (.int .i64 v) := HC.out.1
    go_simp
    refine hK.out _ _ (show _ from ⟨HG.out, HI.out⟩) (fun hHeld => ?_)
    clear hK K hc1
    try simp only [Act.put, List.getElem_toArray, List.getElem_cons_succ, List.getElem_cons_zero, List.setIfInBounds_toArray, List.set_cons_zero, List.set_cons_succ]
    refine wpAnyH_ready (rs := [3]) (by kernel_rfl) (by simp) ?_
    refine AllReadyH.cons rfl (fun K hK => ?_) (AllReadyH.nil)
    go_simp
    go_at_call 102
    refine (power_any P Q G v i hv0 (by omega) hi (by omega) hP2 hP3 _).mono ?_
    rintro e' W1 ⟨rfl, hb⟩
    have hl0 : B < W.heap.size := HG.out.lt
    have hl1 : B + 1 < W.heap.size := World.block_lt_of_cell? W _ HI.out
    have hl2 : B + 1 + 1 < W.heap.size := World.block_lt_of_cell? W _ HC.out.1
    have hbd : Below W.heap.size W W.drew := (Below.refl _ W).drew
    have hb1 : Below W.heap.size W W1 := bt hbd hb
    have HG1 := Lib.hid (HG.out.below hb1)
    have HI1 := Lib.hid ((hb1.cell (p := ⟨B + 1, 0, none⟩) hl1).trans HI.out)
    have HC1 := Lib.hid (And.intro ((hb1.cell (p := ⟨B + 1 + 1, 0, none⟩) hl2).trans HC.out.1) ((hb1.frozen (p := ⟨B + 1 + 1, 0, none⟩) hl2).trans HC.out.2))
    have HB1 := Lib.hid hb1
    have hl3 : B + 1 + 1 + 1 < W.heap.size := World.block_lt_of_cell? W _ HZ.out
    have HZ1 := Lib.hid ((hb1.cell (p := ⟨B + 1 + 1 + 1, 0, none⟩) hl3).trans HZ.out)
    clear hb hbd hb1
    go_wp2_with fail
    refine hK.out _ _ (show _ from ⟨HG1.out, HI1.out⟩) (fun hHeld => ?_)
    clear hK K
    try simp only [Act.put, List.getElem_toArray, List.getElem_cons_succ, List.getElem_cons_zero, List.setIfInBounds_toArray, List.set_cons_zero, List.set_cons_succ]
    refine wpAnyH_take (i := 5) (v := ?_) rfl (by kernel_rfl) (by kernel_rfl) (by kernel_rfl) (fun _ _ _ h => h) (Or.inl ⟨by kernel_rfl, ?_⟩) (by assumption) ?_
    rotate_left 1
    · intro w9 hSw
      try dsimp only at hSw
      go_simp
      try with_reducible rfl
    try simp only [Act.put, List.getElem_toArray, List.getElem_cons_succ, List.getElem_cons_zero, List.setIfInBounds_toArray, List.set_cons_zero, List.set_cons_succ]
    refine wpAnyH_take (i := 8) (v := ?_) rfl (by kernel_rfl) (by kernel_rfl) (by kernel_rfl) (fun _ _ _ h => h) (Or.inl ⟨by kernel_rfl, ?_⟩) (by assumption) ?_
    rotate_left 1
    · intro w9 hSw
      try dsimp only at hSw
      go_simp
      try with_reducible rfl
    try simp only [Act.put, List.getElem_toArray, List.getElem_cons_succ, List.getElem_cons_zero, List.setIfInBounds_toArray, List.set_cons_zero, List.set_cons_succ]
    refine wpAnyH_ready (rs := [9]) (by kernel_rfl) (by simp) ?_
    refine AllReadyH.cons rfl (fun K hK => ?_) (AllReadyH.nil)
    obtain ⟨hc1, hf1⟩ := HC1.out
    go_simp
    have HN1 := Lib.hid (World.cell?_setCell_same' W1 ⟨B + 1 + 1, 0, none⟩ (.int .i64 (Num.pow v i P * p.1.2 % P)) (by rw [hc1]; rfl))
    have HG2 := Lib.hid (show GR (W1.setCell ⟨B + 1 + 1, 0, none⟩ (.int .i64 (Num.pow v i P * p.1.2 % P))) B P Q G from by
      have hh := Below.heap_setCell W1 ⟨B + 1 + 1, 0, none⟩ (.int .i64 (Num.pow v i P * p.1.2 % P)) B (by show B ≠ B + 1 + 1; omega)
      exact ⟨(cell_heap (w := W1) (a := ⟨B, 0, none⟩) hh).trans HG1.out.1, (cell_heap (w := W1) (a := ⟨B, 1, none⟩) hh).trans HG1.out.2.1, (cell_heap (w := W1) (a := ⟨B, 2, none⟩) hh).trans HG1.out.2.2⟩)
    have HI2 := Lib.hid ((cell_heap (w := W1) (a := ⟨B + 1, 0, none⟩) (Below.heap_setCell W1 ⟨B + 1 + 1, 0, none⟩ (.int .i64 (Num.pow v i P * p.1.2 % P)) (B + 1) (by show B + 1 ≠ B + 1 + 1; omega))).trans HI1.out)
    have hh3 := Below.heap_setCell W1 ⟨B + 1 + 1, 0, none⟩ (.int .i64 (Num.pow v i P * p.1.2 % P)) (B + 1 + 1 + 1) (by show B + 1 + 1 + 1 ≠ B + 1 + 1; omega)
    refine hK.out _ _ (show _ from ⟨HG2.out, HI2.out⟩) (fun hHeld => ?_)
    clear hK K
    refine wpAnyH_done (by kernel_rfl) ?_ _
    refine ⟨((keepsOthers_below HB1.out).trans (KeepsOthers.setCell _ _ _)).from _, ⟨(HB1.out.mono (by omega)).setCell (p := ⟨B + 1 + 1, 0, none⟩) (by show B ≤ B + 1 + 1; omega) _, hh3.trans (HB1.out.block _ hl3)⟩,
      ⟨by rw [HS.out]; exact HN1.out, by rw [World.frozen?_setCell]; exact hf1, HG2.out.1, HG2.out.2.1, HG2.out.2.2, HI2.out, (cell_heap (w := W1) (a := ⟨B + 1 + 1 + 1, 0, none⟩) hh3).trans HZ1.out⟩, (HBW.out.trans (HB1.out.mono (by omega))).setCell (p := ⟨B + 1 + 1, 0, none⟩) (by show B ≤ B + 1 + 1; omega) _⟩
  case done =>
    rintro D ys W hD hys ⟨⟨hc, _⟩, hBW⟩ hK
    rw [hys, horM_all, HAT.out] at hc
    gi_wp2
    refine ⟨by simp, .inl ⟨_, _, rfl, run_takeDeferred hK, ?_⟩⟩
    exact ⟨_, results_tmp rfl _ _ _, rfl, by rw [hB]; exact hBW.trans (belowK_b (w := w) (by omega) W D _ _ (by omega) hK rfl rfl)⟩
  case stop =>
    rintro D c pre W _ _ h _
    exact h.elim

end Go.Proofs.Ytfjaohmildkeoaa

