/- Chapter 10, the reference: verdicts on bits and sums; CoinsForRange of both. -/
import Derived.Test.YtblclghbabhdlaaAny
import Derived.Test.YtblclghbabhdlaaRngA
import Derived.Test.YtblclghbabhdlaaComR
import Derived.Deep.RegionHeld3
namespace Go.Proofs.Ytblclghbabhdlaa
open Go.RowKit
set_option linter.unusedVariables false
set_option linter.unusedSimpArgs false


set_option maxRecDepth 100000 in
set_option maxHeartbeats 3200000 in
theorem rCase_any (P Q G c : Int) (hg : goodB P Q G = true) (hc : elB P Q c = true) (k : Nat) (hk : k < 2) (w : World) :
    Calls Try.prog 85 #[gv P Q G, .int .i64 c, .int .i64 (k : Int)] w fun e w' => e = .returned (.int .i64 (rcV P Q G c k)) ∧ Below w.heap.size w w' := by
  have G_0 := Lib.hid (gr_at w (w.heap.size) (by simp) P Q G 32)
  have HB_0 := Lib.hid (show Below w.heap.size w (w.alloc (.cells #[.int .i64 P, .int .i64 Q, .int .i64 G] 32)) from ba _ _)
  have hmo := good_mo hg
  have hP := hmo.1
  have hQ := (good_rng hg).2.1
  have HGr := Lib.hid (el_rng (good_el hg))
  have hcr := el_rng hc
  obtain ⟨gG0, gG1, gG2⟩ := G_0.out
  by_cases h1 : k = 1
  · subst h1
    have hpw := pow_lt G (Q - 1) P hP.1
    have EM0 := mul_two (b := Num.pow G (Q - 1) P) hcr.1 hcr.2
    have HPP := Lib.hid (show ∀ z ∈ [c, Num.pow G (Q - 1) P], 0 ≤ z ∧ z < P from fun z hz => by
      simp only [List.mem_cons, List.not_mem_nil, or_false] at hz
      rcases hz with rfl | rfl
      · exact hcr
      · exact hpw)
    have HV := Lib.hid (show rcV P Q G c 1 = c * Num.pow G (Q - 1) P % P from rfl)
    rw [HV.out]
    obtain ⟨mv, hmv⟩ : ∃ m, c * Num.pow G (Q - 1) P % P = m := ⟨_, rfl⟩
    rw [hmv] at EM0 ⊢
    have EM := Lib.hid EM0
    clear hg hc hpw EM0 hmv HV hcr hk hmo
    go_enter Try.func85, Try.ntmps85
    go_wp2_with fail
    clear gG0 gG1 gG2
    generalize hW9 : w.alloc (.cells #[.int .i64 P, .int .i64 Q, .int .i64 G] 32) = v0 at *
    clear hW9
    refine wp_region_held_drew (S := (fun w' => (w'.cell? ⟨w.heap.size, 0, none⟩ = some (.int .i64 P) ∧ w'.cell? ⟨w.heap.size, 1, none⟩ = some (.int .i64 Q) ∧ w'.cell? ⟨w.heap.size, 2, none⟩ = some (.int .i64 G)))) (by kernel_rfl) (show _ from ⟨G_0.out.1, G_0.out.2.1, G_0.out.2.2⟩) (fun hHeld => ?_)
    refine wpAnyH_take (i := 0) (v := ?_) rfl (by kernel_rfl) (by kernel_rfl) (by kernel_rfl) (fun _ _ _ h => h) (Or.inl ⟨by kernel_rfl, ?_⟩) (by assumption) ?_
    rotate_left 1
    · intro w9 hSw
      try dsimp only at hSw
      go_simp
      try with_reducible rfl
    try simp only [Act.put, List.getElem_toArray, List.getElem_cons_succ, List.getElem_cons_zero, List.setIfInBounds_toArray, List.set_cons_zero, List.set_cons_succ]
    refine wpAnyH_take (i := 1) (v := ?_) rfl (by kernel_rfl) (by kernel_rfl) (by kernel_rfl) (fun _ _ _ h => h) (Or.inl ⟨by kernel_rfl, ?_⟩) (by assumption) ?_
    rotate_left 1
    · intro w9 hSw
      try dsimp only at hSw
      go_simp
      try with_reducible rfl
    try simp only [Act.put, List.getElem_toArray, List.getElem_cons_succ, List.getElem_cons_zero, List.setIfInBounds_toArray, List.set_cons_zero, List.set_cons_succ]
    refine wpAnyH_take (i := 2) (v := ?_) rfl (by kernel_rfl) (by kernel_rfl) (by kernel_rfl) (fun _ _ _ h => h) (Or.inl ⟨by kernel_rfl, ?_⟩) (by assumption) ?_
    rotate_left 1
    · intro w9 hSw
      try dsimp only at hSw
      go_simp
      try with_reducible rfl
    try simp only [Act.put, List.getElem_toArray, List.getElem_cons_succ, List.getElem_cons_zero, List.setIfInBounds_toArray, List.set_cons_zero, List.set_cons_succ]
    refine wpAnyH_take (i := 3) (v := ?_) rfl (by kernel_rfl) (by kernel_rfl) (by kernel_rfl) (fun _ _ _ h => h) (Or.inl ⟨by kernel_rfl, ?_⟩) (by assumption) ?_
    rotate_left 1
    · intro w9 hSw
      try dsimp only at hSw
      go_simp
      try with_reducible rfl
    try simp only [Act.put, List.getElem_toArray, List.getElem_cons_succ, List.getElem_cons_zero, List.setIfInBounds_toArray, List.set_cons_zero, List.set_cons_succ]
    refine wpAnyH_take (i := 4) (v := ?_) rfl (by kernel_rfl) (by kernel_rfl) (by kernel_rfl) (fun _ _ _ h => h) (Or.inl ⟨by kernel_rfl, ?_⟩) (by assumption) ?_
    rotate_left 1
    · intro w9 hSw
      try dsimp only at hSw
      go_simp
      try with_reducible rfl
    try simp only [Act.put, List.getElem_toArray, List.getElem_cons_succ, List.getElem_cons_zero, List.setIfInBounds_toArray, List.set_cons_zero, List.set_cons_succ]
    have hB0 : (fun w1 => (Below w.heap.size w w1) ∧ (GR w1 w.heap.size P Q G)) v0.drew := ⟨HB_0.out.drew, G_0.out.drew⟩
    refine wpAnyH_part (V := fun i u w1 => cond (Nat.beq i 5) (u = .int .i64 (Num.pow G (Q - 1) P)) (cond (Nat.beq i 6) (∃ (b6 : Nat), u = .slice (some ⟨b6, 0, none⟩) 2 2 ∧ (IsInts w1 (some ⟨b6, 0, none⟩) [c, Num.pow G (Q - 1) P])) (cond (Nat.beq i 7) (u = .int .i64 mv) (cond (Nat.beq i 8) (u = .int .i64 mv) (True))))) (B := fun w1 => (Below w.heap.size w w1) ∧ (GR w1 w.heap.size P Q G)) (R := fun w1 w2 => Below w1.heap.size w1 w2) 0 (rs := [5, 6, 7, 8]) (ds := [(5, some 14), (6, some 15), (7, some 16), (8, some 6)]) (by kernel_rfl) (by kernel_rfl) (by kernel_rfl) (by kernel_rfl) (by kernel_rfl) ?_ ?_ ?_ hB0 ?_ ?_
    · intro w1 w2 hB hR
      clear hB0
      obtain ⟨b_HBb, b_Gb⟩ := hB
      exact ⟨bt b_HBb hR, b_Gb.below hR⟩
    · clear hB0
      refine Last.cons (fun u w1 w2 hB h hR => ?_) ?_
      · have h1 : u = .int .i64 (Num.pow G (Q - 1) P) := h
        show u = .int .i64 (Num.pow G (Q - 1) P)
        exact h1
      refine Last.cons (fun u w1 w2 hB h hR => ?_) ?_
      · have h1 : ∃ (b6 : Nat), u = .slice (some ⟨b6, 0, none⟩) 2 2 ∧ (IsInts w1 (some ⟨b6, 0, none⟩) [c, Num.pow G (Q - 1) P]) := h
        show ∃ (b6 : Nat), u = .slice (some ⟨b6, 0, none⟩) 2 2 ∧ (IsInts w2 (some ⟨b6, 0, none⟩) [c, Num.pow G (Q - 1) P])
        obtain ⟨b6, e, f0⟩ := h1
        exact ⟨b6, e, f0.below hR (Nat.le_refl _)⟩
      refine Last.cons (fun u w1 w2 hB h hR => ?_) ?_
      · have h1 : u = .int .i64 mv := h
        show u = .int .i64 mv
        exact h1
      refine Last.cons (fun u w1 w2 hB h hR => ?_) ?_
      · have h1 : u = .int .i64 mv := h
        show u = .int .i64 mv
        exact h1
      exact Last.nil
    · intro w1 hB
      clear hB0
      obtain ⟨b_HBb, b_Gb⟩ := hB
      have HBb := Lib.hid (show Below w.heap.size w w1 from b_HBb)
      have Gb := Lib.hid (show GR w1 w.heap.size P Q G from b_Gb)
      clear b_HBb b_Gb
      exact ⟨Gb.out.1, Gb.out.2.1, Gb.out.2.2⟩
    · clear hB0 hHeld
      refine Steps.cons rfl (js := []) (by kernel_rfl) rfl (fun v W1 hB hF Q9 K hK => ?_) ?_
      · obtain ⟨b_HBb, b_Gb⟩ := hB
        have HBb := Lib.hid (show Below w.heap.size w W1 from b_HBb)
        have Gb := Lib.hid (show GR W1 w.heap.size P Q G from b_Gb)
        clear b_HBb b_Gb
        clear hF
        refine ⟨?_⟩
        simp only [putAll, Act.put, List.setIfInBounds_toArray, List.set_cons_succ, List.set_cons_zero]
        go_simp
        go_at_call 78
        refine (gInv_any P Q G G HGr.out.1 (by have := HGr.out.2; omega) hP.1 hP.2 (by omega) (by omega) _).mono ?_
        rintro e' W2 ⟨rfl, hb⟩
        go_wp2_with fail
        have hk := hK.out
        simp only [putAll, Act.put, List.setIfInBounds_toArray, List.set_cons_succ, List.set_cons_zero] at hk
        refine hk _ _ ?_ ?_
        · show (_ : Value) = .int .i64 (Num.pow G (Q - 1) P)
          exact rfl
        · exact hb
      refine Steps.cons rfl (js := [5]) (by kernel_rfl) rfl (fun v W1 hB hF Q9 K hK => ?_) ?_
      · obtain ⟨b_HBb, b_Gb⟩ := hB
        have HBb := Lib.hid (show Below w.heap.size w W1 from b_HBb)
        have Gb := Lib.hid (show GR W1 w.heap.size P Q G from b_Gb)
        clear b_HBb b_Gb
        have hf5 : v 5 = .int .i64 (Num.pow G (Q - 1) P) := hF.1
        have e5 := hf5
        have E5 := Lib.hid e5
        clear e5 hf5
        clear hF
        refine ⟨?_⟩
        simp only [putAll, Act.put, List.setIfInBounds_toArray, List.set_cons_succ, List.set_cons_zero, E5.out]
        go_simp
        have hk := hK.out
        simp only [putAll, Act.put, List.setIfInBounds_toArray, List.set_cons_succ, List.set_cons_zero, E5.out] at hk
        refine hk _ _ ?_ ?_
        · show ∃ (b6 : Nat), (_ : Value) = .slice (some ⟨b6, 0, none⟩) 2 2 ∧ (IsInts (W1.alloc (.cells #[.int .i64 c, .int .i64 (Num.pow G (Q - 1) P)] 3)) (some ⟨b6, 0, none⟩) [c, Num.pow G (Q - 1) P])
          exact ⟨_, rfl, ints_spot W1 _ rfl [c, Num.pow G (Q - 1) P] 3⟩
        · exact (ba _ _)
      refine Steps.cons rfl (js := [6, 5]) (by kernel_rfl) rfl (fun v W1 hB hF Q9 K hK => ?_) ?_
      · obtain ⟨b_HBb, b_Gb⟩ := hB
        have HBb := Lib.hid (show Below w.heap.size w W1 from b_HBb)
        have Gb := Lib.hid (show GR W1 w.heap.size P Q G from b_Gb)
        clear b_HBb b_Gb
        have hf6 : ∃ (b6 : Nat), v 6 = .slice (some ⟨b6, 0, none⟩) 2 2 ∧ (IsInts W1 (some ⟨b6, 0, none⟩) [c, Num.pow G (Q - 1) P]) := hF.1
        obtain ⟨b6, e6, f6_0⟩ := hf6
        have E6 := Lib.hid e6
        have L6 := Lib.hid (show IsInts W1 (some ⟨b6, 0, none⟩) [c, Num.pow G (Q - 1) P] from f6_0)
        clear e6 f6_0
        have hf5 : v 5 = .int .i64 (Num.pow G (Q - 1) P) := hF.2.1
        have e5 := hf5
        have E5 := Lib.hid e5
        clear e5 hf5
        clear hF
        refine ⟨?_⟩
        simp only [putAll, Act.put, List.setIfInBounds_toArray, List.set_cons_succ, List.set_cons_zero, E6.out, E5.out]
        go_simp
        go_at_call 74
        refine (gMul_any P Q G _ 2 2 [c, Num.pow G (Q - 1) P] rfl (by decide) hP.1 hP.2 HPP.out _ L6.out).mono ?_
        rw [EM.out]
        rintro e' W2 ⟨rfl, hb⟩
        go_wp2_with fail
        have hk := hK.out
        simp only [putAll, Act.put, List.setIfInBounds_toArray, List.set_cons_succ, List.set_cons_zero, E6.out, E5.out] at hk
        refine hk _ _ ?_ ?_
        · show (_ : Value) = .int .i64 mv
          exact rfl
        · exact hb
      refine Steps.cons rfl (js := [7, 7, 5, 6, 7]) (by kernel_rfl) rfl (fun v W1 hB hF Q9 K hK => ?_) ?_
      · obtain ⟨b_HBb, b_Gb⟩ := hB
        have HBb := Lib.hid (show Below w.heap.size w W1 from b_HBb)
        have Gb := Lib.hid (show GR W1 w.heap.size P Q G from b_Gb)
        clear b_HBb b_Gb
        have hf7 : v 7 = .int .i64 mv := hF.1
        have e7 := hf7
        have E7 := Lib.hid e7
        clear e7 hf7
        have hf5 : v 5 = .int .i64 (Num.pow G (Q - 1) P) := hF.2.2.1
        have e5 := hf5
        have E5 := Lib.hid e5
        clear e5 hf5
        have hf6 : ∃ (b6 : Nat), v 6 = .slice (some ⟨b6, 0, none⟩) 2 2 ∧ (IsInts W1 (some ⟨b6, 0, none⟩) [c, Num.pow G (Q - 1) P]) := hF.2.2.2.1
        obtain ⟨b6, e6, f6_0⟩ := hf6
        have E6 := Lib.hid e6
        have L6 := Lib.hid (show IsInts W1 (some ⟨b6, 0, none⟩) [c, Num.pow G (Q - 1) P] from f6_0)
        clear e6 f6_0
        clear hF
        refine ⟨?_⟩
        simp only [putAll, Act.put, List.setIfInBounds_toArray, List.set_cons_succ, List.set_cons_zero, E7.out, E5.out, E6.out]
        go_simp
        have hk := hK.out
        simp only [putAll, Act.put, List.setIfInBounds_toArray, List.set_cons_succ, List.set_cons_zero, E7.out, E5.out, E6.out] at hk
        refine hk _ _ ?_ ?_
        · show (_ : Value) = .int .i64 mv
          exact rfl
        · exact (Below.refl _ _)
      exact Steps.nil
    intro v We hB hF
    clear hB0 hHeld
    obtain ⟨b_HBb, b_Gb⟩ := hB
    have HBb := Lib.hid (show Below w.heap.size w We from b_HBb)
    have Gb := Lib.hid (show GR We w.heap.size P Q G from b_Gb)
    clear b_HBb b_Gb
    have hf5 : v 5 = .int .i64 (Num.pow G (Q - 1) P) := hF.1
    have e5 := hf5
    have E5 := Lib.hid e5
    clear e5 hf5
    have hf6 : ∃ (b6 : Nat), v 6 = .slice (some ⟨b6, 0, none⟩) 2 2 ∧ (IsInts We (some ⟨b6, 0, none⟩) [c, Num.pow G (Q - 1) P]) := hF.2.1
    obtain ⟨b6, e6, f6_0⟩ := hf6
    have E6 := Lib.hid e6
    have L6 := Lib.hid (show IsInts We (some ⟨b6, 0, none⟩) [c, Num.pow G (Q - 1) P] from f6_0)
    clear e6 f6_0
    have hf7 : v 7 = .int .i64 mv := hF.2.2.1
    have e7 := hf7
    have E7 := Lib.hid e7
    clear e7 hf7
    have hf8 : v 8 = .int .i64 mv := hF.2.2.2.1
    have e8 := hf8
    have E8 := Lib.hid e8
    clear e8 hf8
    clear hF
    refine ⟨?_⟩
    simp only [putAll, Act.put, List.setIfInBounds_toArray, List.set_cons_succ, List.set_cons_zero, E5.out, E6.out, E7.out, E8.out]
    refine wpAnyH_done (by kernel_rfl) ?_ _
    go_wp2
    go_ret
    exact ⟨rfl, HBb.out⟩
  · obtain rfl : k = 0 := by omega
    have HV := Lib.hid (show rcV P Q G c 0 = c from rfl)
    rw [HV.out]
    clear hg hc HV hcr hk hmo h1
    go_enter Try.func85, Try.ntmps85
    go_wp2
    go_ret
    exact ⟨rfl, HB_0.out⟩

set_option maxRecDepth 100000 in
set_option maxHeartbeats 3200000 in
theorem rBitChallenge_any (P Q G H c x0 x1 : Int) (hg : goodB P Q G = true) (hH : elB P Q H = true) (hc : elB P Q c = true) (hx0 : elB P Q x0 = true) (hx1 : elB P Q x1 = true) {B xb xo xc : Nat} {y : Value} {hs : List Int} {w : World} (hy : InI B w y hs) (hC : CC w xb xo x0 x1) :
    Calls Try.prog 86 #[gv P Q G, .agg #[.int .i64 H, y], .int .i64 c, .slice (some ⟨xb, xo, none⟩) 2 xc] w fun e w' => e = .returned (.int .i64 (chX P Q G bitL [H, c, x0, x1])) ∧ Below w.heap.size w w' := by
  obtain ⟨ya, yc, rfl⟩ := hy.shape
  have G_0 := Lib.hid ((gr_at w (w.heap.size) (by simp) P Q G 32).below (ba (w.alloc (.cells #[.int .i64 P, .int .i64 Q, .int .i64 G] 32)) (.cells #[.int .i64 H, .slice ya hs.length yc] 34)))
  have V_0 := Lib.hid (d2_at (w.alloc (.cells #[.int .i64 P, .int .i64 Q, .int .i64 G] 32)) (w.heap.size + 1) (by simp) (.int .i64 H) (.slice ya hs.length yc) 34)
  have HB_0 := Lib.hid (show Below w.heap.size w ((w.alloc (.cells #[.int .i64 P, .int .i64 Q, .int .i64 G] 32)).alloc (.cells #[.int .i64 H, .slice ya hs.length yc] 34)) from bt (ba _ _) (ba _ _))
  have C_0 := Lib.hid (hC.below HB_0.out)
  clear hC hy
  have hmo := good_mo hg
  have hgr := good_rng hg
  have e1 := el_sm hg hH
  have e2 := el_sm hg hc
  have e3 := el_sm hg hx0
  have e4 := el_sm hg hx1
  have HD := Lib.hid (show ∀ z ∈ [H, c, x0, x1], 0 ≤ z ∧ z ≤ 4611686018427387903 from fun z hz => by
    simp only [List.mem_cons, List.not_mem_nil, or_false] at hz
    rcases hz with rfl | rfl | rfl | rfl <;> omega)
  have hG2 : 0 ≤ G ∧ G ≤ 2000000000 := el_sm hg (good_el hg)
  have hP2 : 0 ≤ P ∧ P ≤ 2000000000 := by have := hmo.1; omega
  have hQ2 := hgr.2.1
  obtain ⟨ch, hch⟩ : ∃ ch, chX P Q G bitL [H, c, x0, x1] = ch := ⟨_, rfl⟩
  rw [hch]
  have HCH := Lib.hid hch
  clear hg hH hc hx0 hx1 hmo hgr e1 e2 e3 e4 hch
  obtain ⟨gG0, gG1, gG2⟩ := G_0.out
  obtain ⟨cV0, cV1⟩ := V_0.out
  go_enter Try.func86, Try.ntmps86
  go_wp2_with fail
  clear gG0 gG1 gG2 cV0 cV1
  generalize hW9 : (w.alloc (.cells #[.int .i64 P, .int .i64 Q, .int .i64 G] 32)).alloc (.cells #[.int .i64 H, .slice ya hs.length yc] 34) = v0 at *
  clear hW9
  refine wp_region_held_drew (S := (fun w' => (w'.cell? ⟨w.heap.size, 0, none⟩ = some (.int .i64 P) ∧ w'.cell? ⟨w.heap.size, 1, none⟩ = some (.int .i64 Q) ∧ w'.cell? ⟨w.heap.size, 2, none⟩ = some (.int .i64 G)) ∧ (w'.cell? ⟨w.heap.size + 1, 0, none⟩ = some (.int .i64 H) ∧ w'.cell? ⟨w.heap.size + 1, 1, none⟩ = some (.slice ya hs.length yc)) ∧ (w'.cell? ⟨xb, xo, none⟩ = some (.int .i64 x0) ∧ w'.cell? ⟨xb, xo + 1, none⟩ = some (.int .i64 x1)))) (by kernel_rfl) (show _ from ⟨⟨G_0.out.1, G_0.out.2.1, G_0.out.2.2⟩, ⟨V_0.out.1, V_0.out.2⟩, C_0.out.1, C_0.out.2⟩) (fun hHeld => ?_)
  refine wpAnyH_take (i := 0) (v := ?_) rfl (by kernel_rfl) (by kernel_rfl) (by kernel_rfl) (fun _ _ _ h => h) (Or.inl ⟨by kernel_rfl, ?_⟩) (by assumption) ?_
  rotate_left 1
  · intro w9 hSw
    try dsimp only at hSw
    go_simp
    try with_reducible rfl
  try simp only [Act.put, List.getElem_toArray, List.getElem_cons_succ, List.getElem_cons_zero, List.setIfInBounds_toArray, List.set_cons_zero, List.set_cons_succ]
  refine wpAnyH_take (i := 1) (v := ?_) rfl (by kernel_rfl) (by kernel_rfl) (by kernel_rfl) (fun _ _ _ h => h) (Or.inl ⟨by kernel_rfl, ?_⟩) (by assumption) ?_
  rotate_left 1
  · intro w9 hSw
    try dsimp only at hSw
    go_simp
    try with_reducible rfl
  try simp only [Act.put, List.getElem_toArray, List.getElem_cons_succ, List.getElem_cons_zero, List.setIfInBounds_toArray, List.set_cons_zero, List.set_cons_succ]
  refine wpAnyH_take (i := 2) (v := ?_) rfl (by kernel_rfl) (by kernel_rfl) (by kernel_rfl) (fun _ _ _ h => h) (Or.inl ⟨by kernel_rfl, ?_⟩) (by assumption) ?_
  rotate_left 1
  · intro w9 hSw
    try dsimp only at hSw
    go_simp
    try with_reducible rfl
  try simp only [Act.put, List.getElem_toArray, List.getElem_cons_succ, List.getElem_cons_zero, List.setIfInBounds_toArray, List.set_cons_zero, List.set_cons_succ]
  refine wpAnyH_take (i := 3) (v := ?_) rfl (by kernel_rfl) (by kernel_rfl) (by kernel_rfl) (fun _ _ _ h => h) (Or.inl ⟨by kernel_rfl, ?_⟩) (by assumption) ?_
  rotate_left 1
  · intro w9 hSw
    try dsimp only at hSw
    go_simp
    try with_reducible rfl
  try simp only [Act.put, List.getElem_toArray, List.getElem_cons_succ, List.getElem_cons_zero, List.setIfInBounds_toArray, List.set_cons_zero, List.set_cons_succ]
  refine wpAnyH_take (i := 4) (v := ?_) rfl (by kernel_rfl) (by kernel_rfl) (by kernel_rfl) (fun _ _ _ h => h) (Or.inl ⟨by kernel_rfl, ?_⟩) (by assumption) ?_
  rotate_left 1
  · intro w9 hSw
    try dsimp only at hSw
    go_simp
    try with_reducible rfl
  try simp only [Act.put, List.getElem_toArray, List.getElem_cons_succ, List.getElem_cons_zero, List.setIfInBounds_toArray, List.set_cons_zero, List.set_cons_succ]
  refine wpAnyH_take (i := 5) (v := ?_) rfl (by kernel_rfl) (by kernel_rfl) (by kernel_rfl) (fun _ _ _ h => h) (Or.inl ⟨by kernel_rfl, ?_⟩) (by assumption) ?_
  rotate_left 1
  · intro w9 hSw
    try dsimp only at hSw
    go_simp
    try with_reducible rfl
  try simp only [Act.put, List.getElem_toArray, List.getElem_cons_succ, List.getElem_cons_zero, List.setIfInBounds_toArray, List.set_cons_zero, List.set_cons_succ]
  refine wpAnyH_take (i := 6) (v := ?_) rfl (by kernel_rfl) (by kernel_rfl) (by kernel_rfl) (fun _ _ _ h => h) (Or.inl ⟨by kernel_rfl, ?_⟩) (by assumption) ?_
  rotate_left 1
  · intro w9 hSw
    try dsimp only at hSw
    go_simp
    try with_reducible rfl
  try simp only [Act.put, List.getElem_toArray, List.getElem_cons_succ, List.getElem_cons_zero, List.setIfInBounds_toArray, List.set_cons_zero, List.set_cons_succ]
  refine wpAnyH_take (i := 7) (v := ?_) rfl (by kernel_rfl) (by kernel_rfl) (by kernel_rfl) (fun _ _ _ h => h) (Or.inl ⟨by kernel_rfl, ?_⟩) (by assumption) ?_
  rotate_left 1
  · intro w9 hSw
    try dsimp only at hSw
    go_simp
    try with_reducible rfl
  try simp only [Act.put, List.getElem_toArray, List.getElem_cons_succ, List.getElem_cons_zero, List.setIfInBounds_toArray, List.set_cons_zero, List.set_cons_succ]
  refine wpAnyH_take (i := 8) (v := ?_) rfl (by kernel_rfl) (by kernel_rfl) (by kernel_rfl) (fun _ _ _ h => h) (Or.inl ⟨by kernel_rfl, ?_⟩) (by assumption) ?_
  rotate_left 1
  · intro w9 hSw
    try dsimp only at hSw
    go_simp
    try with_reducible rfl
  try simp only [Act.put, List.getElem_toArray, List.getElem_cons_succ, List.getElem_cons_zero, List.setIfInBounds_toArray, List.set_cons_zero, List.set_cons_succ]
  refine wpAnyH_take (i := 9) (v := ?_) rfl (by kernel_rfl) (by kernel_rfl) (by kernel_rfl) (fun _ _ _ h => h) (Or.inl ⟨by kernel_rfl, ?_⟩) (by assumption) ?_
  rotate_left 1
  · intro w9 hSw
    try dsimp only at hSw
    go_simp
    try with_reducible rfl
  try simp only [Act.put, List.getElem_toArray, List.getElem_cons_succ, List.getElem_cons_zero, List.setIfInBounds_toArray, List.set_cons_zero, List.set_cons_succ]
  have hB0 : (fun w1 => (Below w.heap.size w w1) ∧ (GR w1 w.heap.size P Q G) ∧ (D2 w1 (w.heap.size + 1) (.int .i64 H) (.slice ya hs.length yc)) ∧ (CC w1 xb xo x0 x1)) v0.drew := ⟨HB_0.out.drew, G_0.out.drew, V_0.out.drew, C_0.out⟩
  refine wpAnyH_part (V := fun i u w1 => cond (Nat.beq i 10) (∃ (b10 : Nat), u = .slice (some ⟨b10, 0, none⟩) 4 4 ∧ (IsInts w1 (some ⟨b10, 0, none⟩) [H, c, x0, x1])) (cond (Nat.beq i 11) (u = .int .i64 ch) (cond (Nat.beq i 12) (u = .int .i64 ch) (True)))) (B := fun w1 => (Below w.heap.size w w1) ∧ (GR w1 w.heap.size P Q G) ∧ (D2 w1 (w.heap.size + 1) (.int .i64 H) (.slice ya hs.length yc)) ∧ (CC w1 xb xo x0 x1)) (R := fun w1 w2 => Below w1.heap.size w1 w2) 0 (rs := [10, 11, 12]) (ds := [(10, some 19), (11, some 20), (12, some 8)]) (by kernel_rfl) (by kernel_rfl) (by kernel_rfl) (by kernel_rfl) (by kernel_rfl) ?_ ?_ ?_ hB0 ?_ ?_
  · intro w1 w2 hB hR
    clear hB0
    obtain ⟨b_HBb, b_Gb, b_Vb, b_Cb⟩ := hB
    exact ⟨bt b_HBb hR, b_Gb.below hR, b_Vb.below hR, b_Cb.below hR⟩
  · clear hB0
    refine Last.cons (fun u w1 w2 hB h hR => ?_) ?_
    · have h1 : ∃ (b10 : Nat), u = .slice (some ⟨b10, 0, none⟩) 4 4 ∧ (IsInts w1 (some ⟨b10, 0, none⟩) [H, c, x0, x1]) := h
      show ∃ (b10 : Nat), u = .slice (some ⟨b10, 0, none⟩) 4 4 ∧ (IsInts w2 (some ⟨b10, 0, none⟩) [H, c, x0, x1])
      obtain ⟨b10, e, f0⟩ := h1
      exact ⟨b10, e, f0.below hR (Nat.le_refl _)⟩
    refine Last.cons (fun u w1 w2 hB h hR => ?_) ?_
    · have h1 : u = .int .i64 ch := h
      show u = .int .i64 ch
      exact h1
    refine Last.cons (fun u w1 w2 hB h hR => ?_) ?_
    · have h1 : u = .int .i64 ch := h
      show u = .int .i64 ch
      exact h1
    exact Last.nil
  · intro w1 hB
    clear hB0
    obtain ⟨b_HBb, b_Gb, b_Vb, b_Cb⟩ := hB
    have HBb := Lib.hid (show Below w.heap.size w w1 from b_HBb)
    have Gb := Lib.hid (show GR w1 w.heap.size P Q G from b_Gb)
    have Vb := Lib.hid (show D2 w1 (w.heap.size + 1) (.int .i64 H) (.slice ya hs.length yc) from b_Vb)
    have Cb := Lib.hid (show CC w1 xb xo x0 x1 from b_Cb)
    clear b_HBb b_Gb b_Vb b_Cb
    exact ⟨⟨Gb.out.1, Gb.out.2.1, Gb.out.2.2⟩, ⟨Vb.out.1, Vb.out.2⟩, Cb.out.1, Cb.out.2⟩
  · clear hB0 hHeld
    refine Steps.cons rfl (js := []) (by kernel_rfl) rfl (fun v W1 hB hF Q9 K hK => ?_) ?_
    · obtain ⟨b_HBb, b_Gb, b_Vb, b_Cb⟩ := hB
      have HBb := Lib.hid (show Below w.heap.size w W1 from b_HBb)
      have Gb := Lib.hid (show GR W1 w.heap.size P Q G from b_Gb)
      have Vb := Lib.hid (show D2 W1 (w.heap.size + 1) (.int .i64 H) (.slice ya hs.length yc) from b_Vb)
      have Cb := Lib.hid (show CC W1 xb xo x0 x1 from b_Cb)
      clear b_HBb b_Gb b_Vb b_Cb
      clear hF
      refine ⟨?_⟩
      simp only [putAll, Act.put, List.setIfInBounds_toArray, List.set_cons_succ, List.set_cons_zero]
      go_simp
      have hk := hK.out
      simp only [putAll, Act.put, List.setIfInBounds_toArray, List.set_cons_succ, List.set_cons_zero] at hk
      refine hk _ _ ?_ ?_
      · show ∃ (b10 : Nat), (_ : Value) = .slice (some ⟨b10, 0, none⟩) 4 4 ∧ (IsInts (W1.alloc (.cells #[.int .i64 H, .int .i64 c, .int .i64 x0, .int .i64 x1] 3)) (some ⟨b10, 0, none⟩) [H, c, x0, x1])
        exact ⟨_, rfl, ints_spot W1 _ rfl [H, c, x0, x1] 3⟩
      · exact (ba _ _)
    refine Steps.cons rfl (js := [10]) (by kernel_rfl) rfl (fun v W1 hB hF Q9 K hK => ?_) ?_
    · obtain ⟨b_HBb, b_Gb, b_Vb, b_Cb⟩ := hB
      have HBb := Lib.hid (show Below w.heap.size w W1 from b_HBb)
      have Gb := Lib.hid (show GR W1 w.heap.size P Q G from b_Gb)
      have Vb := Lib.hid (show D2 W1 (w.heap.size + 1) (.int .i64 H) (.slice ya hs.length yc) from b_Vb)
      have Cb := Lib.hid (show CC W1 xb xo x0 x1 from b_Cb)
      clear b_HBb b_Gb b_Vb b_Cb
      have hf10 : ∃ (b10 : Nat), v 10 = .slice (some ⟨b10, 0, none⟩) 4 4 ∧ (IsInts W1 (some ⟨b10, 0, none⟩) [H, c, x0, x1]) := hF.1
      obtain ⟨b10, e10, f10_0⟩ := hf10
      have E10 := Lib.hid e10
      have L10 := Lib.hid (show IsInts W1 (some ⟨b10, 0, none⟩) [H, c, x0, x1] from f10_0)
      clear e10 f10_0
      clear hF
      refine ⟨?_⟩
      simp only [putAll, Act.put, List.setIfInBounds_toArray, List.set_cons_succ, List.set_cons_zero, E10.out]
      go_simp
      go_at_call 99
      refine (hChallenge_any P Q G hP2 hQ2 hG2 bitL (by decide) _ 4 4 [H, c, x0, x1] rfl (by decide) (fun h => by cases h) HD.out _ L10.out).mono ?_
      rw [HCH.out]
      rintro e' W2 ⟨rfl, hb⟩
      go_wp2_with fail
      have hk := hK.out
      simp only [putAll, Act.put, List.setIfInBounds_toArray, List.set_cons_succ, List.set_cons_zero, E10.out] at hk
      refine hk _ _ ?_ ?_
      · show (_ : Value) = .int .i64 ch
        exact rfl
      · exact hb
    refine Steps.cons rfl (js := [11, 11, 10, 11]) (by kernel_rfl) rfl (fun v W1 hB hF Q9 K hK => ?_) ?_
    · obtain ⟨b_HBb, b_Gb, b_Vb, b_Cb⟩ := hB
      have HBb := Lib.hid (show Below w.heap.size w W1 from b_HBb)
      have Gb := Lib.hid (show GR W1 w.heap.size P Q G from b_Gb)
      have Vb := Lib.hid (show D2 W1 (w.heap.size + 1) (.int .i64 H) (.slice ya hs.length yc) from b_Vb)
      have Cb := Lib.hid (show CC W1 xb xo x0 x1 from b_Cb)
      clear b_HBb b_Gb b_Vb b_Cb
      have hf11 : v 11 = .int .i64 ch := hF.1
      have e11 := hf11
      have E11 := Lib.hid e11
      clear e11 hf11
      have hf10 : ∃ (b10 : Nat), v 10 = .slice (some ⟨b10, 0, none⟩) 4 4 ∧ (IsInts W1 (some ⟨b10, 0, none⟩) [H, c, x0, x1]) := hF.2.2.1
      obtain ⟨b10, e10, f10_0⟩ := hf10
      have E10 := Lib.hid e10
      have L10 := Lib.hid (show IsInts W1 (some ⟨b10, 0, none⟩) [H, c, x0, x1] from f10_0)
      clear e10 f10_0
      clear hF
      refine ⟨?_⟩
      simp only [putAll, Act.put, List.setIfInBounds_toArray, List.set_cons_succ, List.set_cons_zero, E11.out, E10.out]
      go_simp
      have hk := hK.out
      simp only [putAll, Act.put, List.setIfInBounds_toArray, List.set_cons_succ, List.set_cons_zero, E11.out, E10.out] at hk
      refine hk _ _ ?_ ?_
      · show (_ : Value) = .int .i64 ch
        exact rfl
      · exact (Below.refl _ _)
    exact Steps.nil
  intro v We hB hF
  clear hB0 hHeld
  obtain ⟨b_HBb, b_Gb, b_Vb, b_Cb⟩ := hB
  have HBb := Lib.hid (show Below w.heap.size w We from b_HBb)
  have Gb := Lib.hid (show GR We w.heap.size P Q G from b_Gb)
  have Vb := Lib.hid (show D2 We (w.heap.size + 1) (.int .i64 H) (.slice ya hs.length yc) from b_Vb)
  have Cb := Lib.hid (show CC We xb xo x0 x1 from b_Cb)
  clear b_HBb b_Gb b_Vb b_Cb
  have hf10 : ∃ (b10 : Nat), v 10 = .slice (some ⟨b10, 0, none⟩) 4 4 ∧ (IsInts We (some ⟨b10, 0, none⟩) [H, c, x0, x1]) := hF.1
  obtain ⟨b10, e10, f10_0⟩ := hf10
  have E10 := Lib.hid e10
  have L10 := Lib.hid (show IsInts We (some ⟨b10, 0, none⟩) [H, c, x0, x1] from f10_0)
  clear e10 f10_0
  have hf11 : v 11 = .int .i64 ch := hF.2.1
  have e11 := hf11
  have E11 := Lib.hid e11
  clear e11 hf11
  have hf12 : v 12 = .int .i64 ch := hF.2.2.1
  have e12 := hf12
  have E12 := Lib.hid e12
  clear e12 hf12
  clear hF
  refine ⟨?_⟩
  simp only [putAll, Act.put, List.setIfInBounds_toArray, List.set_cons_succ, List.set_cons_zero, E10.out, E11.out, E12.out]
  refine wpAnyH_done (by kernel_rfl) ?_ _
  go_wp2
  go_ret
  exact ⟨rfl, HBb.out⟩

set_option maxRecDepth 100000 in
set_option maxHeartbeats 3200000 in
theorem rSumChallenge_any (P Q G H c t x : Int) (hg : goodB P Q G = true) (hH : elB P Q H = true) (hc : elB P Q c = true) (ht : 0 ≤ t ∧ t < Q) (hx : elB P Q x = true) {y : Value} (w : World) :
    Calls Try.prog 65 #[gv P Q G, .agg #[.int .i64 H, y], .int .i64 c, .int .i64 t, .int .i64 x] w fun e w' => e = .returned (.int .i64 (chX P Q G sumL [H, c, t, x])) ∧ Below w.heap.size w w' := by
  have hmo := good_mo hg
  have hgr := good_rng hg
  have e1 := el_sm hg hH
  have e2 := el_sm hg hc
  have e3 := el_sm hg hx
  have hG2 : 0 ≤ G ∧ G ≤ 2000000000 := el_sm hg (good_el hg)
  have hP2 : 0 ≤ P ∧ P ≤ 2000000000 := by have := hmo.1; omega
  have hQ2 := hgr.2.1
  have HD := Lib.hid (show ∀ z ∈ [H, c, t, x], 0 ≤ z ∧ z ≤ 4611686018427387903 from fun z hz => by
    simp only [List.mem_cons, List.not_mem_nil, or_false] at hz
    rcases hz with rfl | rfl | rfl | rfl <;> omega)
  have G_0 := Lib.hid ((gr_at w (w.heap.size) (by simp) P Q G 32).below (ba (w.alloc (.cells #[.int .i64 P, .int .i64 Q, .int .i64 G] 32)) (.cells #[.int .i64 H, y] 34)))
  have V_0 := Lib.hid (d2_at (w.alloc (.cells #[.int .i64 P, .int .i64 Q, .int .i64 G] 32)) (w.heap.size + 1) (by simp) (.int .i64 H) y 34)
  have HB_0 := Lib.hid (show Below w.heap.size w ((w.alloc (.cells #[.int .i64 P, .int .i64 Q, .int .i64 G] 32)).alloc (.cells #[.int .i64 H, y] 34)) from bt (ba _ _) (ba _ _))
  obtain ⟨gG0, gG1, gG2⟩ := G_0.out
  obtain ⟨cV0, cV1⟩ := V_0.out
  clear hg hH hc hx hmo hgr e1 e2 e3
  go_enter Try.func65, Try.ntmps65
  go_wp2_with fail
  refine (hChallenge_any P Q G hP2 hQ2 hG2 sumL (by decide) _ 4 4 [H, c, t, x] rfl (by decide) (fun h => by cases h) HD.out _ (ints_spot _ (w.heap.size + 1 + 1) (by simp) [H, c, t, x] 3)).mono ?_
  rintro e' v9 ⟨rfl, hb9⟩
  have HB_9 := Lib.hid (bt (bt HB_0.out (ba _ _)) hb9)
  clear hb9
  go_wp2
  go_ret
  exact ⟨rfl, HB_9.out⟩

def nbB (n : Int) : Bool := inB n 1 16
theorem isBitCount_any (n : Int) (w : World) : Calls Try.prog 54 #[.int .i64 n] w fun e w' => e = .returned (.bool (nbB n)) ∧ w = w' := by
  by_cases h1 : 1 ≤ n
  · by_cases h2 : n ≤ 16
    · have E := Lib.hid (show nbB n = true from inB_true.2 ⟨h1, h2⟩)
      rw [E.out]
      go_enter Try.func54, Try.ntmps54
      go_wp2
      go_ret
      exact ⟨rfl, rfl⟩
    · have E := Lib.hid (show nbB n = false by unfold nbB; rw [inB_false]; omega)
      rw [E.out]
      go_enter Try.func54, Try.ntmps54
      go_wp2
      go_ret
      exact ⟨rfl, rfl⟩
  · have E := Lib.hid (show nbB n = false by unfold nbB; rw [inB_false]; omega)
    rw [E.out]
    go_enter Try.func54, Try.ntmps54
    go_wp2
    go_ret
    exact ⟨rfl, rfl⟩
theorem rangeCoins_any (n : Int) (h1 : 1 ≤ n) (h2 : n ≤ 16) (w : World) : Calls Try.prog 55 #[.int .i64 n] w fun e w' => e = .returned (.int .i64 (4 * n - 1)) ∧ w = w' := by
  go_enter Try.func55, Try.ntmps55
  go_wp2
  go_ret
  exact ⟨ret_int (by omega), rfl⟩
def cfV (n : Int) : Int := if nbB n then 4 * n - 1 else 0
theorem coinsForRange_any (n : Int) (w : World) : Calls Try.prog 28 #[.int .i64 n] w fun e w' => e = .returned (.tuple #[.int .i64 (cfV n), .bool (nbB n)]) ∧ w = w' := by
  cases h : nbB n
  · have E := Lib.hid (show cfV n = 0 by unfold cfV; rw [h]; rfl)
    rw [E.out]
    have H := Lib.hid h
    clear h
    go_enter Try.func28, Try.ntmps28
    go_wp2_with fail
    refine (isBitCount_any n _).mono ?_; rintro e w' ⟨rfl, rfl⟩; rw [H.out]
    go_wp2
    go_ret2
    exact ⟨rfl, rfl⟩
  · have E := Lib.hid (show cfV n = 4 * n - 1 by unfold cfV; rw [h]; rfl)
    rw [E.out]
    have H := Lib.hid h
    obtain ⟨n1, n2⟩ := inB_true.1 h
    clear h
    go_enter Try.func28, Try.ntmps28
    go_wp2_with fail
    refine (isBitCount_any n _).mono ?_; rintro e w' ⟨rfl, rfl⟩; rw [H.out]
    go_wp2_with fail
    refine (rangeCoins_any n n1 n2 _).mono ?_; rintro e w' ⟨rfl, rfl⟩
    go_wp2
    go_ret2
    exact ⟨rfl, rfl⟩
theorem sCoinsForRange_any (n : Int) (w : World) : Calls Try.prog 27 #[.int .i64 n] w fun e w' => e = .returned (.tuple #[.int .i64 (cfV n), .bool (nbB n)]) ∧ w = w' := by
  cases h : nbB n
  · have E := Lib.hid (show cfV n = 0 by unfold cfV; rw [h]; rfl)
    rw [E.out]
    have H := Lib.hid (show inB n 1 16 = false from h)
    clear h
    go_enter Try.func27, Try.ntmps27
    go_wp2_with fail
    refine (l1In_any n 1 16 _).mono ?_; rintro e w' ⟨rfl, rfl⟩; rw [H.out]
    go_wp2
    go_ret2
    exact ⟨rfl, rfl⟩
  · have E := Lib.hid (show cfV n = 4 * n - 1 by unfold cfV; rw [h]; rfl)
    rw [E.out]
    have H := Lib.hid (show inB n 1 16 = true from h)
    obtain ⟨n1, n2⟩ := inB_true.1 h
    clear h
    go_enter Try.func27, Try.ntmps27
    go_wp2_with fail
    refine (l1In_any n 1 16 _).mono ?_; rintro e w' ⟨rfl, rfl⟩; rw [H.out]
    go_wp2
    go_ret2
    exact ⟨rfl, rfl⟩

end Go.Proofs.Ytblclghbabhdlaa

