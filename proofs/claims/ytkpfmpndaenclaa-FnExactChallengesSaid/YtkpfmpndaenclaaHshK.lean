/- Challenges: both functions. -/
import Derived.Test.YtkpfmpndaenclaaHshJ
namespace Go.Proofs.Ytkpfmpndaenclaa
open Go.RowKit

theorem gh_sets {w : World} {b d : Nat} {P Q G X Y : Int} (h : GH w b P Q G d X Y) (a : Addr) (v : Value) (h1 : a.block ≠ b) (h2 : a.block ≠ d) :
    (w.setCell a v).cell? ⟨b, 0, none⟩ = some (.int .i64 P) ∧ (w.setCell a v).cell? ⟨b, 1, none⟩ = some (.int .i64 Q) ∧ (w.setCell a v).cell? ⟨b, 2, none⟩ = some (.int .i64 G) ∧ (w.setCell a v).cell? ⟨d, 0, none⟩ = some (.int .i64 X) ∧ (w.setCell a v).cell? ⟨d, 1, none⟩ = some (.int .i64 Y) := by
  obtain ⟨c0, c1, c2, d0, d1⟩ := h
  have nb : ∀ j, a ≠ (⟨b, j, none⟩ : Addr) := fun j e => h1 (by rw [e])
  have nd : ∀ j, a ≠ (⟨d, j, none⟩ : Addr) := fun j e => h2 (by rw [e])
  refine ⟨?_, ?_, ?_, ?_, ?_⟩
  · rw [World.cell?_setCell_other _ _ _ _ (nb 0)]; exact c0
  · rw [World.cell?_setCell_other _ _ _ _ (nb 1)]; exact c1
  · rw [World.cell?_setCell_other _ _ _ _ (nb 2)]; exact c2
  · rw [World.cell?_setCell_other _ _ _ _ (nd 0)]; exact d0
  · rw [World.cell?_setCell_other _ _ _ _ (nd 1)]; exact d1

theorem own_listOut {w w' : World} {zs : List Int} {va : Option Addr} {vc : Nat} (h : w'.ownsRow w.heap.size 3 1 (.slice va zs.length vc) zs.length (zs.map (Value.int .i64))) (hb : Below w.heap.size w w') (n : Nat) (hn : zs.length = n) :
    ListOut w zs true (.returned (.tuple #[.slice va n vc, .bool true])) w' := ⟨va, n, vc, rfl, by rw [← hn]; exact h, hb⟩

set_option maxRecDepth 100000 in
set_option maxHeartbeats 3200000 in
theorem sChallenges_any (P Q G : Int) (s : ByteArray) (hs : s.size ≤ 1048576) (ad : Option Addr) (n cap : Nat) (zs : List Int) (hn : zs.length = n) (hl : n ≤ 100000000) (hnil : ad = none → cap = 0) (m : Int) (w : World) (hz : IsInts w ad zs) :
    Calls Try.prog 45 #[gv P Q G, .string s, .slice ad n cap, .int .i64 m] w (ListOut w (csV P Q G s zs m) (csOk P Q G s zs m)) := by
  have hal := ba w (.cells #[.int .i64 P, .int .i64 Q, .int .i64 G] 24)
  have HZ := Lib.hid (hz.below hal (Nat.le_refl _))
  have HV := Lib.hid (gr_new w P Q G 24)
  have HB0 := Lib.hid hal
  have HN := Lib.hid hn
  have HNIL := Lib.hid hnil
  clear hz hal hn hnil
  obtain ⟨c0, c1, c2⟩ := HV.out
  cases hg : goodB P Q G
  · have e1 : csOk P Q G s zs m = false := by simp [csOk, chB, hg]
    rw [e1, cs_off e1]
    have HG := Lib.hid hg
    clear hg e1
    go_enter Try.func45, Try.ntmps45
    go_wp2_with fail
    refine (l2Good_any P Q G _).mono ?_
    rw [HG.out]
    rintro e w1 ⟨rfl, hb1⟩
    have HB1 := Lib.hid (bt HB0.out hb1)
    clear hb1
    go_wp2
    go_ret2
    exact listOut_nil _ _ HB1.out
  have HG := Lib.hid hg
  cases hh : hashL s zs 4
  · have e1 : csOk P Q G s zs m = false := by simp [csOk, chB, hh]
    rw [e1, cs_off e1]
    have HH := Lib.hid hh
    clear hg e1 hh
    go_enter Try.func45, Try.ntmps45
    go_wp2_with fail
    refine (l2Good_any P Q G _).mono ?_
    rw [HG.out]
    rintro e w1 ⟨rfl, hb1⟩
    have HB1 := Lib.hid (bt HB0.out hb1)
    have HZ1 := Lib.hid (HZ.out.below hb1 (Nat.le_refl _))
    clear hb1
    go_wp2_with fail
    refine (l3Label_any s hs _ _ _ zs HN.out (by omega) 4 (by decide) (by decide) _ HZ1.out).mono ?_
    rw [HH.out]
    rintro e w' ⟨rfl, rfl⟩
    go_wp2
    go_ret2
    exact listOut_nil _ _ HB1.out
  have HH := Lib.hid hh
  have hch : chB P Q G s zs 4 = true := by unfold chB; rw [hg, hh]; rfl
  cases hm : inB m 0 100
  · have e1 : csOk P Q G s zs m = false := by simp [csOk, hm]
    rw [e1, cs_off e1]
    have HM := Lib.hid hm
    clear hg e1 hh hm hch
    go_enter Try.func45, Try.ntmps45
    go_wp2_with fail
    refine (l2Good_any P Q G _).mono ?_
    rw [HG.out]
    rintro e w1 ⟨rfl, hb1⟩
    have HB1 := Lib.hid (bt HB0.out hb1)
    have HZ1 := Lib.hid (HZ.out.below hb1 (Nat.le_refl _))
    clear hb1
    go_wp2_with fail
    refine (l3Label_any s hs _ _ _ zs HN.out (by omega) 4 (by decide) (by decide) _ HZ1.out).mono ?_
    rw [HH.out]
    rintro e w' ⟨rfl, rfl⟩
    go_wp2_with fail
    refine (l1In_any _ _ _ _).mono ?_
    rw [HM.out]
    rintro e w' ⟨rfl, rfl⟩
    go_wp2
    go_ret2
    exact listOut_nil _ _ HB1.out
  · obtain ⟨m0, m1⟩ := inB_true.1 hm
    obtain ⟨m, rfl⟩ := Int.eq_ofNat_of_zero_le m0
    have hm100 : m ≤ 100 := by omega
    have e1 : csOk P Q G s zs m = true := by unfold csOk; rw [hch, hm]; rfl
    have e2 : csV P Q G s zs m = chL P Q G s zs m := by simp [csV, e1]
    rw [e1, e2]
    obtain ⟨hP, hQ, hG⟩ := good_rng hg
    obtain ⟨h1, h2⟩ := hashL_true.1 hh
    have h3 := labB_true.1 h1
    have hn400 : n ≤ 400 := by have := HN.out; omega
    have HD := Lib.hid (digsB_true.1 h2)
    have HM := Lib.hid hm
    clear hg e1 e2 hh h1 h2 hm hch
    go_enter Try.func45, Try.ntmps45
    go_wp2_with fail
    refine (l2Good_any P Q G _).mono ?_
    rw [HG.out]
    rintro e w1 ⟨rfl, hb1⟩
    have HB1 := Lib.hid (bt HB0.out hb1)
    have HZ1 := Lib.hid (HZ.out.below hb1 (Nat.le_refl _))
    have HV1 := Lib.hid (HV.out.below hb1)
    clear hb1 c0 c1 c2
    obtain ⟨c0, c1, c2⟩ := HV1.out
    go_wp2_with fail
    refine (l3Label_any s hs _ _ _ zs HN.out (by omega) 4 (by decide) (by decide) _ HZ1.out).mono ?_
    rw [HH.out]
    rintro e w' ⟨rfl, rfl⟩
    go_wp2_with fail
    refine (l1In_any _ _ _ _).mono ?_
    rw [HM.out]
    rintro e w' ⟨rfl, rfl⟩
    go_wp2_with fail
    refine (hChallenges_any P Q G hP hQ hG s (by omega) _ _ _ zs HN.out (by omega) HNIL.out HD.out m hm100 _ HZ1.out).mono ?_
    rintro e w2 ⟨va, vc, rfl, hown, hb2⟩
    have HB2 := Lib.hid (bt HB1.out hb2)
    have HO2 := Lib.hid (own_base hown HB1.out.size)
    clear hb2 hown
    go_wp2
    go_ret2
    exact ⟨_, _, _, rfl, HO2.out, HB2.out⟩

set_option maxRecDepth 100000 in
set_option maxHeartbeats 6400000 in
theorem challenges_any (P Q G : Int) (s : ByteArray) (hs : s.size ≤ 1048576) (ad : Option Addr) (n cap : Nat) (zs : List Int) (hn : zs.length = n) (hl : n ≤ 100000000) (m : Int) (w : World) (hz : IsInts w ad zs) :
    Calls Try.prog 46 #[gv P Q G, .string s, .slice ad n cap, .int .i64 m] w (ListOut w (csV P Q G s zs m) (csOk P Q G s zs m)) := by
  have hal := ba w (.cells #[.int .i64 P, .int .i64 Q, .int .i64 G] 24)
  have HZ := Lib.hid (hz.below hal (Nat.le_refl _))
  have HV := Lib.hid (gr_new w P Q G 24)
  have HB0 := Lib.hid hal
  have HN := Lib.hid hn
  clear hz hal
  obtain ⟨c0, c1, c2⟩ := HV.out
  by_cases hn0 : m < 0
  · have e1 : csOk P Q G s zs m = false := by
      have : inB m 0 100 = false := inB_false.2 (.inl hn0)
      simp [csOk, this]
    rw [e1, cs_off e1]
    clear e1 hn
    go_enter Try.func46, Try.ntmps46
    go_wp2
    go_ret2
    exact listOut_nil _ _ HB0.out
  by_cases hn1 : 100 < m
  · have e1 : csOk P Q G s zs m = false := by
      have : inB m 0 100 = false := inB_false.2 (.inr hn1)
      simp [csOk, this]
    rw [e1, cs_off e1]
    clear e1 hn
    go_enter Try.func46, Try.ntmps46
    go_wp2
    go_ret2
    exact listOut_nil _ _ HB0.out
  obtain ⟨m, rfl⟩ := Int.eq_ofNat_of_zero_le (show 0 ≤ m by omega)
  have hm : m ≤ 100 := by omega
  have hmi : (m : Int) ≤ 100 := by omega
  clear hn1
  cases hc : chB P Q G s zs 4
  · have e1 : csOk P Q G s zs m = false := by simp [csOk, hc]
    rw [e1, cs_off e1]
    have HC := Lib.hid (show chB P Q G s zs (3 + 1) = false from hc)
    clear e1 hc hn
    go_enter Try.func46, Try.ntmps46
    go_wp2_with fail
    refine (canChallenge_any P Q G s hs _ _ _ zs HN.out (by omega) 1 (by decide) (by decide) _ HZ.out).mono ?_
    rw [HC.out]
    rintro e w1 ⟨rfl, hb1⟩
    have HB1 := Lib.hid (bt HB0.out hb1)
    clear hb1
    go_wp2
    go_ret2
    exact listOut_nil _ _ HB1.out
  have e1 : csOk P Q G s zs m = true := by unfold csOk; rw [hc, inB_true.2 (by omega)]; rfl
  have e2 : csV P Q G s zs m = chL P Q G s zs m := by simp [csV, e1]
  rw [e1, e2]
  obtain ⟨hg, _, hd⟩ := chB_true.1 hc
  obtain ⟨hP, hQ, hG⟩ := good_rng hg
  have HC := Lib.hid (show chB P Q G s zs (3 + 1) = true from hc)
  have HD := Lib.hid (digsB_true.1 hd)
  have hnb : (n : Int) ≤ 100000000 := by omega
  have hnz : 0 ≤ (n : Int) := by omega
  have hqn : Q ≠ 0 := by omega
  have HSTATE := Lib.hid (show ∀ c : Int, chX P Q G s (zs ++ [c]) = (2147483648 * hab 48271 (hfold 48271 (gst 48271 1 P Q G s (n + 1)) zs) c + hab 69621 (hfold 69621 (gst 69621 2 P Q G s (n + 1)) zs) c) % Q from fun c => by
    rw [chX_state, hn])
  have HXY := Lib.hid (hb_fold 48271 69621 _ _ zs zs (hb_gst P Q G s (n + 1)))
  obtain ⟨i0, hi, hz0, hz1, hz2⟩ := info_parts Try.info3
  have HZ2 := Lib.hid hz2
  clear e1 e2 hc hg hd hz2 hn
  go_enter Try.func46, Try.ntmps46
  go_wp2_with fail
  refine (canChallenge_any P Q G s hs _ _ _ zs HN.out (by omega) 1 (by decide) (by decide) _ HZ.out).mono ?_
  rw [HC.out]
  rintro e w1 ⟨rfl, hb1⟩
  have HB1 := Lib.hid (bt HB0.out hb1)
  have HV1 := Lib.hid (HV.out.below hb1)
  have HZ1 := Lib.hid (HZ.out.below hb1 (Nat.le_refl _))
  clear hb1 c0 c1 c2
  obtain ⟨c0, c1, c2⟩ := HV1.out
  go_wp2_with fail
  refine (gStart_any P Q G hP hQ hG s hs (n + 1) (by omega) (by omega) _).mono ?_
  rintro e w2 ⟨rfl, hb2⟩
  have HB2 := Lib.hid (bt HB1.out hb2)
  have HV2 := Lib.hid (HV1.out.below hb2)
  have HZ2' := Lib.hid (HZ1.out.below hb2 (Nat.le_refl _))
  clear hb2 c0 c1 c2
  go_wp2_with fail
  refine (absorb_any _ _ (hb_gst _ _ _ _ _) _ _ _ zs HN.out (by omega) HD.out _ HZ2'.out).mono ?_
  generalize hfold 48271 (gst 48271 1 P Q G s (n + 1)) zs = X at *
  generalize hfold 69621 (gst 69621 2 P Q G s (n + 1)) zs = Y at *
  rintro e w3 ⟨rfl, hb3⟩
  have hal3 := ba w3 (.cells #[.int .i64 X, .int .i64 Y] 88)
  have HB3 := Lib.hid (bt (bt HB2.out hb3) hal3)
  have HG3 := Lib.hid (gh_mk ((HV2.out.below hb3).below hal3) (hs_new w3 X Y 88))
  have hs3 : (w3.alloc (.cells #[.int .i64 X, .int .i64 Y] 88)).heap.size = w3.heap.size + 1 := by simp
  have hw3 : w.heap.size < w3.heap.size := (HV2.out.below hb3).lt
  have HS3 := Lib.hid hs3
  clear hb3 hal3 hs3
  go_wp2_with (at_make; refine wpList_make_full _ rfl _ _ 36 rfl (w3.heap.size + 1) 3 i0 (.int .i64 0) 1 Try.underlying36 hi hz0 hz1 .i64 .i64 _ _ m rfl rfl rfl rfl (by rw [HZ2.out]; omega) (by unfold maxLen; omega) (by simp) ?_; intro w4 hown hgrow)
  rw [HS3.out] at hown
  have HB4 := Lib.hid (HB3.out.grown hgrow HB3.out.size (by simp))
  have HG4 := Lib.hid (show GH w4 w.heap.size P Q G w3.heap.size X Y from by
    obtain ⟨g0, g1, g2, g3, g4⟩ := HG3.out
    exact ⟨hgrow.cell (a := ⟨w.heap.size, 0, none⟩) g0 (by simp), hgrow.cell (a := ⟨w.heap.size, 1, none⟩) g1 (by simp), hgrow.cell (a := ⟨w.heap.size, 2, none⟩) g2 (by simp), hgrow.cell (a := ⟨w3.heap.size, 0, none⟩) g3 (by simp), hgrow.cell (a := ⟨w3.heap.size, 1, none⟩) g4 (by simp)⟩)
  have HO4 := Lib.hid (show w4.ownsRow (w3.heap.size + 1) 3 1 (.slice (some ⟨w3.heap.size + 1, 0, none⟩) m m) m ((mix (chL P Q G s zs m) 0).map (Value.int .i64)) from by
    rw [mix_zero, chL_length]
    have h := hown
    rw [show Value.cells (.int .i64 0) = #[.int .i64 0] from rfl, Nat.mul_one, toList_madeCells_one] at h
    simpa using h)
  clear hown hgrow
  go_wp2
  go_loopw [12, 38] (fun _ K wr => ∃ k : Nat, k ≤ m ∧ K = .int .i64 k ∧ GH wr w.heap.size P Q G w3.heap.size X Y ∧ wr.ownsRow (w3.heap.size + 1) 3 1 (.slice (some ⟨w3.heap.size + 1, 0, none⟩) m m) m ((mix (chL P Q G s zs m) k).map (Value.int .i64)) ∧ Below w.heap.size w wr) (fun _ K _ => m - (intOf K).toNat)
  case atStart => exact ⟨0, Nat.zero_le _, rfl, HG4.out, HO4.out, HB4.out⟩
  case round =>
    obtain ⟨k, hk, rfl, hgh, hown, hbel⟩ := hrel
    have HGr := Lib.hid hgh
    have HO := Lib.hid hown
    have HBr := Lib.hid hbel
    clear hown hbel
    by_cases hkm : k < m
    · have hki : (k : Int) < (m : Int) := by omega
      obtain ⟨D, hD⟩ : ∃ D, D = 2147483648 * hab 48271 X k + hab 69621 Y k := ⟨_, rfl⟩
      have hD0 : 0 ≤ D := by rw [hD]; exact (hdig_nn (hb_ab 48271 69621 X Y k k)).1
      have HDE := Lib.hid hD
      have HCX := Lib.hid (show chX P Q G s (zs ++ [(k : Int)]) = D % Q from by rw [hD]; exact HSTATE.out k)
      have htm : D.tmod Q = D % Q := Int.tmod_eq_emod_of_nonneg hD0
      have hne1 : w3.heap.size + 1 ≠ w.heap.size := by omega
      have hne2 : w3.heap.size + 1 ≠ w3.heap.size := by omega
      clear hD
      obtain ⟨c0, c1, c2, x0, x1⟩ := hgh
      go_wp2_with fail
      go_region_held3 (fun w' => w'.cell? ⟨w.heap.size, 0, none⟩ = some (.int .i64 P) ∧ w'.cell? ⟨w.heap.size, 1, none⟩ = some (.int .i64 Q) ∧ w'.cell? ⟨w.heap.size, 2, none⟩ = some (.int .i64 G) ∧ w'.cell? ⟨w3.heap.size, 0, none⟩ = some (.int .i64 X) ∧ w'.cell? ⟨w3.heap.size, 1, none⟩ = some (.int .i64 Y)) (first | with_reducible exact gh_in HG5.out | with_reducible exact gh_in HG6.out | with_reducible exact gh_alcd HGr.out _ | exact ⟨c0, c1, c2, x0, x1⟩ | exact gh_sets HG6.out _ _ hne1 hne2) ((first
        | (go_at_call 88; refine (absorb_any X Y HXY.out _ 1 1 [(k : Int)] rfl (by decide) (by simp; omega) _ (ints_drew (ints_spot wr _ rfl [(k : Int)] 3))).mono ?_; rintro e w5 ⟨rfl, hb5⟩; have hal5 := (ba wr (.cells #[.int .i64 (k : Int)] 3)); have HB5 := Lib.hid (HBr.out.trans ((bt hal5.drew hb5).mono HBr.out.size)); have HG5 := Lib.hid (GH.below (GH.drew (HGr.out.below hal5)) hb5); have HO5 := Lib.hid (own_below HO.out (bt hal5.drew hb5)); clear hb5 hal5)
        | (go_at_call 89; refine (hdigest_any _ _ (hb_fold _ _ _ _ _ _ HXY.out) _).mono ?_; rw [show 2147483648 * hfold 48271 X [(k : Int)] + hfold 69621 Y [(k : Int)] = D from HDE.out.symm]; rintro e w6 ⟨rfl, hb6⟩; have HB6 := Lib.hid (HB5.out.trans (hb6.mono HB5.out.size)); have HG6 := Lib.hid (HG5.out.below hb6); have HO6 := Lib.hid (own_below HO5.out hb6); obtain ⟨⟨u, hu⟩, hfu⟩ := copy_cell HO6.out hkm; clear hb6)))
      all_goals (
        have HR := Lib.hid (show (w6.setCell ⟨w3.heap.size + 1, k, none⟩ (.int .i64 (D % Q))).ownsRow (w3.heap.size + 1) 3 1 (.slice (some ⟨w3.heap.size + 1, 0, none⟩) m m) m ((mix (chL P Q G s zs m) (k + 1)).map (Value.int .i64)) from by
          have h := copy_round HO6.out (chL_drop (P := P) (Q := Q) (G := G) (s := s) (zs := zs) hkm)
          rw [HCX.out] at h
          exact h)
        clear c0 c1 c2 x0 x1
        go_wp2
        go_roundw
        case rel => exact ⟨k + 1, by omega, by go_num, gh_sets HG6.out _ _ hne1 hne2, HR.out, HB6.out.setCell (Nat.le_succ_of_le (Nat.le_of_lt hw3)) _⟩
        case measure => simp only [intOf]; omega)
    · have hki : (m : Int) ≤ (k : Int) := by omega
      obtain rfl : k = m := by omega
      clear hgh
      go_wp2
      go_ret2
      have h3 := HO.out
      rw [mix_all _ (by rw [chL_length]; exact Nat.le_refl _)] at h3
      exact ⟨_, _, _, rfl, own_base h3 (Nat.le_succ_of_le (Nat.le_of_lt hw3)), HBr.out⟩

end Go.Proofs.Ytkpfmpndaenclaa
