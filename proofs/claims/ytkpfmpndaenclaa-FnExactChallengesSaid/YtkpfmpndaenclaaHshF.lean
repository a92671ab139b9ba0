/- Challenge of the program and of the reference: the walks. -/
import Derived.Test.YtkpfmpndaenclaaHshE
namespace Go.Proofs.Ytkpfmpndaenclaa
open Go.RowKit

theorem gr_grown {w w' : World} {b : Nat} {P Q G : Int} {r : Option Nat} (h : GR w b P Q G) (hg : w.grownBy w' r) (hne : some b ≠ r) : GR w' b P Q G := by
  obtain ⟨c0, c1, c2⟩ := h
  exact ⟨hg.cell (a := ⟨b, 0, none⟩) c0 hne, hg.cell (a := ⟨b, 1, none⟩) c1 hne, hg.cell (a := ⟨b, 2, none⟩) c2 hne⟩
theorem ints_drew {w : World} {ad : Option Addr} {zs : List Int} (h : IsInts w ad zs) : IsInts w.drew ad zs := h

set_option maxRecDepth 100000 in
set_option maxHeartbeats 3200000 in
theorem challenge_any (P Q G : Int) (s : ByteArray) (hs : s.size ≤ 1048576) (ad : Option Addr) (n cap : Nat) (zs : List Int) (hn : zs.length = n) (hl : n ≤ 1000000000) (w : World) (hz : IsInts w ad zs) :
    Calls Try.prog 44 #[gv P Q G, .string s, .slice ad n cap] w fun e w' => e = .returned (.tuple #[.int .i64 (chV P Q G s zs), .bool (chB P Q G s zs 3)]) ∧ Below w.heap.size w w' := by
  have hal := ba w (.cells #[.int .i64 P, .int .i64 Q, .int .i64 G] 24)
  have HZ := Lib.hid (hz.below hal (Nat.le_refl _))
  have HV := Lib.hid (gr_new w P Q G 24)
  have HB0 := Lib.hid hal
  have HN := Lib.hid hn
  clear hz hal
  obtain ⟨c0, c1, c2⟩ := HV.out
  cases hc : chB P Q G s zs 3
  · have e2 : chV P Q G s zs = 0 := by simp [chV, hc]
    rw [e2]
    have HC := Lib.hid (show chB P Q G s zs (3 + 0) = false from hc)
    clear hc e2 hn
    go_enter Try.func44, Try.ntmps44
    go_wp2_with fail
    refine (canChallenge_any P Q G s hs _ _ _ zs HN.out (by omega) 0 (by decide) (by decide) _ HZ.out).mono ?_
    rw [HC.out]
    rintro e w1 ⟨rfl, hb1⟩
    have HB1 := Lib.hid (bt HB0.out hb1)
    clear hb1
    go_wp2
    go_ret2
    exact ⟨rfl, HB1.out⟩
  · obtain ⟨hg, _, hd⟩ := chB_true.1 hc
    obtain ⟨hP, hQ, hG⟩ := good_rng hg
    have e2 : chV P Q G s zs = (2147483648 * hfold 48271 (gst 48271 1 P Q G s n) zs + hfold 69621 (gst 69621 2 P Q G s n) zs) % Q := by
      have h := hlab_gst P Q G s zs
      rw [hn] at h
      simp only [chV, hc, if_true, chX]
      rw [h]
    rw [e2]
    have HC := Lib.hid (show chB P Q G s zs (3 + 0) = true from hc)
    have HD := Lib.hid (digsB_true.1 hd)
    have hn0 : 0 ≤ (n : Int) ∧ (n : Int) ≤ 1000000000000 := by omega
    obtain ⟨n0, n1⟩ := hn0
    have hqn : Q ≠ 0 := by omega
    have hdn := hdig_nn (hb_fold 48271 69621 _ _ zs zs (hb_gst P Q G s n))
    have HTM := Lib.hid (show (2147483648 * hfold 48271 (gst 48271 1 P Q G s n) zs + hfold 69621 (gst 69621 2 P Q G s n) zs).tmod Q = _ from Int.tmod_eq_emod_of_nonneg hdn.1)
    obtain ⟨hd0, hd1⟩ := hdn
    clear hc e2 hn hg hd
    go_enter Try.func44, Try.ntmps44
    go_wp2_with fail
    refine (canChallenge_any P Q G s hs _ _ _ zs HN.out (by omega) 0 (by decide) (by decide) _ HZ.out).mono ?_
    rw [HC.out]
    rintro e w1 ⟨rfl, hb1⟩
    have HB1 := Lib.hid (bt HB0.out hb1)
    have HZ1 := Lib.hid (HZ.out.below hb1 (Nat.le_refl _))
    have HV1 := Lib.hid (HV.out.below hb1)
    clear hb1 c0 c1 c2
    obtain ⟨c0, c1, c2⟩ := HV1.out
    go_wp2_with fail
    go_region_held3 (fun w' => w'.cell? ⟨w.heap.size, 0, none⟩ = some (.int .i64 P) ∧ w'.cell? ⟨w.heap.size, 1, none⟩ = some (.int .i64 Q) ∧ w'.cell? ⟨w.heap.size, 2, none⟩ = some (.int .i64 G)) (first | with_reducible exact ⟨x0, x1, x2⟩ | with_reducible exact ⟨y0, y1, y2⟩ | with_reducible exact ⟨z0, z1, z2⟩ | exact ⟨c0, c1, c2⟩) ((first
      | (go_at_call 96; refine (gStart_any P Q G hP hQ hG s hs n n0 n1 _).mono ?_; rintro e w2 ⟨rfl, hb2⟩; have HB2 := Lib.hid (bt HB1.out.drew hb2); have HV2 := Lib.hid (GR.below (GR.drew HV1.out) hb2); have HZ2 := Lib.hid (IsInts.below (ints_drew HZ1.out) hb2 (Nat.le_refl _)); obtain ⟨x0, x1, x2⟩ := HV2.out; clear hb2)
      | (go_at_call 88; refine (absorb_any _ _ (hb_gst _ _ _ _ _) _ _ _ zs HN.out (by omega) HD.out _ HZ2.out).mono ?_; rintro e w3 ⟨rfl, hb3⟩; have HB3 := Lib.hid (bt HB2.out hb3); have HV3 := Lib.hid (HV2.out.below hb3); obtain ⟨y0, y1, y2⟩ := HV3.out; clear hb3)
      | (go_at_call 89; refine (hdigest_any _ _ (hb_fold _ _ _ _ _ _ (hb_gst _ _ _ _ _)) _).mono ?_; rintro e w4 ⟨rfl, hb4⟩; have HB4 := Lib.hid (bt HB3.out hb4); have HV4 := Lib.hid (HV3.out.below hb4); obtain ⟨z0, z1, z2⟩ := HV4.out; clear hb4)))
    all_goals (
      go_wp2
      go_ret2
      refine ⟨?_, ?_⟩
      · first | rfl | (rw [← HTM.out]; rfl)
      · first | exact HB4.out | exact HB4.out.drew)

/-! ### The reference -/
set_option maxRecDepth 100000 in
set_option maxHeartbeats 3200000 in
theorem hChallenge_any (P Q G : Int) (hP : 0 ≤ P ∧ P ≤ 2000000000) (hQ : 2 ≤ Q ∧ Q ≤ 2000000000) (hG : 0 ≤ G ∧ G ≤ 2000000000) (s : ByteArray) (hs : s.size ≤ 1000000) (ad : Option Addr) (n cap : Nat) (zs : List Int) (hn : zs.length = n) (hl : n ≤ 100000000) (hnil : ad = none → cap = 0) (hd : ∀ z ∈ zs, 0 ≤ z ∧ z ≤ 4611686018427387903) (w : World) (hz : IsInts w ad zs) :
    Calls Try.prog 94 #[gv P Q G, .string s, .slice ad n cap] w fun e w' => e = .returned (.int .i64 (chX P Q G s zs)) ∧ Below w.heap.size w w' := by
  obtain ⟨i0, hi, hz0, hz1, hz2⟩ := info_parts Try.info3
  have hal := ba w (.cells #[.int .i64 P, .int .i64 Q, .int .i64 G] 24)
  have hal2 := ba (w.alloc (.cells #[.int .i64 P, .int .i64 Q, .int .i64 G] 24)) (.cells #[.int .i64 P, .int .i64 Q, .int .i64 G] 3)
  have HV := Lib.hid (gr_new w P Q G 24)
  have HV2 := Lib.hid (HV.out.below hal2)
  have HB2 := Lib.hid (bt hal hal2)
  have HZ2 := Lib.hid (ints_drew ((hz.below hal (Nat.le_refl _)).below hal2 (Nat.le_refl _)))
  have HO2 := Lib.hid (show ((w.alloc (.cells #[.int .i64 P, .int .i64 Q, .int .i64 G] 24)).alloc (.cells #[.int .i64 P, .int .i64 Q, .int .i64 G] 3)).drew.ownsRow (w.heap.size + 1) 3 1 (.slice (some ⟨w.heap.size + 1, 0, none⟩) 3 3) 3 ([P, Q, G].map (Value.int .i64)) from by
    have h := own_lit (w.alloc (.cells #[.int .i64 P, .int .i64 Q, .int .i64 G] 24)) [P, Q, G] (by simp) 3
    rw [show (w.alloc (.cells #[.int .i64 P, .int .i64 Q, .int .i64 G] 24)).heap.size = w.heap.size + 1 by simp] at h
    exact h)
  have HN := Lib.hid hn
  have HNIL := Lib.hid hnil
  have HD := Lib.hid (show ∀ z ∈ [P, Q, G] ++ zs, 0 ≤ z ∧ z ≤ 4611686018427387903 from by
    intro z hzm
    rcases List.mem_append.1 hzm with h | h
    · simp only [List.mem_cons, List.not_mem_nil, or_false] at h
      omega
    · exact hd z h)
  have hqn : Q ≠ 0 := by omega
  have hx := hdig_bd (((hwith s (P :: Q :: G :: zs)).length : Int) :: hwith s (P :: Q :: G :: zs))
  have hd0 : 0 ≤ hlab s (P :: Q :: G :: zs) := hx.1
  have HTM := Lib.hid (show (hlab s (P :: Q :: G :: zs)).tmod Q = hlab s (P :: Q :: G :: zs) % Q from Int.tmod_eq_emod_of_nonneg hd0)
  obtain ⟨c0, c1, c2⟩ := HV.out
  unfold chX
  clear hx hal hal2 hz hn hnil hd
  go_enter Try.func94, Try.ntmps94
  go_wp2_with fail
  go_region_held3 (fun w' => w'.cell? ⟨w.heap.size, 0, none⟩ = some (.int .i64 P) ∧ w'.cell? ⟨w.heap.size, 1, none⟩ = some (.int .i64 Q) ∧ w'.cell? ⟨w.heap.size, 2, none⟩ = some (.int .i64 G)) (first | with_reducible exact ⟨x0, x1, x2⟩ | with_reducible exact ⟨y0, y1, y2⟩ | with_reducible exact gr_alcd HV.out _ | with_reducible exact gr_alc HV.out _ | exact ⟨c0, c1, c2⟩) ((first
    | (refine step_append_ints (by rfl) _ _ _ (by rfl) (w.heap.size + 1) 3 i0 Try.underlying36 hi hz0 hz1 hz2 _ 3 [P, Q, G] (by rfl) HO2.out ad n cap zs (by rfl) HN.out HZ2.out HNIL.out (by omega) (by simp) ?_; intro v' w3 hown hgrow; obtain ⟨va, vc, rfl⟩ := own_shape hown; obtain ⟨hi3, hl3, hnil3⟩ := own_ints hown; have HI3 := Lib.hid hi3; have HL3 := Lib.hid hl3; have HNL3 := Lib.hid hnil3; have HV3 := Lib.hid (gr_grown (GR.drew HV2.out) hgrow (by simp [Value.ownBlock])); have HB3 := Lib.hid (HB2.out.drew.grown hgrow HB2.out.drew.size (fun q hq => by simp [Value.ownBlock] at hq; omega)); obtain ⟨x0, x1, x2⟩ := HV3.out; clear hown hgrow hi3 hl3 hnil3)
    | (go_at_call 91; refine (shLabelled_any s hs _ _ _ ([P, Q, G] ++ zs) HL3.out (by omega) HNL3.out HD.out _ HI3.out).mono ?_; rintro e w4 ⟨rfl, hb4⟩; have HB4 := Lib.hid (bt HB3.out hb4); have HV4 := Lib.hid (HV3.out.below hb4); obtain ⟨y0, y1, y2⟩ := HV4.out; clear hb4)))
  all_goals (
    go_wp2
    go_ret
    refine ⟨?_, ?_⟩
    · first | rfl | (rw [← HTM.out]; rfl)
    · first | exact HB4.out | exact HB4.out.drew)

set_option maxHeartbeats 1600000 in
theorem sChallenge_any (P Q G : Int) (s : ByteArray) (hs : s.size ≤ 1048576) (ad : Option Addr) (n cap : Nat) (zs : List Int) (hn : zs.length = n) (hl : n ≤ 100000000) (hnil : ad = none → cap = 0) (w : World) (hz : IsInts w ad zs) :
    Calls Try.prog 42 #[gv P Q G, .string s, .slice ad n cap] w fun e w' => e = .returned (.tuple #[.int .i64 (chV P Q G s zs), .bool (chB P Q G s zs 3)]) ∧ Below w.heap.size w w' := by
  have hal := ba w (.cells #[.int .i64 P, .int .i64 Q, .int .i64 G] 24)
  have HZ := Lib.hid (hz.below hal (Nat.le_refl _))
  have HV := Lib.hid (gr_new w P Q G 24)
  have HB0 := Lib.hid hal
  have HN := Lib.hid hn
  have HNIL := Lib.hid hnil
  clear hz hal hn hnil
  obtain ⟨c0, c1, c2⟩ := HV.out
  cases hg : goodB P Q G
  · have e1 : chB P Q G s zs 3 = false := by simp [chB, hg]
    have e2 : chV P Q G s zs = 0 := by simp [chV, e1]
    rw [e1, e2]
    have HG := Lib.hid hg
    clear hg e1 e2
    go_enter Try.func42, Try.ntmps42
    go_wp2_with fail
    refine (l2Good_any P Q G _).mono ?_
    rw [HG.out]
    rintro e w1 ⟨rfl, hb1⟩
    have HB1 := Lib.hid (bt HB0.out hb1)
    clear hb1
    go_wp2
    go_ret2
    exact ⟨rfl, HB1.out⟩
  have HG := Lib.hid hg
  cases hh : hashL s zs 3
  · have e1 : chB P Q G s zs 3 = false := by simp [chB, hh]
    have e2 : chV P Q G s zs = 0 := by simp [chV, e1]
    rw [e1, e2]
    have HH := Lib.hid hh
    clear hg e1 e2 hh
    go_enter Try.func42, Try.ntmps42
    go_wp2_with fail
    refine (l2Good_any P Q G _).mono ?_
    rw [HG.out]
    rintro e w1 ⟨rfl, hb1⟩
    have HB1 := Lib.hid (bt HB0.out hb1)
    have HZ1 := Lib.hid (HZ.out.below hb1 (Nat.le_refl _))
    clear hb1
    go_wp2_with fail
    refine (l3Label_any s hs _ _ _ zs HN.out (by omega) 3 (by decide) (by decide) _ HZ1.out).mono ?_
    rw [HH.out]
    rintro e w' ⟨rfl, rfl⟩
    go_wp2
    go_ret2
    exact ⟨rfl, HB1.out⟩
  · have e1 : chB P Q G s zs 3 = true := by simp [chB, hh, hg]
    have e2 : chV P Q G s zs = chX P Q G s zs := by simp [chV, e1]
    rw [e1, e2]
    obtain ⟨hP, hQ, hG⟩ := good_rng hg
    obtain ⟨h1, h2⟩ := hashL_true.1 hh
    have h3 := (labB_true.1 h1).1
    have HD := Lib.hid (digsB_true.1 h2)
    have HH := Lib.hid hh
    clear hg e1 e2 hh h1 h2
    go_enter Try.func42, Try.ntmps42
    go_wp2_with fail
    refine (l2Good_any P Q G _).mono ?_
    rw [HG.out]
    rintro e w1 ⟨rfl, hb1⟩
    have HB1 := Lib.hid (bt HB0.out hb1)
    have HZ1 := Lib.hid (HZ.out.below hb1 (Nat.le_refl _))
    have HV1 := Lib.hid (HV.out.below hb1)
    clear hb1 c0 c1 c2
    obtain ⟨c0, c1, c2⟩ := HV1.out
    go_wp2_with fail
    refine (l3Label_any s hs _ _ _ zs HN.out (by omega) 3 (by decide) (by decide) _ HZ1.out).mono ?_
    rw [HH.out]
    rintro e w' ⟨rfl, rfl⟩
    go_wp2_with fail
    refine (hChallenge_any P Q G hP hQ hG s (by omega) _ _ _ zs HN.out hl HNIL.out HD.out _ HZ1.out).mono ?_
    rintro e w2 ⟨rfl, hb2⟩
    have HB2 := Lib.hid (bt HB1.out hb2)
    clear hb2
    go_wp2
    go_ret2
    exact ⟨rfl, HB2.out⟩

end Go.Proofs.Ytkpfmpndaenclaa
