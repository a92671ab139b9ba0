/- ElGamal: the reference's products of ciphertexts. -/
import Derived.Test.YtmihnohnfdjcaaaElM
namespace Go.Proofs.Ytmihnohnfdjcaaa
open Go.RowKit


theorem em_mk {W : World} {g o c : Nat} {P Q G x y p q : Int} (hg : GR W g P Q G) (ho : C2 W o x y) (hc : C2 W c p q) :
    W.cell? ⟨g, 0, none⟩ = some (.int .i64 P) ∧ W.cell? ⟨g, 1, none⟩ = some (.int .i64 Q) ∧ W.cell? ⟨g, 2, none⟩ = some (.int .i64 G) ∧ W.cell? ⟨o, 0, none⟩ = some (.int .i64 x) ∧ W.cell? ⟨o, 1, none⟩ = some (.int .i64 y) ∧ W.cell? ⟨c, 0, none⟩ = some (.int .i64 p) ∧ W.cell? ⟨c, 1, none⟩ = some (.int .i64 q) := ⟨hg.1, hg.2.1, hg.2.2, ho.1, ho.2.1, hc.1, hc.2.1⟩

set_option maxRecDepth 100000 in
set_option maxHeartbeats 12800000 in
theorem eMul_any (P Q G : Int) (h2 : 2 ≤ P) (h3 : P ≤ 2000000000) (ad : Option Addr) (n cap : Nat) (zs : List Int) (hn : zs.length = n * 2) (hl : n ≤ 2000000) (hr : ∀ z ∈ zs, 0 ≤ z ∧ z < P) (w : World) (hz : IsInts w ad zs) :
    Calls Try.prog 100 #[gv P Q G, .slice ad n cap] w fun e w' => e = .returned (cv (mulFrom P 1 (evens zs)) (mulFrom P 1 (odds zs))) ∧ Below w.heap.size w w' := by
  have HR := Lib.hid hr
  have HN := Lib.hid hn
  have HZ := Lib.hid hz
  clear hr hn hz
  have G_0 := Lib.hid (((gr_at w (w.heap.size) (by simp) P Q G 24).below (ba (w.alloc (.cells #[.int .i64 P, .int .i64 Q, .int .i64 G] 24)) (.cells #[.int .i64 0, .int .i64 0] 26))).below (ba ((w.alloc (.cells #[.int .i64 P, .int .i64 Q, .int .i64 G] 24)).alloc (.cells #[.int .i64 0, .int .i64 0] 26)) (.cells #[.int .i64 1, .int .i64 1] 26)))
  have R_0 := Lib.hid ((c2_at (w.alloc (.cells #[.int .i64 P, .int .i64 Q, .int .i64 G] 24)) (w.heap.size + 1) (by simp) 0 0 26).below (ba ((w.alloc (.cells #[.int .i64 P, .int .i64 Q, .int .i64 G] 24)).alloc (.cells #[.int .i64 0, .int .i64 0] 26)) (.cells #[.int .i64 1, .int .i64 1] 26)))
  have V_0 := Lib.hid (c2_at ((w.alloc (.cells #[.int .i64 P, .int .i64 Q, .int .i64 G] 24)).alloc (.cells #[.int .i64 0, .int .i64 0] 26)) (w.heap.size + 1 + 1) (by simp) 1 1 26)
  have HB_0 := Lib.hid (show Below w.heap.size w (((w.alloc (.cells #[.int .i64 P, .int .i64 Q, .int .i64 G] 24)).alloc (.cells #[.int .i64 0, .int .i64 0] 26)).alloc (.cells #[.int .i64 1, .int .i64 1] 26)) from bt (bt (ba _ _) (ba _ _)) (ba _ _))
  go_enter Try.func100, Try.ntmps100
  go_wp2
  go_loopw [11] (fun K wr => ∃ (k : Nat) (x y : Int), k ≤ n ∧ K = .int .i64 k ∧ (0 ≤ x ∧ x < P) ∧ (0 ≤ y ∧ y < P) ∧ mulFrom P 1 (evens zs) = mulFrom P x ((evens zs).drop k) ∧ mulFrom P 1 (odds zs) = mulFrom P y ((odds zs).drop k) ∧ Below w.heap.size w wr ∧ GR wr w.heap.size P Q G ∧ C2 wr (w.heap.size + 1) 0 0 ∧ C2 wr (w.heap.size + 1 + 1) x y) (fun K _ => n - (intOf K).toNat)
  case atStart => exact ⟨0, 1, 1, Nat.zero_le _, rfl, ⟨by decide, by omega⟩, ⟨by decide, by omega⟩, rfl, rfl, HB_0.out, G_0.out, R_0.out, V_0.out⟩
  case round =>
    obtain ⟨k, x, y, hk, rfl, ⟨x0, x1⟩, ⟨y0, y1⟩, hex, hey, hbel, hgr, hres, hv⟩ := hrel
    by_cases hkn : k < n
    · obtain ⟨b, off, p, q, rfl, hb, hc1, hc2, hd⟩ := (HZ.out.below hbel (Nat.le_refl _)).pair hkn HN.out
      have HS := Lib.hid (pair_mul hd hex hey)
      have hp := HR.out p (mem_drop hd)
      have hq := HR.out q (List.mem_of_mem_drop (i := k * 2) (by rw [hd]; simp))
      have hal := ba wr (.cells #[.int .i64 p, .int .i64 q] 26)
      have HBa := Lib.hid (bt hbel hal)
      have HGa := Lib.hid (hgr.below hal)
      have HRa := Lib.hid (hres.below hal)
      have HVa := Lib.hid (hv.below hal)
      have HCa := Lib.hid (c2_new wr p q 26)
      have hsw : w.heap.size + 1 + 1 < wr.heap.size := hv.lt
      obtain ⟨hp0, hp1⟩ := hp
      obtain ⟨hq0, hq1⟩ := hq
      have hxp0 : 0 ≤ x * p % P := Int.emod_nonneg _ (by omega)
      have hxp1 : x * p % P < P := Int.emod_lt_of_pos _ (by omega)
      have hyq0 : 0 ≤ y * q % P := Int.emod_nonneg _ (by omega)
      have hyq1 : y * q % P < P := Int.emod_lt_of_pos _ (by omega)
      have hne : w.heap.size + 1 + 1 ≠ w.heap.size := by omega
      have hnc : w.heap.size + 1 + 1 ≠ wr.heap.size := by omega
      have hs1 : (wr.alloc (.cells #[.int .i64 p, .int .i64 q] 26)).heap.size = wr.heap.size + 1 := by simp
      clear hd hex hey hbel hgr hres hv hal
      go_wp2_with fail
      have HG0 := Lib.hid (GR.drew HGa.out)
      have HV0 := Lib.hid (C2.drew HVa.out)
      have HC0 := Lib.hid (C2.drew HCa.out)
      have HR0 := Lib.hid (C2.drew HRa.out)
      have HX0 := Lib.hid (show Below (wr.alloc (.cells #[.int .i64 p, .int .i64 q] 26)).heap.size (wr.alloc (.cells #[.int .i64 p, .int .i64 q] 26)) (wr.alloc (.cells #[.int .i64 p, .int .i64 q] 26)).drew from (Below.refl _ _).drew)
      have HS0 := em_mk HG0.out HV0.out HC0.out
      refine wpJ_begin (n := 15) (S := (fun w' => w'.cell? ⟨w.heap.size, 0, none⟩ = some (.int .i64 P) ∧ w'.cell? ⟨w.heap.size, 1, none⟩ = some (.int .i64 Q) ∧ w'.cell? ⟨w.heap.size, 2, none⟩ = some (.int .i64 G) ∧ w'.cell? ⟨w.heap.size + 1 + 1, 0, none⟩ = some (.int .i64 x) ∧ w'.cell? ⟨w.heap.size + 1 + 1, 1, none⟩ = some (.int .i64 y) ∧ w'.cell? ⟨wr.heap.size, 0, none⟩ = some (.int .i64 p) ∧ w'.cell? ⟨wr.heap.size, 1, none⟩ = some (.int .i64 q))) (by kernel_rfl) ?_
      refine wpJ_take (i := 0) (v := ?_) rfl (by kernel_rfl) (by kernel_rfl) (by kernel_rfl) (by kernel_rfl) (fun _ _ _ h => h) (Or.inl ⟨by rfl, ?_⟩) HS0 ?_
      rotate_left 1
      · intro w9 hSw
        (try dsimp only at hSw)
        go_simp
        (try with_reducible rfl)
      (try simp only [Act.put, List.setIfInBounds_toArray, List.set_cons_zero, List.set_cons_succ])
      refine wpJ_take (i := 1) (v := ?_) rfl (by kernel_rfl) (by kernel_rfl) (by kernel_rfl) (by kernel_rfl) (fun _ _ _ h => h) (Or.inl ⟨by rfl, ?_⟩) HS0 ?_
      rotate_left 1
      · intro w9 hSw
        (try dsimp only at hSw)
        go_simp
        (try with_reducible rfl)
      (try simp only [Act.put, List.setIfInBounds_toArray, List.set_cons_zero, List.set_cons_succ])
      refine wpJ_take (i := 2) (v := ?_) rfl (by kernel_rfl) (by kernel_rfl) (by kernel_rfl) (by kernel_rfl) (fun _ _ _ h => h) (Or.inl ⟨by rfl, ?_⟩) HS0 ?_
      rotate_left 1
      · intro w9 hSw
        (try dsimp only at hSw)
        go_simp
        (try with_reducible rfl)
      (try simp only [Act.put, List.setIfInBounds_toArray, List.set_cons_zero, List.set_cons_succ])
      refine wpJ_take (i := 3) (v := ?_) rfl (by kernel_rfl) (by kernel_rfl) (by kernel_rfl) (by kernel_rfl) (fun _ _ _ h => h) (Or.inl ⟨by rfl, ?_⟩) HS0 ?_
      rotate_left 1
      · intro w9 hSw
        (try dsimp only at hSw)
        go_simp
        (try with_reducible rfl)
      (try simp only [Act.put, List.setIfInBounds_toArray, List.set_cons_zero, List.set_cons_succ])
      refine wpJ_take (i := 4) (v := ?_) rfl (by kernel_rfl) (by kernel_rfl) (by kernel_rfl) (by kernel_rfl) (fun _ _ _ h => h) (Or.inl ⟨by rfl, ?_⟩) HS0 ?_
      rotate_left 1
      · intro w9 hSw
        (try dsimp only at hSw)
        go_simp
        (try with_reducible rfl)
      (try simp only [Act.put, List.setIfInBounds_toArray, List.set_cons_zero, List.set_cons_succ])
      refine wpJ_take (i := 7) (v := ?_) rfl (by kernel_rfl) (by kernel_rfl) (by kernel_rfl) (by kernel_rfl) (fun _ _ _ h => h) (Or.inl ⟨by rfl, ?_⟩) HS0 ?_
      rotate_left 1
      · intro w9 hSw
        (try dsimp only at hSw)
        go_simp
        (try with_reducible rfl)
      (try simp only [Act.put, List.setIfInBounds_toArray, List.set_cons_zero, List.set_cons_succ])
      refine wpJ_take (i := 8) (v := ?_) rfl (by kernel_rfl) (by kernel_rfl) (by kernel_rfl) (by kernel_rfl) (fun _ _ _ h => h) (Or.inl ⟨by rfl, ?_⟩) HS0 ?_
      rotate_left 1
      · intro w9 hSw
        (try dsimp only at hSw)
        go_simp
        (try with_reducible rfl)
      (try simp only [Act.put, List.setIfInBounds_toArray, List.set_cons_zero, List.set_cons_succ])
      refine wpJ_take (i := 9) (v := ?_) rfl (by kernel_rfl) (by kernel_rfl) (by kernel_rfl) (by kernel_rfl) (fun _ _ _ h => h) (Or.inl ⟨by rfl, ?_⟩) HS0 ?_
      rotate_left 1
      · intro w9 hSw
        (try dsimp only at hSw)
        go_simp
        (try with_reducible rfl)
      (try simp only [Act.put, List.setIfInBounds_toArray, List.set_cons_zero, List.set_cons_succ])
      refine wpJ_take (i := 10) (v := ?_) rfl (by kernel_rfl) (by kernel_rfl) (by kernel_rfl) (by kernel_rfl) (fun _ _ _ h => h) (Or.inl ⟨by rfl, ?_⟩) HS0 ?_
      rotate_left 1
      · intro w9 hSw
        (try dsimp only at hSw)
        go_simp
        (try with_reducible rfl)
      (try simp only [Act.put, List.setIfInBounds_toArray, List.set_cons_zero, List.set_cons_succ])
      refine wpJ_take (i := 11) (v := ?_) rfl (by kernel_rfl) (by kernel_rfl) (by kernel_rfl) (by kernel_rfl) (fun _ _ _ h => h) (Or.inl ⟨by rfl, ?_⟩) HS0 ?_
      rotate_left 1
      · intro w9 hSw
        (try dsimp only at hSw)
        go_simp
        (try with_reducible rfl)
      (try simp only [Act.put, List.setIfInBounds_toArray, List.set_cons_zero, List.set_cons_succ])
      clear HS0
      refine wpJ_two (i := 5) (j := 12) (by kernel_rfl) rfl rfl ?_ ?_
      · skip
        intro K' hK
        go_simp
        have hal := ba (wr.alloc (.cells #[.int .i64 p, .int .i64 q] 26)).drew (.cells #[.int .i64 x, .int .i64 p] 3)
        have HG1 := Lib.hid (HG0.out.below hal)
        have HV1 := Lib.hid (HV0.out.below hal)
        have HC1 := Lib.hid (HC0.out.below hal)
        have HR1 := Lib.hid (HR0.out.below hal)
        have HX1 := Lib.hid (bt HX0.out hal)
        have HL5_1 := Lib.hid (show IsInts ((wr.alloc (.cells #[.int .i64 p, .int .i64 q] 26)).drew.alloc (.cells #[.int .i64 x, .int .i64 p] 3)) (some ⟨wr.heap.size + 1, 0, none⟩) [x, p] from ints_spot7 (wr.alloc (.cells #[.int .i64 p, .int .i64 q] 26)).drew (wr.heap.size + 1) hs1 [x, p] 3)
        clear hal
        refine hK.out _ _ (fun _ => em_mk HG1.out HV1.out HC1.out) ?_
        clear hK K'
        (try simp only [Act.put, List.setIfInBounds_toArray, List.set_cons_zero, List.set_cons_succ])
        refine wpJ_two (i := 6) (j := 12) (by kernel_rfl) rfl rfl ?_ ?_
        · skip
          intro K' hK
          go_simp
          go_at_call 107
          refine (gMul2_any P Q G h2 h3 _ HL5_1.out ⟨x0, x1⟩ ⟨hp0, hp1⟩).mono ?_
          rintro e v2 ⟨rfl, hpp⟩
          have HG2 := Lib.hid (HG1.out.below hpp)
          have HV2 := Lib.hid (HV1.out.below hpp)
          have HC2 := Lib.hid (HC1.out.below hpp)
          have HR2 := Lib.hid (HR1.out.below hpp)
          have HX2 := Lib.hid (bt HX1.out hpp)
          clear hpp
          go_wp2_with fail
          refine hK.out _ _ (fun _ => em_mk HG2.out HV2.out HC2.out) ?_
          clear hK K'
          (try simp only [Act.put, List.setIfInBounds_toArray, List.set_cons_zero, List.set_cons_succ])
          refine wpJ_one (i := 12) (by kernel_rfl) rfl ?_
          intro K' hK
          go_simp
          have hal := ba v2 (.cells #[.int .i64 y, .int .i64 q] 3)
          have HG3 := Lib.hid (HG2.out.below hal)
          have HV3 := Lib.hid (HV2.out.below hal)
          have HC3 := Lib.hid (HC2.out.below hal)
          have HR3 := Lib.hid (HR2.out.below hal)
          have HX3 := Lib.hid (bt HX2.out hal)
          have HL12_3 := Lib.hid (show IsInts (v2.alloc (.cells #[.int .i64 y, .int .i64 q] 3)) (some ⟨v2.heap.size, 0, none⟩) [y, q] from ints_spot7 v2 (v2.heap.size) rfl [y, q] 3)
          clear hal
          refine hK.out _ _ (fun _ => em_mk HG3.out HV3.out HC3.out) ?_
          clear hK K'
          (try simp only [Act.put, List.setIfInBounds_toArray, List.set_cons_zero, List.set_cons_succ])
          refine wpJ_one (i := 13) (by kernel_rfl) rfl ?_
          intro K' hK
          go_simp
          go_at_call 107
          refine (gMul2_any P Q G h2 h3 _ HL12_3.out ⟨y0, y1⟩ ⟨hq0, hq1⟩).mono ?_
          rintro e v4 ⟨rfl, hpp⟩
          have HG4 := Lib.hid (HG3.out.below hpp)
          have HV4 := Lib.hid (HV3.out.below hpp)
          have HC4 := Lib.hid (HC3.out.below hpp)
          have HR4 := Lib.hid (HR3.out.below hpp)
          have HX4 := Lib.hid (bt HX3.out hpp)
          clear hpp
          go_wp2_with fail
          refine hK.out _ _ (fun _ => em_mk HG4.out HV4.out HC4.out) ?_
          clear hK K'
          (try simp only [Act.put, List.setIfInBounds_toArray, List.set_cons_zero, List.set_cons_succ])
          refine wpJ_one (i := 14) (by kernel_rfl) rfl ?_
          intro K' hK
          go_simp
          refine hK.out _ _ (fun _ => em_mk HG4.out HV4.out HC4.out) ?_
          clear hK K'
          (try simp only [Act.put, List.setIfInBounds_toArray, List.set_cons_zero, List.set_cons_succ])
          refine wpJ_one (i := 15) (by kernel_rfl) rfl ?_
          intro K' hK
          obtain ⟨u0, u1, uf⟩ := HV4.out
          have uf0 := uf 0
          have uf1 := uf 1
          clear uf
          go_simp
          refine hK.out _ _ (fun h => absurd rfl h) ?_
          clear hK K'
          (try simp only [Act.put, List.setIfInBounds_toArray, List.set_cons_zero, List.set_cons_succ])
          refine wpJ_done (by kernel_rfl) ?_ _
          go_wp2
          go_roundw
          case rel => exact ⟨k + 1, _, _, by omega, by go_num, ⟨hxp0, hxp1⟩, ⟨hyq0, hyq1⟩, HS.out.1, HS.out.2, set_below (bt HBa.out HX4.out) _ (by omega) _ _, gr_pair HG4.out hne _ _, (HR4.out.other _ _ (by simp)).other _ _ (by simp), HV4.out.set _ _⟩
          case measure => simp only [intOf]; omega
        · skip
          intro K' hK
          go_simp
          have hal := ba ((wr.alloc (.cells #[.int .i64 p, .int .i64 q] 26)).drew.alloc (.cells #[.int .i64 x, .int .i64 p] 3)) (.cells #[.int .i64 y, .int .i64 q] 3)
          have HG5 := Lib.hid (HG1.out.below hal)
          have HV5 := Lib.hid (HV1.out.below hal)
          have HC5 := Lib.hid (HC1.out.below hal)
          have HR5 := Lib.hid (HR1.out.below hal)
          have HX5 := Lib.hid (bt HX1.out hal)
          have HL5_5 := Lib.hid (HL5_1.out.below hal (Nat.le_refl _))
          have HL12_5 := Lib.hid (show IsInts (((wr.alloc (.cells #[.int .i64 p, .int .i64 q] 26)).drew.alloc (.cells #[.int .i64 x, .int .i64 p] 3)).alloc (.cells #[.int .i64 y, .int .i64 q] 3)) (some ⟨wr.heap.size + 1 + 1, 0, none⟩) [y, q] from ints_spot7 ((wr.alloc (.cells #[.int .i64 p, .int .i64 q] 26)).drew.alloc (.cells #[.int .i64 x, .int .i64 p] 3)) (wr.heap.size + 1 + 1) (by first | (simp; done) | (simp; exact hs1)) [y, q] 3)
          clear hal
          refine hK.out _ _ (fun _ => em_mk HG5.out HV5.out HC5.out) ?_
          clear hK K'
          (try simp only [Act.put, List.setIfInBounds_toArray, List.set_cons_zero, List.set_cons_succ])
          refine wpJ_one (i := 6) (by kernel_rfl) rfl ?_
          intro K' hK
          go_simp
          go_at_call 107
          refine (gMul2_any P Q G h2 h3 _ HL5_5.out ⟨x0, x1⟩ ⟨hp0, hp1⟩).mono ?_
          rintro e v6 ⟨rfl, hpp⟩
          have HG6 := Lib.hid (HG5.out.below hpp)
          have HV6 := Lib.hid (HV5.out.below hpp)
          have HC6 := Lib.hid (HC5.out.below hpp)
          have HR6 := Lib.hid (HR5.out.below hpp)
          have HX6 := Lib.hid (bt HX5.out hpp)
          have HL12_6 := Lib.hid (HL12_5.out.below hpp (Nat.le_refl _))
          clear hpp
          go_wp2_with fail
          refine hK.out _ _ (fun _ => em_mk HG6.out HV6.out HC6.out) ?_
          clear hK K'
          (try simp only [Act.put, List.setIfInBounds_toArray, List.set_cons_zero, List.set_cons_succ])
          refine wpJ_one (i := 13) (by kernel_rfl) rfl ?_
          intro K' hK
          go_simp
          go_at_call 107
          refine (gMul2_any P Q G h2 h3 _ HL12_6.out ⟨y0, y1⟩ ⟨hq0, hq1⟩).mono ?_
          rintro e v7 ⟨rfl, hpp⟩
          have HG7 := Lib.hid (HG6.out.below hpp)
          have HV7 := Lib.hid (HV6.out.below hpp)
          have HC7 := Lib.hid (HC6.out.below hpp)
          have HR7 := Lib.hid (HR6.out.below hpp)
          have HX7 := Lib.hid (bt HX6.out hpp)
          clear hpp
          go_wp2_with fail
          refine hK.out _ _ (fun _ => em_mk HG7.out HV7.out HC7.out) ?_
          clear hK K'
          (try simp only [Act.put, List.setIfInBounds_toArray, List.set_cons_zero, List.set_cons_succ])
          refine wpJ_one (i := 14) (by kernel_rfl) rfl ?_
          intro K' hK
          go_simp
          refine hK.out _ _ (fun _ => em_mk HG7.out HV7.out HC7.out) ?_
          clear hK K'
          (try simp only [Act.put, List.setIfInBounds_toArray, List.set_cons_zero, List.set_cons_succ])
          refine wpJ_one (i := 15) (by kernel_rfl) rfl ?_
          intro K' hK
          obtain ⟨u0, u1, uf⟩ := HV7.out
          have uf0 := uf 0
          have uf1 := uf 1
          clear uf
          go_simp
          refine hK.out _ _ (fun h => absurd rfl h) ?_
          clear hK K'
          (try simp only [Act.put, List.setIfInBounds_toArray, List.set_cons_zero, List.set_cons_succ])
          refine wpJ_done (by kernel_rfl) ?_ _
          go_wp2
          go_roundw
          case rel => exact ⟨k + 1, _, _, by omega, by go_num, ⟨hxp0, hxp1⟩, ⟨hyq0, hyq1⟩, HS.out.1, HS.out.2, set_below (bt HBa.out HX7.out) _ (by omega) _ _, gr_pair HG7.out hne _ _, (HR7.out.other _ _ (by simp)).other _ _ (by simp), HV7.out.set _ _⟩
          case measure => simp only [intOf]; omega
      · skip
        intro K' hK
        go_simp
        have hal := ba (wr.alloc (.cells #[.int .i64 p, .int .i64 q] 26)).drew (.cells #[.int .i64 y, .int .i64 q] 3)
        have HG8 := Lib.hid (HG0.out.below hal)
        have HV8 := Lib.hid (HV0.out.below hal)
        have HC8 := Lib.hid (HC0.out.below hal)
        have HR8 := Lib.hid (HR0.out.below hal)
        have HX8 := Lib.hid (bt HX0.out hal)
        have HL12_8 := Lib.hid (show IsInts ((wr.alloc (.cells #[.int .i64 p, .int .i64 q] 26)).drew.alloc (.cells #[.int .i64 y, .int .i64 q] 3)) (some ⟨wr.heap.size + 1, 0, none⟩) [y, q] from ints_spot7 (wr.alloc (.cells #[.int .i64 p, .int .i64 q] 26)).drew (wr.heap.size + 1) hs1 [y, q] 3)
        clear hal
        refine hK.out _ _ (fun _ => em_mk HG8.out HV8.out HC8.out) ?_
        clear hK K'
        (try simp only [Act.put, List.setIfInBounds_toArray, List.set_cons_zero, List.set_cons_succ])
        refine wpJ_one (i := 5) (by kernel_rfl) rfl ?_
        intro K' hK
        go_simp
        have hal := ba ((wr.alloc (.cells #[.int .i64 p, .int .i64 q] 26)).drew.alloc (.cells #[.int .i64 y, .int .i64 q] 3)) (.cells #[.int .i64 x, .int .i64 p] 3)
        have HG9 := Lib.hid (HG8.out.below hal)
        have HV9 := Lib.hid (HV8.out.below hal)
        have HC9 := Lib.hid (HC8.out.below hal)
        have HR9 := Lib.hid (HR8.out.below hal)
        have HX9 := Lib.hid (bt HX8.out hal)
        have HL12_9 := Lib.hid (HL12_8.out.below hal (Nat.le_refl _))
        have HL5_9 := Lib.hid (show IsInts (((wr.alloc (.cells #[.int .i64 p, .int .i64 q] 26)).drew.alloc (.cells #[.int .i64 y, .int .i64 q] 3)).alloc (.cells #[.int .i64 x, .int .i64 p] 3)) (some ⟨wr.heap.size + 1 + 1, 0, none⟩) [x, p] from ints_spot7 ((wr.alloc (.cells #[.int .i64 p, .int .i64 q] 26)).drew.alloc (.cells #[.int .i64 y, .int .i64 q] 3)) (wr.heap.size + 1 + 1) (by first | (simp; done) | (simp; exact hs1)) [x, p] 3)
        clear hal
        refine hK.out _ _ (fun _ => em_mk HG9.out HV9.out HC9.out) ?_
        clear hK K'
        (try simp only [Act.put, List.setIfInBounds_toArray, List.set_cons_zero, List.set_cons_succ])
        refine wpJ_one (i := 6) (by kernel_rfl) rfl ?_
        intro K' hK
        go_simp
        go_at_call 107
        refine (gMul2_any P Q G h2 h3 _ HL5_9.out ⟨x0, x1⟩ ⟨hp0, hp1⟩).mono ?_
        rintro e v10 ⟨rfl, hpp⟩
        have HG10 := Lib.hid (HG9.out.below hpp)
        have HV10 := Lib.hid (HV9.out.below hpp)
        have HC10 := Lib.hid (HC9.out.below hpp)
        have HR10 := Lib.hid (HR9.out.below hpp)
        have HX10 := Lib.hid (bt HX9.out hpp)
        have HL12_10 := Lib.hid (HL12_9.out.below hpp (Nat.le_refl _))
        clear hpp
        go_wp2_with fail
        refine hK.out _ _ (fun _ => em_mk HG10.out HV10.out HC10.out) ?_
        clear hK K'
        (try simp only [Act.put, List.setIfInBounds_toArray, List.set_cons_zero, List.set_cons_succ])
        refine wpJ_one (i := 13) (by kernel_rfl) rfl ?_
        intro K' hK
        go_simp
        go_at_call 107
        refine (gMul2_any P Q G h2 h3 _ HL12_10.out ⟨y0, y1⟩ ⟨hq0, hq1⟩).mono ?_
        rintro e v11 ⟨rfl, hpp⟩
        have HG11 := Lib.hid (HG10.out.below hpp)
        have HV11 := Lib.hid (HV10.out.below hpp)
        have HC11 := Lib.hid (HC10.out.below hpp)
        have HR11 := Lib.hid (HR10.out.below hpp)
        have HX11 := Lib.hid (bt HX10.out hpp)
        clear hpp
        go_wp2_with fail
        refine hK.out _ _ (fun _ => em_mk HG11.out HV11.out HC11.out) ?_
        clear hK K'
        (try simp only [Act.put, List.setIfInBounds_toArray, List.set_cons_zero, List.set_cons_succ])
        refine wpJ_one (i := 14) (by kernel_rfl) rfl ?_
        intro K' hK
        go_simp
        refine hK.out _ _ (fun _ => em_mk HG11.out HV11.out HC11.out) ?_
        clear hK K'
        (try simp only [Act.put, List.setIfInBounds_toArray, List.set_cons_zero, List.set_cons_succ])
        refine wpJ_one (i := 15) (by kernel_rfl) rfl ?_
        intro K' hK
        obtain ⟨u0, u1, uf⟩ := HV11.out
        have uf0 := uf 0
        have uf1 := uf 1
        clear uf
        go_simp
        refine hK.out _ _ (fun h => absurd rfl h) ?_
        clear hK K'
        (try simp only [Act.put, List.setIfInBounds_toArray, List.set_cons_zero, List.set_cons_succ])
        refine wpJ_done (by kernel_rfl) ?_ _
        go_wp2
        go_roundw
        case rel => exact ⟨k + 1, _, _, by omega, by go_num, ⟨hxp0, hxp1⟩, ⟨hyq0, hyq1⟩, HS.out.1, HS.out.2, set_below (bt HBa.out HX11.out) _ (by omega) _ _, gr_pair HG11.out hne _ _, (HR11.out.other _ _ (by simp)).other _ _ (by simp), HV11.out.set _ _⟩
        case measure => simp only [intOf]; omega
    · have HE := Lib.hid (And.intro hex hey)
      have HBr := Lib.hid hbel
      obtain ⟨v0, v1, _⟩ := hv
      obtain ⟨r0, r1, rf⟩ := hres
      have rf0 := rf 0
      have rf1 := rf 1
      clear hex hey hbel rf
      go_wp2
      (try simp only [Exit.inBlock, Exit.then])
      refine bodyPost_ret (v := cv x y) ?_ rfl ⟨?_, ?_⟩
      · rw [results_cell_one rfl]; go_simp
      · rw [HE.out.1, HE.out.2, (pair_end HN.out (by omega)).1, (pair_end HN.out (by omega)).2]; rfl
      · exact set_below HBr.out _ (by omega) _ _

end Go.Proofs.Ytmihnohnfdjcaaa

