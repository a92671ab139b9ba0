/- ElGamal: the reference's re-encryption and weighted products. -/
import Derived.Test.YtmihnohnfdjcaaaElK
import Derived.Test.YtmihnohnfdjcaaaElL
namespace Go.Proofs.Ytmihnohnfdjcaaa
open Go.RowKit


theorem four_A {P a b x y : Int} (h0 : 0 ≤ a) (h1 : a < P) : mulFrom P 1 (evens [a, b, x, y]) = a * x % P := mulFrom_two h0 h1
theorem four_M {P a b x y : Int} (h0 : 0 ≤ b) (h1 : b < P) : mulFrom P 1 (odds [a, b, x, y]) = b * y % P := mulFrom_two h0 h1
theorem four_rng {P a b x y : Int} (ha : 0 ≤ a ∧ a < P) (hb : 0 ≤ b ∧ b < P) (hx : 0 ≤ x ∧ x < P) (hy : 0 ≤ y ∧ y < P) : ∀ z ∈ [a, b, x, y], 0 ≤ z ∧ z < P := by
  intro z hz
  simp only [List.mem_cons, List.not_mem_nil, or_false] at hz
  rcases hz with rfl | rfl | rfl | rfl
  · exact ha
  · exact hb
  · exact hx
  · exact hy

set_option maxRecDepth 100000 in
set_option maxHeartbeats 3200000 in
theorem eRe_any (P Q G key a b r : Int) (hP : 2 ≤ P ∧ P ≤ 2000000000) (hQ2 : 2 ≤ Q) (hQr : Q ≤ 2000000000) (hG : 0 ≤ G ∧ G < P) (hk : 0 ≤ key ∧ key < P) (ha : 0 ≤ a ∧ a < P) (hb : 0 ≤ b ∧ b < P) (hr : 0 ≤ r ∧ r < Q) (w : World) :
    Calls Try.prog 98 #[gv P Q G, .int .i64 key, cv a b, .int .i64 r] w fun e w' => e = .returned (cv (reA P G a r) (reM P key b r)) ∧ Below w.heap.size w w' := by
  have hy := pow_lt key r P hP.1
  have ht := pow_lt G r P hP.1
  have HM1 := Lib.hid (mul_one_lt hy.1 hy.2)
  have HFR := Lib.hid (four_rng ha hb ht hy)
  have HFA := Lib.hid (four_A (b := b) (x := Num.pow G r P) (y := Num.pow key r P) ha.1 ha.2)
  have HFM := Lib.hid (four_M (a := a) (x := Num.pow G r P) (y := Num.pow key r P) hb.1 hb.2)
  have G_0 := Lib.hid (((gr_at w (w.heap.size) (by simp) P Q G 24).below (ba (w.alloc (.cells #[.int .i64 P, .int .i64 Q, .int .i64 G] 24)) (.cells #[.int .i64 a, .int .i64 b] 26))).below (ba ((w.alloc (.cells #[.int .i64 P, .int .i64 Q, .int .i64 G] 24)).alloc (.cells #[.int .i64 a, .int .i64 b] 26)) (.cells #[.int .i64 0, .int .i64 0] 26)))
  have C_0 := Lib.hid ((c2_at (w.alloc (.cells #[.int .i64 P, .int .i64 Q, .int .i64 G] 24)) (w.heap.size + 1) (by simp) a b 26).below (ba ((w.alloc (.cells #[.int .i64 P, .int .i64 Q, .int .i64 G] 24)).alloc (.cells #[.int .i64 a, .int .i64 b] 26)) (.cells #[.int .i64 0, .int .i64 0] 26)))
  have R_0 := Lib.hid (c2_at ((w.alloc (.cells #[.int .i64 P, .int .i64 Q, .int .i64 G] 24)).alloc (.cells #[.int .i64 a, .int .i64 b] 26)) (w.heap.size + 1 + 1) (by simp) 0 0 26)
  have HB_0 := Lib.hid (show Below w.heap.size w (((w.alloc (.cells #[.int .i64 P, .int .i64 Q, .int .i64 G] 24)).alloc (.cells #[.int .i64 a, .int .i64 b] 26)).alloc (.cells #[.int .i64 0, .int .i64 0] 26)) from bt (bt (ba _ _) (ba _ _)) (ba _ _))
  go_enter Try.func98, Try.ntmps98
  go_wp2_with fail
  obtain ⟨c0, c1, c2⟩ := G_0.out
  obtain ⟨ca0, ca1, _⟩ := C_0.out
  go_region_held3 (fun w' => w'.cell? ⟨w.heap.size, 0, none⟩ = some (.int .i64 P) ∧ w'.cell? ⟨w.heap.size, 1, none⟩ = some (.int .i64 Q) ∧ w'.cell? ⟨w.heap.size, 2, none⟩ = some (.int .i64 G) ∧ w'.cell? ⟨w.heap.size + 1, 0, none⟩ = some (.int .i64 a) ∧ w'.cell? ⟨w.heap.size + 1, 1, none⟩ = some (.int .i64 b)) (first | with_reducible exact ⟨x0z, x1z, x2z, y0z, y1z⟩ | with_reducible exact ⟨x0p, x1p, x2p, y0p, y1p⟩ | exact ⟨(HGp.out.below (ba _ _)).1, (HGp.out.below (ba _ _)).2.1, (HGp.out.below (ba _ _)).2.2, (HCp.out.below (ba _ _)).1, (HCp.out.below (ba _ _)).2.1⟩ | exact ⟨c0, c1, c2, ca0, ca1⟩ | exact ⟨cell_pair x0z (by omega) _ _, cell_pair x1z (by omega) _ _, cell_pair x2z (by omega) _ _, cell_pair y0z (by omega) _ _, cell_pair y1z (by omega) _ _⟩) ((first
    | (go_at_call 79; refine (eEnc_any P Q G key 1 r hP hQ2 hQr hG hk ⟨by decide, by omega⟩ hr _).mono ?_; rw [HM1.out]; rintro e vp ⟨rfl, hp⟩; have HBp := Lib.hid (bt_drop HB_0.out hp); have HGp := Lib.hid (gr_drop G_0.out hp); have HCp := Lib.hid (c2_drop C_0.out hp); have HRp := Lib.hid (c2_drop R_0.out hp); clear hp; obtain ⟨x0p, x1p, x2p⟩ := HGp.out; obtain ⟨y0p, y1p, _⟩ := HCp.out; obtain ⟨d0p, d1p, dfp⟩ := HRp.out; have df0p := dfp 0; have df1p := dfp 1; clear dfp)
    | (go_at_call 100; refine (eMul_any P Q G hP.1 hP.2 _ 2 2 [a, b, Num.pow G r P, Num.pow key r P] rfl (by decide) HFR.out _ (ints_spot7 vp vp.heap.size rfl [a, b, Num.pow G r P, Num.pow key r P] 26)).mono ?_; rw [HFA.out, HFM.out]; rintro e vz ⟨rfl, hz⟩; have HBz := Lib.hid (bt (bt HBp.out (ba _ _)) hz); have HGz := Lib.hid ((HGp.out.below (ba _ _)).below hz); have HCz := Lib.hid ((HCp.out.below (ba _ _)).below hz); have HRz := Lib.hid ((HRp.out.below (ba _ _)).below hz); clear hz; obtain ⟨x0z, x1z, x2z⟩ := HGz.out; obtain ⟨y0z, y1z, _⟩ := HCz.out; obtain ⟨d0z, d1z, dfz⟩ := HRz.out; have df0z := dfz 0; have df1z := dfz 1; clear dfz)
    | fail))
  all_goals (
    go_wp2
    (try simp only [Exit.inBlock, Exit.then])
    refine bodyPost_ret (v := cv (reA P G a r) (reM P key b r)) ?_ rfl ⟨rfl, ?_⟩
    · rw [results_cell_one rfl]; go_simp; (try exact ⟨rfl, rfl⟩)
    · first | exact set_below HBz.out (w.heap.size + 1 + 1) (by omega) _ _ | exact set_below HBz.out.drew (w.heap.size + 1 + 1) (by omega) _ _)

theorem ep_mk {W : World} {g o c d e : Nat} {P Q G x y p q v : Int} (hg : GR W g P Q G) (ho : C2 W o x y) (hc : C2 W c p q) (he : W.cell? ⟨d, e, none⟩ = some (.int .i64 v)) :
    W.cell? ⟨g, 0, none⟩ = some (.int .i64 P) ∧ W.cell? ⟨g, 1, none⟩ = some (.int .i64 Q) ∧ W.cell? ⟨g, 2, none⟩ = some (.int .i64 G) ∧ W.cell? ⟨o, 0, none⟩ = some (.int .i64 x) ∧ W.cell? ⟨o, 1, none⟩ = some (.int .i64 y) ∧ W.cell? ⟨c, 0, none⟩ = some (.int .i64 p) ∧ W.cell? ⟨c, 1, none⟩ = some (.int .i64 q) ∧ W.cell? ⟨d, e, none⟩ = some (.int .i64 v) := ⟨hg.1, hg.2.1, hg.2.2, ho.1, ho.2.1, hc.1, hc.2.1, he⟩

set_option maxRecDepth 100000 in
set_option maxHeartbeats 12800000 in
theorem eProd_any (P Q G : Int) (hP : 2 ≤ P ∧ P ≤ 2000000000) (hQ2 : 2 ≤ Q) (hQr : Q ≤ 2000000000) (ad ad' : Option Addr) (n cap cap' : Nat) (zs es : List Int) (hn : zs.length = n * 2) (hn' : es.length = n) (hl : n ≤ 2000000) (hr : ∀ z ∈ zs, 0 ≤ z ∧ z < P) (he : ∀ e ∈ es, 0 ≤ e ∧ e < Q) (w : World) (hz : IsInts w ad zs) (hz' : IsInts w ad' es) :
    Calls Try.prog 87 #[gv P Q G, .slice ad n cap, .slice ad' n cap'] w fun e w' => e = .returned (cv (powsFrom P 1 (evens zs) es) (powsFrom P 1 (odds zs) es)) ∧ Below w.heap.size w w' := by
  have HR := Lib.hid hr
  have HE := Lib.hid he
  have HN := Lib.hid hn
  have HN' := Lib.hid hn'
  have HZ := Lib.hid hz
  have HZ' := Lib.hid hz'
  clear hr he hn hn' hz hz'
  have G_0 := Lib.hid (((gr_at w (w.heap.size) (by simp) P Q G 24).below (ba (w.alloc (.cells #[.int .i64 P, .int .i64 Q, .int .i64 G] 24)) (.cells #[.int .i64 0, .int .i64 0] 26))).below (ba ((w.alloc (.cells #[.int .i64 P, .int .i64 Q, .int .i64 G] 24)).alloc (.cells #[.int .i64 0, .int .i64 0] 26)) (.cells #[.int .i64 1, .int .i64 1] 26)))
  have R_0 := Lib.hid ((c2_at (w.alloc (.cells #[.int .i64 P, .int .i64 Q, .int .i64 G] 24)) (w.heap.size + 1) (by simp) 0 0 26).below (ba ((w.alloc (.cells #[.int .i64 P, .int .i64 Q, .int .i64 G] 24)).alloc (.cells #[.int .i64 0, .int .i64 0] 26)) (.cells #[.int .i64 1, .int .i64 1] 26)))
  have V_0 := Lib.hid (c2_at ((w.alloc (.cells #[.int .i64 P, .int .i64 Q, .int .i64 G] 24)).alloc (.cells #[.int .i64 0, .int .i64 0] 26)) (w.heap.size + 1 + 1) (by simp) 1 1 26)
  have HB_0 := Lib.hid (show Below w.heap.size w (((w.alloc (.cells #[.int .i64 P, .int .i64 Q, .int .i64 G] 24)).alloc (.cells #[.int .i64 0, .int .i64 0] 26)).alloc (.cells #[.int .i64 1, .int .i64 1] 26)) from bt (bt (ba _ _) (ba _ _)) (ba _ _))
  go_enter Try.func87, Try.ntmps87
  go_wp2
  go_loopw [8, 13] (fun _ K wr => ∃ (k : Nat) (x y : Int), k ≤ n ∧ K = .int .i64 k ∧ (0 ≤ x ∧ x < P) ∧ (0 ≤ y ∧ y < P) ∧ powsFrom P 1 (evens zs) es = powsFrom P x ((evens zs).drop k) (es.drop k) ∧ powsFrom P 1 (odds zs) es = powsFrom P y ((odds zs).drop k) (es.drop k) ∧ Below w.heap.size w wr ∧ GR wr w.heap.size P Q G ∧ C2 wr (w.heap.size + 1) 0 0 ∧ C2 wr (w.heap.size + 1 + 1) x y) (fun _ K _ => n - (intOf K).toNat)
  case atStart => exact ⟨0, 1, 1, Nat.zero_le _, rfl, ⟨by decide, by omega⟩, ⟨by decide, by omega⟩, rfl, rfl, HB_0.out, G_0.out, R_0.out, V_0.out⟩
  case round =>
    obtain ⟨k, x, y, hk, rfl, ⟨x0, x1⟩, ⟨y0, y1⟩, hex, hey, hbel, hgr, hres, hv⟩ := hrel
    by_cases hkn : k < n
    · obtain ⟨b', off', ev, hbb, hb', hc', hd'⟩ := (HZ'.out.below hbel (Nat.le_refl _)).at (k := k) (by have := HN'.out; omega)
      subst hbb
      obtain ⟨b, off, p, q, hba, hb, hc1, hc2, hd⟩ := (HZ.out.below hbel (Nat.le_refl _)).pair hkn HN.out
      subst hba
      obtain ⟨hd1, hd2⟩ := pair_step hd
      have HS := Lib.hid (And.intro (powsFrom_step hd1 hd' hex) (powsFrom_step hd2 hd' hey))
      have hp := HR.out p (mem_drop hd)
      have hq := HR.out q (List.mem_of_mem_drop (i := k * 2) (by rw [hd]; simp))
      have hev := HE.out ev (mem_drop hd')
      have hal := ba wr (.cells #[.int .i64 p, .int .i64 q] 26)
      have HBa := Lib.hid (bt hbel hal)
      have HGa := Lib.hid (hgr.below hal)
      have HRa := Lib.hid (hres.below hal)
      have HVa := Lib.hid (hv.below hal)
      have HCa := Lib.hid (c2_new wr p q 26)
      have HEa := Lib.hid ((hal.cell (p := ⟨b', off' + k, none⟩) hb').trans hc')
      have hbl : b' < (wr.alloc (.cells #[.int .i64 p, .int .i64 q] 26)).heap.size := by simp; omega
      have hsw : w.heap.size + 1 + 1 < wr.heap.size := hv.lt
      have hpe := pow_lt p ev P hP.1
      have hqe := pow_lt q ev P hP.1
      have hxp0 : 0 ≤ x * Num.pow p ev P % P := Int.emod_nonneg _ (by omega)
      have hxp1 : x * Num.pow p ev P % P < P := Int.emod_lt_of_pos _ (by omega)
      have hyq0 : 0 ≤ y * Num.pow q ev P % P := Int.emod_nonneg _ (by omega)
      have hyq1 : y * Num.pow q ev P % P < P := Int.emod_lt_of_pos _ (by omega)
      have hne : w.heap.size + 1 + 1 ≠ w.heap.size := by omega
      have hki : (k : Int) < (n : Int) := by omega
      have HFR := Lib.hid (four_rng ⟨x0, x1⟩ ⟨y0, y1⟩ hpe hqe)
      have HFA := Lib.hid (four_A (b := y) (x := Num.pow p ev P) (y := Num.pow q ev P) x0 x1)
      have HFM := Lib.hid (four_M (a := x) (x := Num.pow p ev P) (y := Num.pow q ev P) y0 y1)
      clear hd hd' hd1 hd2 hex hey hbel hgr hres hv hal
      go_wp2_with fail
      have HG0 := Lib.hid (GR.drew HGa.out)
      have HV0 := Lib.hid (C2.drew HVa.out)
      have HC0 := Lib.hid (C2.drew HCa.out)
      have HR0 := Lib.hid (C2.drew HRa.out)
      have HX0 := Lib.hid (show Below (wr.alloc (.cells #[.int .i64 p, .int .i64 q] 26)).heap.size (wr.alloc (.cells #[.int .i64 p, .int .i64 q] 26)) (wr.alloc (.cells #[.int .i64 p, .int .i64 q] 26)).drew from (Below.refl _ _).drew)
      have HE0 := Lib.hid (show (wr.alloc (.cells #[.int .i64 p, .int .i64 q] 26)).drew.cell? ⟨b', off' + k, none⟩ = some (.int .i64 ev) from HEa.out)
      have HS0 := ep_mk HG0.out HV0.out HC0.out HE0.out
      refine wpJ_begin (n := 11) (S := (fun w' => w'.cell? ⟨w.heap.size, 0, none⟩ = some (.int .i64 P) ∧ w'.cell? ⟨w.heap.size, 1, none⟩ = some (.int .i64 Q) ∧ w'.cell? ⟨w.heap.size, 2, none⟩ = some (.int .i64 G) ∧ w'.cell? ⟨w.heap.size + 1 + 1, 0, none⟩ = some (.int .i64 x) ∧ w'.cell? ⟨w.heap.size + 1 + 1, 1, none⟩ = some (.int .i64 y) ∧ w'.cell? ⟨wr.heap.size, 0, none⟩ = some (.int .i64 p) ∧ w'.cell? ⟨wr.heap.size, 1, none⟩ = some (.int .i64 q) ∧ w'.cell? ⟨b', off' + k, none⟩ = some (.int .i64 ev))) (by kernel_rfl) ?_
      refine wpJ_take (i := 0) (v := ?_) rfl (by kernel_rfl) (by kernel_rfl) (by kernel_rfl) (by kernel_rfl) (fun _ _ _ h => h) (Or.inl ⟨by rfl, ?_⟩) HS0 ?_
      rotate_left 1
      · intro w9 hSw
        (try dsimp only at hSw)
        go_simp
        (try with_reducible rfl)
      (try simp only [Act.put, List.setIfInBounds_toArray, List.set_cons_zero, List.set_cons_succ])
      refine wpJ_take (i := 1) (v := ?_) rfl (by kernel_rfl) (by kernel_rfl) (by kernel_rfl) (by kernel_rfl) (fun _ _ _ h => h) (Or.inl ⟨by rfl, ?_⟩) HS0 ?_
      rotate_left 1
      · intro w9 hSw
        (try dsimp only at hSw)
        go_simp
        (try with_reducible rfl)
      (try simp only [Act.put, List.setIfInBounds_toArray, List.set_cons_zero, List.set_cons_succ])
      refine wpJ_take (i := 2) (v := ?_) rfl (by kernel_rfl) (by kernel_rfl) (by kernel_rfl) (by kernel_rfl) (fun _ _ _ h => h) (Or.inl ⟨by rfl, ?_⟩) HS0 ?_
      rotate_left 1
      · intro w9 hSw
        (try dsimp only at hSw)
        go_simp
        (try with_reducible rfl)
      (try simp only [Act.put, List.setIfInBounds_toArray, List.set_cons_zero, List.set_cons_succ])
      refine wpJ_take (i := 3) (v := ?_) rfl (by kernel_rfl) (by kernel_rfl) (by kernel_rfl) (by kernel_rfl) (fun _ _ _ h => h) (Or.inl ⟨by rfl, ?_⟩) HS0 ?_
      rotate_left 1
      · intro w9 hSw
        (try dsimp only at hSw)
        go_simp
        (try with_reducible rfl)
      (try simp only [Act.put, List.setIfInBounds_toArray, List.set_cons_zero, List.set_cons_succ])
      refine wpJ_take (i := 4) (v := ?_) rfl (by kernel_rfl) (by kernel_rfl) (by kernel_rfl) (by kernel_rfl) (fun _ _ _ h => h) (Or.inl ⟨by rfl, ?_⟩) HS0 ?_
      rotate_left 1
      · intro w9 hSw
        (try dsimp only at hSw)
        go_simp
        (try with_reducible rfl)
      (try simp only [Act.put, List.setIfInBounds_toArray, List.set_cons_zero, List.set_cons_succ])
      refine wpJ_take (i := 5) (v := ?_) rfl (by kernel_rfl) (by kernel_rfl) (by kernel_rfl) (by kernel_rfl) (fun _ _ _ h => h) (Or.inl ⟨by rfl, ?_⟩) HS0 ?_
      rotate_left 1
      · intro w9 hSw
        (try dsimp only at hSw)
        go_simp
        (try with_reducible rfl)
      (try simp only [Act.put, List.setIfInBounds_toArray, List.set_cons_zero, List.set_cons_succ])
      refine wpJ_take (i := 6) (v := ?_) rfl (by kernel_rfl) (by kernel_rfl) (by kernel_rfl) (by kernel_rfl) (fun _ _ _ h => h) (Or.inl ⟨by rfl, ?_⟩) HS0 ?_
      rotate_left 1
      · intro w9 hSw
        (try dsimp only at hSw)
        go_simp
        (try with_reducible rfl)
      (try simp only [Act.put, List.setIfInBounds_toArray, List.set_cons_zero, List.set_cons_succ])
      refine wpJ_take (i := 7) (v := ?_) rfl (by kernel_rfl) (by kernel_rfl) (by kernel_rfl) (by kernel_rfl) (fun _ _ _ h => h) (Or.inl ⟨by rfl, ?_⟩) HS0 ?_
      rotate_left 1
      · intro w9 hSw
        (try dsimp only at hSw)
        go_simp
        (try with_reducible rfl)
      (try simp only [Act.put, List.setIfInBounds_toArray, List.set_cons_zero, List.set_cons_succ])
      clear HS0
      refine wpJ_one (i := 8) (by kernel_rfl) rfl ?_
      intro K' hK
      go_simp
      go_at_call 99
      refine (ePow_any P Q G p q ev hP hQ2 hQr hp hq hev _).mono ?_
      rintro e u1 ⟨rfl, hpp⟩
      have HG1 := Lib.hid (HG0.out.below hpp)
      have HV1 := Lib.hid (HV0.out.below hpp)
      have HC1 := Lib.hid (HC0.out.below hpp)
      have HR1 := Lib.hid (HR0.out.below hpp)
      have HX1 := Lib.hid (bt HX0.out hpp)
      have HE1 := Lib.hid ((HX1.out.cell (p := ⟨b', off' + k, none⟩) hbl).trans HEa.out)
      clear hpp
      go_wp2_with fail
      refine hK.out _ _ (fun _ => ep_mk HG1.out HV1.out HC1.out HE1.out) ?_
      clear hK K'
      (try simp only [Act.put, List.setIfInBounds_toArray, List.set_cons_zero, List.set_cons_succ])
      refine wpJ_one (i := 9) (by kernel_rfl) rfl ?_
      intro K' hK
      go_simp
      have hal := ba u1 (.cells #[.int .i64 x, .int .i64 y, .int .i64 (Num.pow p ev P), .int .i64 (Num.pow q ev P)] 26)
      have HG2 := Lib.hid (HG1.out.below hal)
      have HV2 := Lib.hid (HV1.out.below hal)
      have HC2 := Lib.hid (HC1.out.below hal)
      have HR2 := Lib.hid (HR1.out.below hal)
      have HX2 := Lib.hid (bt HX1.out hal)
      have HE2 := Lib.hid ((HX2.out.cell (p := ⟨b', off' + k, none⟩) hbl).trans HEa.out)
      clear hal
      refine hK.out _ _ (fun _ => ep_mk HG2.out HV2.out HC2.out HE2.out) ?_
      clear hK K'
      (try simp only [Act.put, List.setIfInBounds_toArray, List.set_cons_zero, List.set_cons_succ])
      refine wpJ_one (i := 10) (by kernel_rfl) rfl ?_
      intro K' hK
      go_simp
      go_at_call 100
      refine (eMul_any P Q G hP.1 hP.2 _ 2 2 [x, y, Num.pow p ev P, Num.pow q ev P] rfl (by decide) HFR.out _ (ints_spot7 u1 u1.heap.size rfl [x, y, Num.pow p ev P, Num.pow q ev P] 26)).mono ?_
      rw [HFA.out, HFM.out]
      rintro e u3 ⟨rfl, hpp⟩
      have HG3 := Lib.hid (HG2.out.below hpp)
      have HV3 := Lib.hid (HV2.out.below hpp)
      have HC3 := Lib.hid (HC2.out.below hpp)
      have HR3 := Lib.hid (HR2.out.below hpp)
      have HX3 := Lib.hid (bt HX2.out hpp)
      have HE3 := Lib.hid ((HX3.out.cell (p := ⟨b', off' + k, none⟩) hbl).trans HEa.out)
      clear hpp
      go_wp2_with fail
      refine hK.out _ _ (fun _ => ep_mk HG3.out HV3.out HC3.out HE3.out) ?_
      clear hK K'
      (try simp only [Act.put, List.setIfInBounds_toArray, List.set_cons_zero, List.set_cons_succ])
      refine wpJ_one (i := 11) (by kernel_rfl) rfl ?_
      intro K' hK
      obtain ⟨u0, u1, uf⟩ := HV3.out
      have uf0 := uf 0
      have uf1 := uf 1
      clear uf
      go_simp
      refine hK.out _ _ (fun h => absurd rfl h) ?_
      clear hK K'
      (try simp only [Act.put, List.setIfInBounds_toArray, List.set_cons_zero, List.set_cons_succ])
      refine wpJ_done (by kernel_rfl) ?_ _
      go_wp2
      go_roundw
      case rel => exact ⟨k + 1, _, _, by omega, by go_num, ⟨hxp0, hxp1⟩, ⟨hyq0, hyq1⟩, HS.out.1, HS.out.2, set_below (bt HBa.out HX3.out) _ (by omega) _ _, gr_pair HG3.out hne _ _, (HR3.out.other _ _ (by simp)).other _ _ (by simp), HV3.out.set _ _⟩
      case measure => simp only [intOf]; omega
    · have HEE := Lib.hid (And.intro hex hey)
      have HBr := Lib.hid hbel
      obtain ⟨v0, v1, _⟩ := hv
      obtain ⟨r0, r1, rf⟩ := hres
      have rf0 := rf 0
      have rf1 := rf 1
      clear hex hey hbel rf
      go_wp2
      (try simp only [Exit.inBlock, Exit.then])
      refine bodyPost_ret (v := cv x y) ?_ rfl ⟨?_, ?_⟩
      · rw [results_cell_one rfl]; go_simp
      · rw [HEE.out.1, HEE.out.2, (pair_end HN.out (by omega)).1, (pair_end HN.out (by omega)).2]; rfl
      · exact set_below HBr.out _ (by omega) _ _

end Go.Proofs.Ytmihnohnfdjcaaa

