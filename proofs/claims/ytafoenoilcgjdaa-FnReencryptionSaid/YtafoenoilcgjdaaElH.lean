/- ElGamal: the program's WeightedProduct, PowCipher, ReencryptAll: rows of ciphertexts are built. -/
import Derived.Test.YtafoenoilcgjdaaElE
namespace Go.Proofs.Ytafoenoilcgjdaa
open Go.RowKit


theorem pow_step2 {P : Int} {zs es : List Int} {p q x : Int} {k : Nat} (hd : zs.drop (k * 2) = p :: q :: zs.drop ((k + 1) * 2)) (he : es.drop k = x :: es.drop (k + 1)) :
    (flatPow P zs es).drop (k * 2) = Num.pow p x P :: Num.pow q x P :: (flatPow P zs es).drop ((k + 1) * 2) := by
  rw [flatPow_drop, flatPow_drop, hd, he]; rfl
theorem re_step2 {P G key : Int} {zs es : List Int} {p q x : Int} {k : Nat} (hd : zs.drop (k * 2) = p :: q :: zs.drop ((k + 1) * 2)) (he : es.drop k = x :: es.drop (k + 1)) :
    (flatRe P G key zs es).drop (k * 2) = reA P G p x :: reM P key q x :: (flatRe P G key zs es).drop ((k + 1) * 2) := by
  rw [flatRe_drop, flatRe_drop, hd, he]; rfl
theorem flatPow_rng {P : Int} (hP : 2 ≤ P) : ∀ (zs es : List Int), ∀ z ∈ flatPow P zs es, 0 ≤ z ∧ z < P
  | [], es => by cases es <;> simp [flatPow]
  | [_], es => by cases es <;> simp [flatPow]
  | a :: b :: r, [] => by simp [flatPow]
  | a :: b :: r, e :: es => by
    intro z hz
    simp only [flatPow, List.mem_cons] at hz
    rcases hz with rfl | rfl | hz
    · exact pow_lt a e P hP
    · exact pow_lt b e P hP
    · exact flatPow_rng hP r es z hz
/-- A list of ciphertexts as an answer. -/
def AnsE (w : World) (zs : List Int) (ok : Bool) (e : Ending) (w' : World) : Prop := ∃ v, e = .returned (.tuple #[v, .bool ok]) ∧ OwC w.heap.size w'.heap.size w' v zs ∧ Below w.heap.size w w'
theorem ansE_nil {w w' : World} (hb : Below w.heap.size w w') : AnsE w [] false (.returned (.tuple #[.slice none 0 0, .bool false])) w' := ⟨_, rfl, owC_nil _ _ hb.size, hb⟩


set_option maxRecDepth 100000 in
set_option maxHeartbeats 6400000 in
theorem weightedProduct_any (P Q G : Int) (ad ad' : Option Addr) (n n' cap cap' : Nat) (zs es : List Int) (hn : zs.length = n * 2) (hn' : es.length = n') (hl : n ≤ 2000000) (hl' : n' ≤ 2000000) (w : World) (hz : IsInts w ad zs) (hz' : IsInts w ad' es) :
    Calls Try.prog 47 #[gv P Q G, .slice ad n cap, .slice ad' n' cap'] w fun e w' => e = .returned (.tuple #[cv (wpA P Q G zs es) (wpM P Q G zs es), .bool (wpB P Q G zs es)]) ∧ Below w.heap.size w w' := by
  have HN := Lib.hid hn
  have HN' := Lib.hid hn'
  cases h1 : wpB P Q G zs es
  · obtain ⟨e1, e2⟩ := wp_off h1
    rw [e1, e2]
    have H1 := Lib.hid ((he_wp P Q G zs es).trans h1)
    clear e1 e2 h1 hn hn'
    have G_0 := Lib.hid ((gr_at w (w.heap.size) (by simp) P Q G 27).below (ba (w.alloc (.cells #[.int .i64 P, .int .i64 Q, .int .i64 G] 27)) (.cells #[.int .i64 0, .int .i64 0] 61)))
    have R_0 := Lib.hid (c2_at (w.alloc (.cells #[.int .i64 P, .int .i64 Q, .int .i64 G] 27)) (w.heap.size + 1) (by simp) 0 0 61)
    have HB_0 := Lib.hid (show Below w.heap.size w ((w.alloc (.cells #[.int .i64 P, .int .i64 Q, .int .i64 G] 27)).alloc (.cells #[.int .i64 0, .int .i64 0] 61)) from bt (ba _ _) (ba _ _))
    have Z_0 := Lib.hid (hz.below HB_0.out (Nat.le_refl _))
    have E_0 := Lib.hid (hz'.below HB_0.out (Nat.le_refl _))
    go_enter Try.func47, Try.ntmps47
    go_wp2_with fail
    refine (haveExponents_any P Q G _ _ _ _ _ _ zs es HN.out HN'.out hl hl' _ Z_0.out E_0.out).mono ?_
    rw [H1.out]
    rintro e v1 ⟨rfl, hb⟩
    have HB_1 := Lib.hid (bt HB_0.out hb)
    have G_1 := Lib.hid (G_0.out.below hb)
    have R_1 := Lib.hid (R_0.out.below hb)
    have Z_1 := Lib.hid (Z_0.out.below hb (Nat.le_refl _))
    have E_1 := Lib.hid (E_0.out.below hb (Nat.le_refl _))
    clear hb
    obtain ⟨gG0, gG1, gG2⟩ := G_1.out
    obtain ⟨rR0, rR1, rfR⟩ := R_1.out
    have rfR0 := rfR 0
    have rfR1 := rfR 1
    go_wp2
    (try simp only [Exit.inBlock, Exit.then])
    refine bodyPost_ret (v := .tuple #[cv 0 0, .bool false]) ?_ rfl ⟨rfl, ?_⟩
    · rw [results_cell_tmp rfl]; go_simp
    · first | exact HB_1.out | exact set_below HB_1.out (w.heap.size + 1) (by omega) _ _
  obtain ⟨e1, e2⟩ := wp_on h1
  rw [e1, e2]
  obtain ⟨hgd, hcs, hlen, hex⟩ := wp_parts h1
  have hmo := good_mo hgd
  have hP : 2 ≤ P ∧ P ≤ 2000000000 := hmo.1
  have hQ9 : Q ≤ 2000000000 := by obtain ⟨_, _, hq⟩ := hmo; exact hq
  obtain rfl : n = n' := by omega
  have H1 := Lib.hid ((he_wp P Q G zs es).trans h1)
  have HCR := Lib.hid (cs_rng hcs)
  have HEX := Lib.hid hex
  have HFL := Lib.hid (flatPow_length P es zs hlen)
  have HFR := Lib.hid (flatPow_rng hP.1 zs es)
  have n24 : n ≤ 24 := by have := HCR.out.1; omega
  have HZ0 := Lib.hid hz
  have HE0 := Lib.hid hz'
  obtain ⟨i0, hi, hz0, hz1, hi2⟩ := info_parts Try.infoCC
  have HI2 := Lib.hid hi2
  clear e1 e2 h1 hgd hcs hlen hex hn hn' hmo hi2 hz hz'
  have G_0 := Lib.hid ((gr_at w (w.heap.size) (by simp) P Q G 27).below (ba (w.alloc (.cells #[.int .i64 P, .int .i64 Q, .int .i64 G] 27)) (.cells #[.int .i64 0, .int .i64 0] 61)))
  have R_0 := Lib.hid (c2_at (w.alloc (.cells #[.int .i64 P, .int .i64 Q, .int .i64 G] 27)) (w.heap.size + 1) (by simp) 0 0 61)
  have HB_0 := Lib.hid (show Below w.heap.size w ((w.alloc (.cells #[.int .i64 P, .int .i64 Q, .int .i64 G] 27)).alloc (.cells #[.int .i64 0, .int .i64 0] 61)) from bt (ba _ _) (ba _ _))
  have Z_0 := Lib.hid (HZ0.out.below HB_0.out (Nat.le_refl _))
  have E_0 := Lib.hid (HE0.out.below HB_0.out (Nat.le_refl _))
  go_enter Try.func47, Try.ntmps47
  go_wp2_with fail
  refine (haveExponents_any P Q G _ _ _ _ _ _ zs es HN.out HN'.out hl hl' _ Z_0.out E_0.out).mono ?_
  rw [H1.out]
  rintro e v1 ⟨rfl, hb⟩
  have HB_1 := Lib.hid (bt HB_0.out hb)
  have G_1 := Lib.hid (G_0.out.below hb)
  have R_1 := Lib.hid (R_0.out.below hb)
  have Z_1 := Lib.hid (Z_0.out.below hb (Nat.le_refl _))
  have E_1 := Lib.hid (E_0.out.below hb (Nat.le_refl _))
  clear hb
  obtain ⟨gG0, gG1, gG2⟩ := G_1.out
  obtain ⟨rR0, rR1, rfR⟩ := R_1.out
  have rfR0 := rfR 0
  have rfR1 := rfR 1
  go_wp2_with fail
  refine (products_any P Q G _).mono ?_
  rintro e v2 ⟨B, rfl, hgB, hb⟩
  have HB_2 := Lib.hid (bt HB_1.out hb)
  have G_2 := Lib.hid (G_1.out.below hb)
  have R_2 := Lib.hid (R_1.out.below hb)
  have Z_2 := Lib.hid (Z_1.out.below hb (Nat.le_refl _))
  clear hb
  clear gG0 gG1 gG2 rR0 rR1 rfR rfR0 rfR1
  obtain ⟨gG0, gG1, gG2⟩ := G_2.out
  obtain ⟨rR0, rR1, rfR⟩ := R_2.out
  have rfR0 := rfR 0
  have rfR1 := rfR 1
  have GB_2 := Lib.hid hgB
  clear hgB
  clear gG0 gG1 gG2 rR0 rR1 rfR rfR0 rfR1
  have halK := ba v2 (.cells #[.int .i64 1, .int .i64 1, (.func (.func 113) #[] #[.pointer (some ⟨B, 0, none⟩)])] 106)
  have HB_3 := Lib.hid (bt HB_2.out halK)
  have R_3 := Lib.hid (R_2.out.below halK)
  have Z_3 := Lib.hid (Z_2.out.below halK (Nat.le_refl _))
  have GB_3 := Lib.hid (GB_2.out.below halK)
  have K_3 := Lib.hid (b3_new v2 (.int .i64 1) (.int .i64 1) (jf B) 106)
  have hst : ∀ (a : Addr) (fn : Fn) (fi ca : Array Value) (W : World), (store a (.func fn fi ca)).run Try.prog W = stored Try.prog W a (.func fn fi ca) .plain := fun a fn fi ca W => run_store _ W a _ _ rfl
  have hs2 : w.heap.size + 1 < v2.heap.size := R_2.out.lt
  clear halK
  go_wp2_with (at_make; refine wpList_make_full _ rfl _ _ 52 rfl (v2.heap.size + 1) 61 i0 (.agg #[.int .i64 0, .int .i64 0]) 2 Try.underlying52 hi hz0 hz1 .i64 .i64 _ _ n rfl rfl rfl rfl (by rw [HI2.out]; omega) (by unfold maxLen; omega) (by simp) ?_; intro w4 hown hgrow)
  go_loopw [10, 25] (fun _ K wr => ∃ k : Nat, k ≤ n ∧ K = .int .i64 k ∧ CipsOwn wr (v2.heap.size + 1) (.slice (some ⟨v2.heap.size + 1, 0, none⟩) n n) n (over (flatPow P zs es) (List.replicate (n * 2) 0) (k * 2)) ∧ Below (v2.alloc (.cells #[.int .i64 1, .int .i64 1, (.func (.func 113) #[] #[.pointer (some ⟨B, 0, none⟩)])] 106)).heap.size (v2.alloc (.cells #[.int .i64 1, .int .i64 1, (.func (.func 113) #[] #[.pointer (some ⟨B, 0, none⟩)])] 106)) wr) (fun _ K _ => n - (intOf K).toNat)
  case atStart =>
    refine ⟨0, Nat.zero_le _, rfl, ?_, (Below.refl _ _).grown hgrow (by simp) (by simp)⟩
    rw [show 0 * 2 = 0 from rfl, over_zero]
    have h := hown
    rw [show Value.cells (.agg #[.int .i64 0, .int .i64 0]) = #[.int .i64 0, .int .i64 0] from rfl, made_twoC] at h
    unfold CipsOwn
    rw [List.map_replicate]
    rw [show (v2.alloc (.cells #[.int .i64 1, .int .i64 1, (.func (.func 113) #[] #[.pointer (some ⟨B, 0, none⟩)])] 106)).heap.size = v2.heap.size + 1 by simp] at h
    exact h
  case round =>
    obtain ⟨k, hk, rfl, hownr, hbel⟩ := hrel
    clear hown hgrow
    have HO := Lib.hid hownr
    have HBk := Lib.hid hbel
    have R_r := Lib.hid (R_3.out.below hbel)
    have GB_r := Lib.hid (GB_3.out.below hbel)
    have K_r := Lib.hid (K_3.out.below hbel)
    have HBw := Lib.hid (HB_3.out.trans (hbel.mono HB_3.out.size))
    have hsr : v2.heap.size + 1 ≤ wr.heap.size := by have := hbel.size; simpa using this
    clear hownr hbel
    by_cases hkn : k < n
    · obtain ⟨b', off', x, hbb, hb', hc', hd'⟩ := HE0.out.at (k := k) (by have := HN'.out; omega)
      subst hbb
      obtain ⟨b, off, p, q, hba, hb, hc1, hc2, hd⟩ := (HZ0.out.below HBw.out (Nat.le_refl _)).pair hkn HN.out
      subst hba
      have HD := Lib.hid (pow_step2 (P := P) hd hd')
      have hp := HCR.out.2 p (mem_drop hd)
      have hq := HCR.out.2 q (List.mem_of_mem_drop (i := k * 2) (by rw [hd]; simp))
      have hx := HEX.out x (mem_drop hd')
      have hce := (HBw.out.cell (p := ⟨b', off' + k, none⟩) hb').trans hc'
      have hal := ba wr (.cells #[.int .i64 p, .int .i64 q] 61)
      have hald := hal.drew
      have HC := Lib.hid (c2_new wr p q 61)
      have hbw' : b' < wr.heap.size := by have := HBw.out.size; omega
      have e0 := (hal.cell (p := ⟨b', off' + k, none⟩) hbw').trans hce
      have HAL := Lib.hid hal
      have HALD := Lib.hid hald
      obtain ⟨k0, k1, k2, _⟩ := K_r.out.below hal
      obtain ⟨y0, y1, _⟩ := HC.out
      have hki : (k : Int) < (n : Int) := by omega
      have hne1 : v2.heap.size + 1 ≠ v2.heap.size := by omega
      have hne2 : v2.heap.size + 1 ≠ wr.heap.size := by have := (HO.out.lt (v2.heap.size + 1) rfl).2; omega
      have hne3 : v2.heap.size + 1 ≠ b' := by omega
      have HCE := Lib.hid hce
      clear hd hd' hc' hce hal hald
      go_wp2_with fail
      go_region_held3 (fun w' => w'.cell? ⟨v2.heap.size, 0, none⟩ = some (.int .i64 1) ∧ w'.cell? ⟨v2.heap.size, 1, none⟩ = some (.int .i64 1) ∧ w'.cell? ⟨v2.heap.size, 2, none⟩ = some (jf B) ∧ w'.cell? ⟨wr.heap.size, 0, none⟩ = some (.int .i64 p) ∧ w'.cell? ⟨wr.heap.size, 1, none⟩ = some (.int .i64 q) ∧ w'.cell? ⟨b', off' + k, none⟩ = some (.int .i64 x)) (first | with_reducible exact ⟨x0', x1', x2', xy0, xy1, xe0⟩ | exact ⟨k0, k1, k2, y0, y1, e0⟩ | exact ⟨cell_pair x0' hne1 _ _, cell_pair x1' hne1 _ _, cell_pair x2' hne1 _ _, cell_pair xy0 hne2 _ _, cell_pair xy1 hne2 _ _, cell_pair xe0 hne3 _ _⟩) ((first
        | (go_at_call 92; refine (kpower_any P Q G p q x hP.1 hP.2 hp.1 hp.2 hq.1 hq.2 hx.1 (by omega) B _ (GR.drew (GB_r.out.below HAL.out))).mono ?_; rintro e vx ⟨rfl, hpp⟩; have HX := Lib.hid (show Below wr.heap.size wr vx from bt HALD.out hpp); have Kx := Lib.hid (K_r.out.below HX.out); have Cx := Lib.hid (c2_drop HC.out hpp); have xe0 := (HX.out.cell (p := ⟨b', off' + k, none⟩) hbw').trans HCE.out; obtain ⟨o2, ⟨u1, z1⟩, z2, ⟨u3, z3⟩, z4, ⟨u5, z5⟩, z6⟩ := cset_two (own_below HO.out HX.out) HD.out (HFL.out.trans HN.out) (by simp) hkn; have HO2 := Lib.hid o2; clear hpp o2; obtain ⟨x0', x1', x2', _⟩ := Kx.out; obtain ⟨xy0, xy1, _⟩ := Cx.out)
        | fail))
      all_goals (
        go_wp2
        go_roundw
        case rel => exact ⟨k + 1, by omega, by go_num, HO2.out, ((HBk.out.trans (HX.out.mono HBk.out.size)).setCell (by simp) _).setCell (by simp) _⟩
        case measure => simp only [intOf]; omega)
    · obtain rfl : k = n := by omega
      have hown2 := HO.out
      rw [over_all _ _ (by have := HFL.out; have := HN.out; omega) (by simp)] at hown2
      obtain ⟨hio, hlo, _⟩ := ints_of_own2 hown2
      have HIO := Lib.hid hio
      have HLO := Lib.hid hlo
      obtain ⟨k0, k1, k2, _⟩ := K_r.out
      clear hown2 hio hlo
      go_wp2_with fail
      refine (ofAll_any P Q G hP.1 hP.2 _ _ _ (flatPow P zs es) HLO.out (by omega) HFR.out B _ HIO.out GB_r.out).mono ?_
      rw [evens_pow, odds_pow, powL_mul, powL_mul]
      rintro e v5 ⟨rfl, hb⟩
      have HB_5 := Lib.hid (bt HBw.out hb)
      have R_5 := Lib.hid (R_r.out.below hb)
      clear hb k0 k1 k2
      obtain ⟨r0, r1, rf⟩ := R_5.out
      have rf0 := rf 0
      have rf1 := rf 1
      clear rf
      go_wp2
      (try simp only [Exit.inBlock, Exit.then])
      refine bodyPost_ret (v := .tuple #[cv (powsFrom P 1 (evens zs) es) (powsFrom P 1 (odds zs) es), .bool true]) ?_ rfl ⟨rfl, ?_⟩
      · rw [results_cell_tmp rfl]; go_simp
      · exact set_below HB_5.out (w.heap.size + 1) (by omega) _ _

theorem powCipher_any (P Q G a b x : Int) (w : World) :
    Calls Try.prog 45 #[gv P Q G, cv a b, .int .i64 x] w fun e w' => e = .returned (.tuple #[cv (pcA P Q G a b x) (pcM P Q G a b x), .bool (pcB P Q G a b x)]) ∧ Below w.heap.size w w' := by
  obtain ⟨e1, e2, e3⟩ := wp_one P Q G a b x
  rw [← e1, ← e2, ← e3]
  clear e1 e2 e3
  have G_0 := Lib.hid (((gr_at w (w.heap.size) (by simp) P Q G 27).below (ba (w.alloc (.cells #[.int .i64 P, .int .i64 Q, .int .i64 G] 27)) (.cells #[.int .i64 a, .int .i64 b] 61))).below (ba ((w.alloc (.cells #[.int .i64 P, .int .i64 Q, .int .i64 G] 27)).alloc (.cells #[.int .i64 a, .int .i64 b] 61)) (.cells #[.int .i64 0, .int .i64 0] 61)))
  have C_0 := Lib.hid ((c2_at (w.alloc (.cells #[.int .i64 P, .int .i64 Q, .int .i64 G] 27)) (w.heap.size + 1) (by simp) a b 61).below (ba ((w.alloc (.cells #[.int .i64 P, .int .i64 Q, .int .i64 G] 27)).alloc (.cells #[.int .i64 a, .int .i64 b] 61)) (.cells #[.int .i64 0, .int .i64 0] 61)))
  have R_0 := Lib.hid (c2_at ((w.alloc (.cells #[.int .i64 P, .int .i64 Q, .int .i64 G] 27)).alloc (.cells #[.int .i64 a, .int .i64 b] 61)) (w.heap.size + 1 + 1) (by simp) 0 0 61)
  have HB_0 := Lib.hid (show Below w.heap.size w (((w.alloc (.cells #[.int .i64 P, .int .i64 Q, .int .i64 G] 27)).alloc (.cells #[.int .i64 a, .int .i64 b] 61)).alloc (.cells #[.int .i64 0, .int .i64 0] 61)) from bt (bt (ba _ _) (ba _ _)) (ba _ _))
  have hal1 := ba (((w.alloc (.cells #[.int .i64 P, .int .i64 Q, .int .i64 G] 27)).alloc (.cells #[.int .i64 a, .int .i64 b] 61)).alloc (.cells #[.int .i64 0, .int .i64 0] 61)) (.cells #[.int .i64 a, .int .i64 b] 61)
  have hal2 := ba ((((w.alloc (.cells #[.int .i64 P, .int .i64 Q, .int .i64 G] 27)).alloc (.cells #[.int .i64 a, .int .i64 b] 61)).alloc (.cells #[.int .i64 0, .int .i64 0] 61)).alloc (.cells #[.int .i64 a, .int .i64 b] 61)) (.cells #[.int .i64 x] 3)
  have HB_1 := Lib.hid (bt (bt HB_0.out hal1) hal2)
  have R_1 := Lib.hid ((R_0.out.below hal1).below hal2)
  have HZ := Lib.hid ((ints_spot7 (((w.alloc (.cells #[.int .i64 P, .int .i64 Q, .int .i64 G] 27)).alloc (.cells #[.int .i64 a, .int .i64 b] 61)).alloc (.cells #[.int .i64 0, .int .i64 0] 61)) (w.heap.size + 1 + 1 + 1) (by simp) [a, b] 61).below hal2 (Nat.le_refl _))
  have HE := Lib.hid (ints_spot7 ((((w.alloc (.cells #[.int .i64 P, .int .i64 Q, .int .i64 G] 27)).alloc (.cells #[.int .i64 a, .int .i64 b] 61)).alloc (.cells #[.int .i64 0, .int .i64 0] 61)).alloc (.cells #[.int .i64 a, .int .i64 b] 61)) (w.heap.size + 1 + 1 + 1 + 1) (by simp) [x] 3)
  clear hal1 hal2
  go_enter Try.func45, Try.ntmps45
  go_wp2_with fail
  refine (weightedProduct_any P Q G _ _ 1 1 1 1 [a, b] [x] rfl rfl (by decide) (by decide) _ HZ.out HE.out).mono ?_
  rintro e v2 ⟨rfl, hb⟩
  have HB_2 := Lib.hid (bt HB_1.out hb)
  have R_2 := Lib.hid (R_1.out.below hb)
  clear hb
  obtain ⟨rR0, rR1, rfR⟩ := R_2.out
  have rfR0 := rfR 0
  have rfR1 := rfR 1
  go_wp2
  (try simp only [Exit.inBlock, Exit.then])
  refine bodyPost_ret (v := .tuple #[cv (wpA P Q G [a, b] [x]) (wpM P Q G [a, b] [x]), .bool (wpB P Q G [a, b] [x])]) ?_ rfl ⟨rfl, ?_⟩
  · rw [results_cell_tmp rfl]; go_simp
  · first | exact HB_2.out | exact set_below HB_2.out (w.heap.size + 1 + 1) (by omega) _ _

theorem ra_parts {P Q G key : Int} {zs es : List Int} : raB P Q G key zs es = (heB P Q G zs es && elB P Q key) := by
  rw [he_wp, Bool.eq_iff_iff]
  unfold raB wpB
  simp only [Bool.and_eq_true, decide_eq_true_eq]
  constructor
  · rintro ⟨⟨⟨⟨h1, h2⟩, h3⟩, h4⟩, h5⟩; exact ⟨⟨⟨⟨h1, h3⟩, h4⟩, h5⟩, h2⟩
  · rintro ⟨⟨⟨⟨h1, h3⟩, h4⟩, h5⟩, h2⟩; exact ⟨⟨⟨⟨h1, h2⟩, h3⟩, h4⟩, h5⟩
theorem ra_off {P Q G key : Int} {zs es : List Int} (h : raB P Q G key zs es = false) : raV P Q G key zs es = [] := by simp [raV, h]
theorem ra_on {P Q G key : Int} {zs es : List Int} (h : raB P Q G key zs es = true) : raV P Q G key zs es = flatRe P G key zs es := by simp [raV, h]

set_option maxRecDepth 100000 in
set_option maxHeartbeats 6400000 in
theorem reencryptAll_any (P Q G key : Int) (ad ad' : Option Addr) (n n' cap cap' : Nat) (zs es : List Int) (hn : zs.length = n * 2) (hn' : es.length = n') (hl : n ≤ 2000000) (hl' : n' ≤ 2000000) (w : World) (hz : IsInts w ad zs) (hz' : IsInts w ad' es) :
    Calls Try.prog 35 #[gv P Q G, .int .i64 key, .slice ad n cap, .slice ad' n' cap'] w (AnsE w (raV P Q G key zs es) (raB P Q G key zs es)) := by
  have HN := Lib.hid hn
  have HN' := Lib.hid hn'
  cases h1 : heB P Q G zs es
  · have e0 : raB P Q G key zs es = false := by rw [ra_parts, h1]; rfl
    rw [ra_off e0, e0]
    have H1 := Lib.hid h1
    clear e0 h1 hn hn'
    have G_0 := Lib.hid (gr_at w (w.heap.size) (by simp) P Q G 27)
    have HB_0 := Lib.hid (show Below w.heap.size w (w.alloc (.cells #[.int .i64 P, .int .i64 Q, .int .i64 G] 27)) from ba _ _)
    have Z_0 := Lib.hid (hz.below HB_0.out (Nat.le_refl _))
    have E_0 := Lib.hid (hz'.below HB_0.out (Nat.le_refl _))
    go_enter Try.func35, Try.ntmps35
    go_wp2_with fail
    refine (haveExponents_any P Q G _ _ _ _ _ _ zs es HN.out HN'.out hl hl' _ Z_0.out E_0.out).mono ?_
    rw [H1.out]
    rintro e v1 ⟨rfl, hb⟩
    have HB_1 := Lib.hid (bt HB_0.out hb)
    have G_1 := Lib.hid (G_0.out.below hb)
    have Z_1 := Lib.hid (Z_0.out.below hb (Nat.le_refl _))
    have E_1 := Lib.hid (E_0.out.below hb (Nat.le_refl _))
    clear hb
    obtain ⟨gG0, gG1, gG2⟩ := G_1.out
    go_wp2
    go_ret2
    exact ansE_nil HB_1.out
  cases h2 : elB P Q key
  · have e0 : raB P Q G key zs es = false := by rw [ra_parts, h2, Bool.and_false]
    have hmo := good_mo (wp_parts ((he_wp P Q G zs es).symm.trans h1)).1
    rw [ra_off e0, e0]
    have H1 := Lib.hid h1
    have H2 := Lib.hid h2
    clear e0 h1 hn hn' h2
    have G_0 := Lib.hid (gr_at w (w.heap.size) (by simp) P Q G 27)
    have HB_0 := Lib.hid (show Below w.heap.size w (w.alloc (.cells #[.int .i64 P, .int .i64 Q, .int .i64 G] 27)) from ba _ _)
    have Z_0 := Lib.hid (hz.below HB_0.out (Nat.le_refl _))
    have E_0 := Lib.hid (hz'.below HB_0.out (Nat.le_refl _))
    go_enter Try.func35, Try.ntmps35
    go_wp2_with fail
    refine (haveExponents_any P Q G _ _ _ _ _ _ zs es HN.out HN'.out hl hl' _ Z_0.out E_0.out).mono ?_
    rw [H1.out]
    rintro e v1 ⟨rfl, hb⟩
    have HB_1 := Lib.hid (bt HB_0.out hb)
    have G_1 := Lib.hid (G_0.out.below hb)
    have Z_1 := Lib.hid (Z_0.out.below hb (Nat.le_refl _))
    have E_1 := Lib.hid (E_0.out.below hb (Nat.le_refl _))
    clear hb
    obtain ⟨gG0, gG1, gG2⟩ := G_1.out
    go_wp2_with fail
    refine (hasElement_any _ _ _ _ hmo _).mono ?_
    rw [H2.out]
    rintro e v2 ⟨rfl, hb⟩
    have HB_2 := Lib.hid (bt HB_1.out hb)
    have G_2 := Lib.hid (G_1.out.below hb)
    have Z_2 := Lib.hid (Z_1.out.below hb (Nat.le_refl _))
    have E_2 := Lib.hid (E_1.out.below hb (Nat.le_refl _))
    clear hb
    clear gG0 gG1 gG2
    obtain ⟨gG0, gG1, gG2⟩ := G_2.out
    go_wp2
    go_ret2
    exact ansE_nil HB_2.out
  have e0 : raB P Q G key zs es = true := by rw [ra_parts, h1, h2]; rfl
  rw [ra_on e0, e0]
  obtain ⟨hgd, hcs, hlen, hex⟩ := wp_parts ((he_wp P Q G zs es).symm.trans h1)
  have hmo := good_mo hgd
  have hP : 2 ≤ P ∧ P ≤ 2000000000 := hmo.1
  have hQ9 : Q ≤ 2000000000 := by obtain ⟨_, _, hq⟩ := hmo; exact hq
  have hG := el_rng (good_el hgd)
  have hky := el_rng h2
  obtain rfl : n = n' := by omega
  have H1 := Lib.hid h1
  have H2 := Lib.hid h2
  have HCR := Lib.hid (cs_rng hcs)
  have HEX := Lib.hid hex
  have HFL := Lib.hid (flatRe_length P G key es zs hlen)
  have n24 : n ≤ 24 := by have := HCR.out.1; omega
  have HZ0 := Lib.hid hz
  have HE0 := Lib.hid hz'
  obtain ⟨i0, hi, hz0, hz1, hi2⟩ := info_parts Try.infoCC
  have HI2 := Lib.hid hi2
  clear e0 h1 h2 hgd hcs hlen hex hn hn' hi2 hz hz'
  have hfl : ∀ (B : Nat) (W : World), (Instr.field 106 (kv B) 1).run Try.prog W = .ok (jf B) W := field_jf
  have G_0 := Lib.hid (gr_at w (w.heap.size) (by simp) P Q G 27)
  have HB_0 := Lib.hid (show Below w.heap.size w (w.alloc (.cells #[.int .i64 P, .int .i64 Q, .int .i64 G] 27)) from ba _ _)
  have Z_0 := Lib.hid (HZ0.out.below HB_0.out (Nat.le_refl _))
  have E_0 := Lib.hid (HE0.out.below HB_0.out (Nat.le_refl _))
  go_enter Try.func35, Try.ntmps35
  go_wp2_with fail
  refine (haveExponents_any P Q G _ _ _ _ _ _ zs es HN.out HN'.out hl hl' _ Z_0.out E_0.out).mono ?_
  rw [H1.out]
  rintro e v1 ⟨rfl, hb⟩
  have HB_1 := Lib.hid (bt HB_0.out hb)
  have G_1 := Lib.hid (G_0.out.below hb)
  have Z_1 := Lib.hid (Z_0.out.below hb (Nat.le_refl _))
  have E_1 := Lib.hid (E_0.out.below hb (Nat.le_refl _))
  clear hb
  obtain ⟨gG0, gG1, gG2⟩ := G_1.out
  go_wp2_with fail
  refine (hasElement_any _ _ _ _ hmo _).mono ?_
  rw [H2.out]
  rintro e v2 ⟨rfl, hb⟩
  have HB_2 := Lib.hid (bt HB_1.out hb)
  have G_2 := Lib.hid (G_1.out.below hb)
  have Z_2 := Lib.hid (Z_1.out.below hb (Nat.le_refl _))
  have E_2 := Lib.hid (E_1.out.below hb (Nat.le_refl _))
  clear hb
  clear gG0 gG1 gG2
  obtain ⟨gG0, gG1, gG2⟩ := G_2.out
  go_wp2_with fail
  refine (products_any P Q G _).mono ?_
  rintro e v3 ⟨B, rfl, hgB, hb⟩
  have HB_3 := Lib.hid (bt HB_2.out hb)
  have G_3 := Lib.hid (G_2.out.below hb)
  have Z_3 := Lib.hid (Z_2.out.below hb (Nat.le_refl _))
  clear hb
  clear gG0 gG1 gG2
  obtain ⟨gG0, gG1, gG2⟩ := G_3.out
  have GB_3 := Lib.hid hgB
  clear hgB
  clear gG0 gG1 gG2
  have hs3 : w.heap.size < v3.heap.size := G_3.out.lt
  obtain ⟨g0, g1, g2⟩ := G_3.out
  go_wp2_with (at_make; refine wpList_make_full _ rfl _ _ 52 rfl (v3.heap.size) 61 i0 (.agg #[.int .i64 0, .int .i64 0]) 2 Try.underlying52 hi hz0 hz1 .i64 .i64 _ _ n rfl rfl rfl rfl (by rw [HI2.out]; omega) (by unfold maxLen; omega) (Nat.le_refl _) ?_; intro w4 hown hgrow)
  go_loopw [12, 33] (fun _ K wr => ∃ k : Nat, k ≤ n ∧ K = .int .i64 k ∧ CipsOwn wr v3.heap.size (.slice (some ⟨v3.heap.size, 0, none⟩) n n) n (over (flatRe P G key zs es) (List.replicate (n * 2) 0) (k * 2)) ∧ Below v3.heap.size v3 wr) (fun _ K _ => n - (intOf K).toNat)
  case atStart =>
    refine ⟨0, Nat.zero_le _, rfl, ?_, (Below.refl _ _).grown hgrow (Nat.le_refl _) (by simp)⟩
    rw [show 0 * 2 = 0 from rfl, over_zero]
    have h := hown
    rw [show Value.cells (.agg #[.int .i64 0, .int .i64 0]) = #[.int .i64 0, .int .i64 0] from rfl, made_twoC] at h
    unfold CipsOwn
    rw [List.map_replicate]
    exact h
  case round =>
    obtain ⟨k, hk, rfl, hownr, hbel⟩ := hrel
    clear hown hgrow g0 g1 g2
    have HO := Lib.hid hownr
    have HBk := Lib.hid hbel
    have G_r := Lib.hid (G_3.out.below hbel)
    have GB_r := Lib.hid (GB_3.out.below hbel)
    have HBw := Lib.hid (HB_3.out.trans (hbel.mono HB_3.out.size))
    have hsr : v3.heap.size ≤ wr.heap.size := hbel.size
    clear hownr hbel
    by_cases hkn : k < n
    · obtain ⟨b', off', x, hbb, hb', hc', hd'⟩ := HE0.out.at (k := k) (by have := HN'.out; omega)
      subst hbb
      obtain ⟨b, off, p, q, hba, hb, hc1, hc2, hd⟩ := (HZ0.out.below HBw.out (Nat.le_refl _)).pair hkn HN.out
      subst hba
      have HD := Lib.hid (re_step2 (P := P) (G := G) (key := key) hd hd')
      have hp := HCR.out.2 p (mem_drop hd)
      have hq := HCR.out.2 q (List.mem_of_mem_drop (i := k * 2) (by rw [hd]; simp))
      have hx := HEX.out x (mem_drop hd')
      have hce := (HBw.out.cell (p := ⟨b', off' + k, none⟩) hb').trans hc'
      have hal := ba wr (.cells #[.int .i64 p, .int .i64 q] 61)
      have hald := hal.drew
      have HC := Lib.hid (c2_new wr p q 61)
      have hbw' : b' < wr.heap.size := by have := HBw.out.size; omega
      have e0 := (hal.cell (p := ⟨b', off' + k, none⟩) hbw').trans hce
      have HAL := Lib.hid hal
      have HALD := Lib.hid hald
      obtain ⟨y0'', y1''⟩ := pow_lt key x P hP.1
      obtain ⟨t0, t1⟩ := pow_lt G x P hP.1
      have HM1 := Lib.hid (mul_one_lt y0'' y1'')
      obtain ⟨k0, k1, k2⟩ := G_r.out.below hal
      obtain ⟨y0, y1, _⟩ := HC.out
      have hki : (k : Int) < (n : Int) := by omega
      have hne1 : v3.heap.size ≠ w.heap.size := by omega
      have hne2 : v3.heap.size ≠ wr.heap.size := by have := (HO.out.lt v3.heap.size rfl).2; omega
      have hne3 : v3.heap.size ≠ b' := by omega
      have HCE := Lib.hid hce
      clear hd hd' hc' hce hal hald
      go_wp2_with fail
      go_region_held3 (fun w' => w'.cell? ⟨w.heap.size, 0, none⟩ = some (.int .i64 P) ∧ w'.cell? ⟨w.heap.size, 1, none⟩ = some (.int .i64 Q) ∧ w'.cell? ⟨w.heap.size, 2, none⟩ = some (.int .i64 G) ∧ w'.cell? ⟨wr.heap.size, 0, none⟩ = some (.int .i64 p) ∧ w'.cell? ⟨wr.heap.size, 1, none⟩ = some (.int .i64 q) ∧ w'.cell? ⟨b', off' + k, none⟩ = some (.int .i64 x)) (first | with_reducible exact ⟨z0', z1', z2', zy0, zy1, ze0⟩ | with_reducible exact ⟨x0', x1', x2', xy0, xy1, xe0⟩ | exact ⟨k0, k1, k2, y0, y1, e0⟩ | exact ⟨cell_pair z0' hne1 _ _, cell_pair z1' hne1 _ _, cell_pair z2' hne1 _ _, cell_pair zy0 hne2 _ _, cell_pair zy1 hne2 _ _, cell_pair ze0 hne3 _ _⟩) ((first
        | (go_at_call 86; refine (encrypt_any P Q G key 1 x hP.1 hP.2 hG.1 (by omega) hky.1 (by omega) (by decide) (by decide) hx.1 (by omega) _).mono ?_; rw [HM1.out]; rintro e vx ⟨rfl, hpp⟩; have HX := Lib.hid (show Below wr.heap.size wr vx from bt HALD.out hpp); have Gx := Lib.hid (G_r.out.below HX.out); have Cx := Lib.hid (c2_drop HC.out hpp); have xe0 := (HX.out.cell (p := ⟨b', off' + k, none⟩) hbw').trans HCE.out; clear hpp; obtain ⟨x0', x1', x2'⟩ := Gx.out; obtain ⟨xy0, xy1, _⟩ := Cx.out)
        | (go_at_call 113; refine (cjoin_any P Q G p q (Num.pow G x P) (Num.pow key x P) hP.1 hP.2 hp hq ⟨t0, t1⟩ ⟨y0'', y1''⟩ B _ (GB_r.out.below HX.out)).mono ?_; rintro e vz ⟨rfl, hpp⟩; have HZZ := Lib.hid (show Below wr.heap.size wr vz from bt HX.out hpp); have Gz := Lib.hid (G_r.out.below HZZ.out); have Cz := Lib.hid (Cx.out.below hpp); have ze0 := (HZZ.out.cell (p := ⟨b', off' + k, none⟩) hbw').trans HCE.out; obtain ⟨o2, ⟨u1, m1⟩, m2, ⟨u3, m3⟩, m4, ⟨u5, m5⟩, m6⟩ := cset_two (own_below HO.out HZZ.out) HD.out (HFL.out.trans HN.out) (by simp) hkn; have HO2 := Lib.hid o2; clear hpp o2; obtain ⟨z0', z1', z2'⟩ := Gz.out; obtain ⟨zy0, zy1, _⟩ := Cz.out)
        | fail))
      all_goals (
        go_wp2
        go_roundw
        case rel => exact ⟨k + 1, by omega, by go_num, HO2.out, ((HBk.out.trans (HZZ.out.mono HBk.out.size)).setCell (Nat.le_refl _) _).setCell (Nat.le_refl _) _⟩
        case measure => simp only [intOf]; omega)
    · obtain rfl : k = n := by omega
      have hown2 := HO.out
      rw [over_all _ _ (by have := HFL.out; have := HN.out; omega) (by simp)] at hown2
      have HO3 := Lib.hid hown2
      clear hown2
      go_wp2
      go_ret2
      exact ⟨_, rfl, owC_mk (own_rebase HO3.out (by intro g hg; have := (HO3.out.lt g hg).1; omega)) HBw.out.size, HBw.out⟩

end Go.Proofs.Ytafoenoilcgjdaa

