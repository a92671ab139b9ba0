/- ElGamal: all ciphertexts of a list combined, and a ciphertext combined with itself e times. -/
import Derived.Test.YtafoenoilcgjdaaElB
import Derived.Test.YtafoenoilcgjdaaGrG
import Derived.Test.YtafoenoilcgjdaaG4
namespace Go.Proofs.Ytafoenoilcgjdaa
open Go.RowKit


set_option maxHeartbeats 1600000 in
theorem ofAll_any (P Q G : Int) (h2 : 2 ≤ P) (h3 : P ≤ 2000000000) (ad : Option Addr) (n cap : Nat) (zs : List Int) (hn : zs.length = n * 2) (hl : n ≤ 2000000) (hr : ∀ z ∈ zs, 0 ≤ z ∧ z < P) (B : Nat) (w : World) (hz : IsInts w ad zs) (hB : GR w B P Q G) :
    Calls Try.prog 89 #[kv B, .slice ad n cap] w fun e w' => e = .returned (cv (mulFrom P 1 (evens zs)) (mulFrom P 1 (odds zs))) ∧ Below w.heap.size w w' := by
  have hal1 := ba w (.cells #[.int .i64 1, .int .i64 1, (.func (.func 113) #[] #[.pointer (some ⟨B, 0, none⟩)])] 106)
  have hal2 := ba (w.alloc (.cells #[.int .i64 1, .int .i64 1, (.func (.func 113) #[] #[.pointer (some ⟨B, 0, none⟩)])] 106)) (.cells #[.int .i64 0, .int .i64 0] 61)
  have HB_0 := Lib.hid (bt hal1 hal2)
  have R_0 := Lib.hid (c2_at (w.alloc (.cells #[.int .i64 1, .int .i64 1, (.func (.func 113) #[] #[.pointer (some ⟨B, 0, none⟩)])] 106)) (w.heap.size + 1) (by simp) 0 0 61)
  have HZ := Lib.hid hz
  have HG := Lib.hid hB
  have HR := Lib.hid hr
  have HN := Lib.hid hn
  clear hz hB hr hn hal1 hal2
  go_enter Try.func89, Try.ntmps89
  go_wp2_with fail
  refine (foldCs_any P Q G h2 h3 ad n cap zs HN.out hl HR.out B _ (HZ.out.below HB_0.out (Nat.le_refl _)) (HG.out.below HB_0.out)).mono ?_
  rintro e v1 ⟨rfl, hb⟩
  have HB_1 := Lib.hid (bt HB_0.out hb)
  have R_1 := Lib.hid (R_0.out.below hb)
  clear hb
  obtain ⟨r0, r1, rf⟩ := R_1.out
  have rf0 := rf 0
  have rf1 := rf 1
  clear rf
  go_wp2
  (try simp only [Exit.inBlock, Exit.then])
  refine bodyPost_ret (v := cv (mulFrom P 1 (evens zs)) (mulFrom P 1 (odds zs))) ?_ rfl ⟨rfl, ?_⟩
  · rw [results_cell_one rfl]; go_simp
  · exact set_below HB_1.out _ (by omega) _ _


theorem pwp_ex {r q m : Nat} (hr : r < m) (hq : q < m) (h3 : m ≤ 2000000000) : ∃ x : Nat, (r : Int) * q % m = (x : Int) ∧ x < m ∧ r * q % m = x := by
  obtain ⟨_, _, h1, _, h2, _⟩ := pow_facts (r := r) (q := q) (m := m) (by omega) (by omega) (by omega)
  exact ⟨_, h1, h2, rfl⟩

set_option maxRecDepth 100000 in
set_option maxHeartbeats 6400000 in
theorem kpower_nat (p a b e : Nat) (Q G : Int) (h2 : 2 ≤ p) (h3 : p ≤ 2000000000) (ha : a < p) (hb : b < p) (he : e ≤ 2000000000) (B : Nat) (w : World) (hB : GR w B p Q G) :
    Calls Try.prog 92 #[kv B, cv a b, .int .i64 e] w fun e' w' => e' = .returned (cv (Num.pw 1 a e p : Nat) (Num.pw 1 b e p : Nat)) ∧ Below w.heap.size w w' := by
  have hal1 := ba w (.cells #[.int .i64 1, .int .i64 1, (.func (.func 113) #[] #[.pointer (some ⟨B, 0, none⟩)])] 106)
  have hal2 := ba (w.alloc (.cells #[.int .i64 1, .int .i64 1, (.func (.func 113) #[] #[.pointer (some ⟨B, 0, none⟩)])] 106)) (.cells #[.int .i64 a, .int .i64 b] 61)
  have hal3 := ba ((w.alloc (.cells #[.int .i64 1, .int .i64 1, (.func (.func 113) #[] #[.pointer (some ⟨B, 0, none⟩)])] 106)).alloc (.cells #[.int .i64 a, .int .i64 b] 61)) (.cells #[.int .i64 0, .int .i64 0] 61)
  have hal4 := ba (((w.alloc (.cells #[.int .i64 1, .int .i64 1, (.func (.func 113) #[] #[.pointer (some ⟨B, 0, none⟩)])] 106)).alloc (.cells #[.int .i64 a, .int .i64 b] 61)).alloc (.cells #[.int .i64 0, .int .i64 0] 61)) (.cells #[.int .i64 1, .int .i64 1] 61)
  have hal5 := ba ((((w.alloc (.cells #[.int .i64 1, .int .i64 1, (.func (.func 113) #[] #[.pointer (some ⟨B, 0, none⟩)])] 106)).alloc (.cells #[.int .i64 a, .int .i64 b] 61)).alloc (.cells #[.int .i64 0, .int .i64 0] 61)).alloc (.cells #[.int .i64 1, .int .i64 1] 61)) (.cells #[.int .i64 a, .int .i64 b] 61)
  have HK_0 := Lib.hid ((((B3.below (b3_new w (.int .i64 1) (.int .i64 1) (jf B) 106) hal2).below hal3).below hal4).below hal5)
  have R_0 := Lib.hid (((c2_at ((w.alloc (.cells #[.int .i64 1, .int .i64 1, (.func (.func 113) #[] #[.pointer (some ⟨B, 0, none⟩)])] 106)).alloc (.cells #[.int .i64 a, .int .i64 b] 61)) (w.heap.size + 1 + 1) (by simp) 0 0 61).below hal4).below hal5)
  have V_0 := Lib.hid ((c2_at (((w.alloc (.cells #[.int .i64 1, .int .i64 1, (.func (.func 113) #[] #[.pointer (some ⟨B, 0, none⟩)])] 106)).alloc (.cells #[.int .i64 a, .int .i64 b] 61)).alloc (.cells #[.int .i64 0, .int .i64 0] 61)) (w.heap.size + 1 + 1 + 1) (by simp) 1 1 61).below hal5)
  have S_0 := Lib.hid (c2_at ((((w.alloc (.cells #[.int .i64 1, .int .i64 1, (.func (.func 113) #[] #[.pointer (some ⟨B, 0, none⟩)])] 106)).alloc (.cells #[.int .i64 a, .int .i64 b] 61)).alloc (.cells #[.int .i64 0, .int .i64 0] 61)).alloc (.cells #[.int .i64 1, .int .i64 1] 61)) (w.heap.size + 1 + 1 + 1 + 1) (by simp) a b 61)
  have HB_0 := Lib.hid (bt (bt (bt (bt hal1 hal2) hal3) hal4) hal5)
  have HG := Lib.hid hB
  clear hal1 hal2 hal3 hal4 hal5 hB
  go_enter Try.func92, Try.ntmps92
  go_wp2
  go_loopw [2, 8] (fun E S wr => ∃ n ra rb sa sb bk : Nat, n ≤ 2000000000 ∧ E = .int .i64 n ∧ S = .pointer (some ⟨bk, 0, none⟩) ∧ (ra < p ∧ rb < p ∧ sa < p ∧ sb < p) ∧ Num.pw 1 a e p = Num.pw ra sa n p ∧ Num.pw 1 b e p = Num.pw rb sb n p ∧ w.heap.size + 1 + 1 + 1 + 1 ≤ bk ∧ Below w.heap.size w wr ∧ B3 wr w.heap.size (.int .i64 1) (.int .i64 1) (jf B) ∧ C2 wr (w.heap.size + 1 + 1) 0 0 ∧ C2 wr (w.heap.size + 1 + 1 + 1) ra rb ∧ C2 wr bk sa sb) (fun E _ _ => (intOf E).toNat)
  case atStart => exact ⟨e, 1, 1, a, b, w.heap.size + 1 + 1 + 1 + 1, he, rfl, rfl, by omega, rfl, rfl, Nat.le_refl _, HB_0.out, HK_0.out, R_0.out, V_0.out, S_0.out⟩
  case round =>
    obtain ⟨n, ra, rb, sa, sb, bk, hn, rfl, rfl, ⟨l1, l2, l3, l4⟩, hea, heb, hbk, hbel, hk, hres, hv, hs⟩ := hrel
    have HEA := Lib.hid hea
    have HEB := Lib.hid heb
    have HBr := Lib.hid hbel
    have HKr := Lib.hid hk
    have HRr := Lib.hid hres
    have HVr := Lib.hid hv
    have HSr := Lib.hid hs
    have hne : bk ≠ w.heap.size + 1 + 1 + 1 := by omega
    have hne' : w.heap.size + 1 + 1 + 1 ≠ bk := by omega
    have hne2 : w.heap.size + 1 + 1 ≠ bk := by omega
    have hne3 : w.heap.size ≠ bk := by omega
    clear hea heb hbel hk hres hv hs
    obtain ⟨k0, k1, k2, _⟩ := HKr.out
    obtain ⟨s0, s1, sf⟩ := HSr.out
    obtain ⟨v0, v1, vf⟩ := HVr.out
    obtain ⟨r0, r1, rf⟩ := HRr.out
    have rf0 := rf 0
    have rf1 := rf 1
    have vf0 := vf 0
    have vf1 := vf 1
    have sf0 := sf 0
    have sf1 := sf 1
    clear rf vf sf
    by_cases hn0 : n = 0
    · subst hn0
      go_wp2
      (try simp only [Exit.inBlock, Exit.then])
      refine bodyPost_ret (v := cv ra rb) ?_ rfl ⟨by rw [HEA.out, HEB.out, Num.pw_zero, Num.pw_zero], ?_⟩
      · rw [results_cell_one rfl]; go_simp
      · exact set_below HBr.out _ (by omega) _ _
    have hn1 : 0 < (n : Int) := by omega
    by_cases hs1 : sa = 1 ∧ sb = 1
    · obtain ⟨rfl, rfl⟩ := hs1
      go_wp2
      (try simp only [Exit.inBlock, Exit.then])
      refine bodyPost_ret (v := cv ra rb) ?_ rfl ⟨by rw [HEA.out, HEB.out, pw_one l1, pw_one l2], ?_⟩
      · rw [results_cell_one rfl]; go_simp
      · exact set_below HBr.out _ (by omega) _ _
    by_cases hsa : sa = 1
    · obtain rfl := hsa
      have hsb : ¬ (sb : Int) = 1 := by omega
      have s0 : wr.cell? ⟨bk, 0, none⟩ = some (.int .i64 1) := HSr.out.1
      have HGr := Lib.hid (HG.out.below HBr.out)
      obtain ⟨n1, e1, m1, q1⟩ := (show ∃ x : Nat, (ra : Int) * 1 % (p : Int) = (x : Int) ∧ x < p ∧ ra * 1 % p = x from pwp_ex l1 l3 h3)
      obtain ⟨n3, e3, m3, q3⟩ := (show ∃ x : Nat, 1 * 1 % (p : Int) = (x : Int) ∧ x < p ∧ 1 * 1 % p = x from pwp_ex l3 l3 h3)
      obtain ⟨n2, e2, m2, q2⟩ := pwp_ex l2 l4 h3
      obtain ⟨n4, e4, m4, q4⟩ := pwp_ex l4 l4 h3
      have HW1 := Lib.hid e1
      have HQ1 := Lib.hid q1
      have HW2 := Lib.hid e2
      have HQ2 := Lib.hid q2
      have HW3 := Lib.hid e3
      have HQ3 := Lib.hid q3
      have HW4 := Lib.hid e4
      have HQ4 := Lib.hid q4
      clear hs1 e1 q1 e2 q2 e3 q3 e4 q4
      by_cases ho : n % 2 = 1
      · have hoi : ((n : Int) % 2 == 1) = true := by simp; omega
        go_wp2_with fail
        refine (cjoin_any (p : Int) Q G (ra : Int) (rb : Int) 1 (sb : Int) (by omega) (by omega) ⟨by omega, by omega⟩ ⟨by omega, by omega⟩ ⟨by omega, by omega⟩ ⟨by omega, by omega⟩ B _ HGr.out).mono ?_
        rw [HW1.out, HW2.out]
        rintro e x1 ⟨rfl, hb1⟩
        have HB1 := Lib.hid (bt HBr.out hb1)
        have HK1 := Lib.hid (HKr.out.below hb1)
        have HR1 := Lib.hid (HRr.out.below hb1)
        have HV1 := Lib.hid (HVr.out.below hb1)
        have HS1 := Lib.hid (HSr.out.below hb1)
        clear hb1
        clear k0 k1 k2 s0 s1 v0 v1 r0 r1 rf0 rf1 vf0 vf1 sf0 sf1
        obtain ⟨k0, k1, k2, _⟩ := HK1.out
        obtain ⟨s0, s1, sf⟩ := HS1.out
        have sf0 := sf 0
        have sf1 := sf 1
        clear sf
        obtain ⟨v0, v1, vf⟩ := HV1.out
        have vf0 := vf 0
        have vf1 := vf 1
        clear vf
        obtain ⟨r0, r1, rf⟩ := HR1.out
        have rf0 := rf 0
        have rf1 := rf 1
        clear rf
        have s0 : x1.cell? ⟨bk, 0, none⟩ = some (.int .i64 1) := HS1.out.1
        go_wp2_with fail
        have HB2 := Lib.hid (set_below HB1.out (w.heap.size + 1 + 1 + 1) (by omega) (.int .i64 (n1 : Int)) (.int .i64 (n2 : Int)))
        refine (cjoin_any (p : Int) Q G 1 (sb : Int) 1 (sb : Int) (by omega) (by omega) ⟨by omega, by omega⟩ ⟨by omega, by omega⟩ ⟨by omega, by omega⟩ ⟨by omega, by omega⟩ B _ (HG.out.below HB2.out)).mono ?_
        rw [HW3.out, HW4.out]
        rintro e x2 ⟨rfl, hb2⟩
        have HB3 := Lib.hid (bt HB2.out hb2)
        have HK3 := Lib.hid (((HK1.out.other ⟨w.heap.size + 1 + 1 + 1, 0, none⟩ (.int .i64 (n1 : Int)) (show w.heap.size + 1 + 1 + 1 ≠ w.heap.size from by omega)).other ⟨w.heap.size + 1 + 1 + 1, 1, none⟩ (.int .i64 (n2 : Int)) (show w.heap.size + 1 + 1 + 1 ≠ w.heap.size from by omega)).below hb2)
        have HR3 := Lib.hid (((HR1.out.other ⟨w.heap.size + 1 + 1 + 1, 0, none⟩ (.int .i64 (n1 : Int)) (show w.heap.size + 1 + 1 + 1 ≠ w.heap.size + 1 + 1 from by omega)).other ⟨w.heap.size + 1 + 1 + 1, 1, none⟩ (.int .i64 (n2 : Int)) (show w.heap.size + 1 + 1 + 1 ≠ w.heap.size + 1 + 1 from by omega)).below hb2)
        have HV3 := Lib.hid ((C2.set HV1.out (n1 : Int) (n2 : Int)).below hb2)
        have HS3 := Lib.hid (((HS1.out.other ⟨w.heap.size + 1 + 1 + 1, 0, none⟩ (.int .i64 (n1 : Int)) (show w.heap.size + 1 + 1 + 1 ≠ bk from by omega)).other ⟨w.heap.size + 1 + 1 + 1, 1, none⟩ (.int .i64 (n2 : Int)) (show w.heap.size + 1 + 1 + 1 ≠ bk from by omega)).below hb2)
        clear hb2
        clear k0 k1 k2 s0 s1 v0 v1 r0 r1 rf0 rf1 vf0 vf1 sf0 sf1
        obtain ⟨k0, k1, k2, _⟩ := HK3.out
        obtain ⟨s0, s1, sf⟩ := HS3.out
        have sf0 := sf 0
        have sf1 := sf 1
        clear sf
        obtain ⟨v0, v1, vf⟩ := HV3.out
        have vf0 := vf 0
        have vf1 := vf 1
        clear vf
        obtain ⟨r0, r1, rf⟩ := HR3.out
        have rf0 := rf 0
        have rf1 := rf 1
        clear rf
        go_wp2
        go_roundw
        case rel => exact ⟨n / 2, n1, n2, n3, n4, x2.heap.size, by omega, by simp, rfl, ⟨m1, m2, m3, m4⟩, (by rw [HEA.out, Num.pw_odd ho, HQ1.out, HQ3.out]), (by rw [HEB.out, Num.pw_odd ho, HQ2.out, HQ4.out]), (by have := HV3.out.lt; have := HS3.out.lt; omega), bt (set_below HB3.out bk (by omega) (.int .i64 (n3 : Int)) (.int .i64 (n4 : Int))) (ba _ _), B3.below ((HK3.out.other ⟨bk, 0, none⟩ (.int .i64 (n3 : Int)) (show bk ≠ w.heap.size from by omega)).other ⟨bk, 1, none⟩ (.int .i64 (n4 : Int)) (show bk ≠ w.heap.size from by omega)) (ba _ _), C2.below ((HR3.out.other ⟨bk, 0, none⟩ (.int .i64 (n3 : Int)) (show bk ≠ w.heap.size + 1 + 1 from by omega)).other ⟨bk, 1, none⟩ (.int .i64 (n4 : Int)) (show bk ≠ w.heap.size + 1 + 1 from by omega)) (ba _ _), C2.below ((HV3.out.other ⟨bk, 0, none⟩ (.int .i64 (n3 : Int)) (show bk ≠ w.heap.size + 1 + 1 + 1 from by omega)).other ⟨bk, 1, none⟩ (.int .i64 (n4 : Int)) (show bk ≠ w.heap.size + 1 + 1 + 1 from by omega)) (ba _ _), c2_at _ _ (by simp) _ _ _⟩
        case measure => simp only [intOf]; omega
      · have hoi : ((n : Int) % 2 == 1) = false := by simp; omega
        go_wp2_with fail
        refine (cjoin_any (p : Int) Q G 1 (sb : Int) 1 (sb : Int) (by omega) (by omega) ⟨by omega, by omega⟩ ⟨by omega, by omega⟩ ⟨by omega, by omega⟩ ⟨by omega, by omega⟩ B _ HGr.out).mono ?_
        rw [HW3.out, HW4.out]
        rintro e x2 ⟨rfl, hb2⟩
        have HB3 := Lib.hid (bt HBr.out hb2)
        have HK3 := Lib.hid (HKr.out.below hb2)
        have HR3 := Lib.hid (HRr.out.below hb2)
        have HV3 := Lib.hid (HVr.out.below hb2)
        have HS3 := Lib.hid (HSr.out.below hb2)
        clear hb2
        clear k0 k1 k2 s0 s1 v0 v1 r0 r1 rf0 rf1 vf0 vf1 sf0 sf1
        obtain ⟨k0, k1, k2, _⟩ := HK3.out
        obtain ⟨s0, s1, sf⟩ := HS3.out
        have sf0 := sf 0
        have sf1 := sf 1
        clear sf
        obtain ⟨v0, v1, vf⟩ := HV3.out
        have vf0 := vf 0
        have vf1 := vf 1
        clear vf
        obtain ⟨r0, r1, rf⟩ := HR3.out
        have rf0 := rf 0
        have rf1 := rf 1
        clear rf
        go_wp2
        go_roundw
        case rel => exact ⟨n / 2, ra, rb, n3, n4, x2.heap.size, by omega, by simp, rfl, ⟨l1, l2, m3, m4⟩, (by rw [HEA.out, Num.pw_even (by omega) hn0, HQ3.out]), (by rw [HEB.out, Num.pw_even (by omega) hn0, HQ4.out]), (by have := HV3.out.lt; have := HS3.out.lt; omega), bt (set_below HB3.out bk (by omega) (.int .i64 (n3 : Int)) (.int .i64 (n4 : Int))) (ba _ _), B3.below ((HK3.out.other ⟨bk, 0, none⟩ (.int .i64 (n3 : Int)) (show bk ≠ w.heap.size from by omega)).other ⟨bk, 1, none⟩ (.int .i64 (n4 : Int)) (show bk ≠ w.heap.size from by omega)) (ba _ _), C2.below ((HR3.out.other ⟨bk, 0, none⟩ (.int .i64 (n3 : Int)) (show bk ≠ w.heap.size + 1 + 1 from by omega)).other ⟨bk, 1, none⟩ (.int .i64 (n4 : Int)) (show bk ≠ w.heap.size + 1 + 1 from by omega)) (ba _ _), C2.below ((HV3.out.other ⟨bk, 0, none⟩ (.int .i64 (n3 : Int)) (show bk ≠ w.heap.size + 1 + 1 + 1 from by omega)).other ⟨bk, 1, none⟩ (.int .i64 (n4 : Int)) (show bk ≠ w.heap.size + 1 + 1 + 1 from by omega)) (ba _ _), c2_at _ _ (by simp) _ _ _⟩
        case measure => simp only [intOf]; omega
    · have hsai : ¬ (sa : Int) = 1 := by omega
      have HGr := Lib.hid (HG.out.below HBr.out)
      obtain ⟨n1, e1, m1, q1⟩ := (show ∃ x : Nat, (ra : Int) * (sa : Int) % (p : Int) = (x : Int) ∧ x < p ∧ ra * sa % p = x from pwp_ex l1 l3 h3)
      obtain ⟨n3, e3, m3, q3⟩ := (show ∃ x : Nat, (sa : Int) * (sa : Int) % (p : Int) = (x : Int) ∧ x < p ∧ sa * sa % p = x from pwp_ex l3 l3 h3)
      obtain ⟨n2, e2, m2, q2⟩ := pwp_ex l2 l4 h3
      obtain ⟨n4, e4, m4, q4⟩ := pwp_ex l4 l4 h3
      have HW1 := Lib.hid e1
      have HQ1 := Lib.hid q1
      have HW2 := Lib.hid e2
      have HQ2 := Lib.hid q2
      have HW3 := Lib.hid e3
      have HQ3 := Lib.hid q3
      have HW4 := Lib.hid e4
      have HQ4 := Lib.hid q4
      clear hs1 e1 q1 e2 q2 e3 q3 e4 q4
      by_cases ho : n % 2 = 1
      · have hoi : ((n : Int) % 2 == 1) = true := by simp; omega
        go_wp2_with fail
        refine (cjoin_any (p : Int) Q G (ra : Int) (rb : Int) (sa : Int) (sb : Int) (by omega) (by omega) ⟨by omega, by omega⟩ ⟨by omega, by omega⟩ ⟨by omega, by omega⟩ ⟨by omega, by omega⟩ B _ HGr.out).mono ?_
        rw [HW1.out, HW2.out]
        rintro e x1 ⟨rfl, hb1⟩
        have HB1 := Lib.hid (bt HBr.out hb1)
        have HK1 := Lib.hid (HKr.out.below hb1)
        have HR1 := Lib.hid (HRr.out.below hb1)
        have HV1 := Lib.hid (HVr.out.below hb1)
        have HS1 := Lib.hid (HSr.out.below hb1)
        clear hb1
        clear k0 k1 k2 s0 s1 v0 v1 r0 r1 rf0 rf1 vf0 vf1 sf0 sf1
        obtain ⟨k0, k1, k2, _⟩ := HK1.out
        obtain ⟨s0, s1, sf⟩ := HS1.out
        have sf0 := sf 0
        have sf1 := sf 1
        clear sf
        obtain ⟨v0, v1, vf⟩ := HV1.out
        have vf0 := vf 0
        have vf1 := vf 1
        clear vf
        obtain ⟨r0, r1, rf⟩ := HR1.out
        have rf0 := rf 0
        have rf1 := rf 1
        clear rf
        go_wp2_with fail
        have HB2 := Lib.hid (set_below HB1.out (w.heap.size + 1 + 1 + 1) (by omega) (.int .i64 (n1 : Int)) (.int .i64 (n2 : Int)))
        refine (cjoin_any (p : Int) Q G (sa : Int) (sb : Int) (sa : Int) (sb : Int) (by omega) (by omega) ⟨by omega, by omega⟩ ⟨by omega, by omega⟩ ⟨by omega, by omega⟩ ⟨by omega, by omega⟩ B _ (HG.out.below HB2.out)).mono ?_
        rw [HW3.out, HW4.out]
        rintro e x2 ⟨rfl, hb2⟩
        have HB3 := Lib.hid (bt HB2.out hb2)
        have HK3 := Lib.hid (((HK1.out.other ⟨w.heap.size + 1 + 1 + 1, 0, none⟩ (.int .i64 (n1 : Int)) (show w.heap.size + 1 + 1 + 1 ≠ w.heap.size from by omega)).other ⟨w.heap.size + 1 + 1 + 1, 1, none⟩ (.int .i64 (n2 : Int)) (show w.heap.size + 1 + 1 + 1 ≠ w.heap.size from by omega)).below hb2)
        have HR3 := Lib.hid (((HR1.out.other ⟨w.heap.size + 1 + 1 + 1, 0, none⟩ (.int .i64 (n1 : Int)) (show w.heap.size + 1 + 1 + 1 ≠ w.heap.size + 1 + 1 from by omega)).other ⟨w.heap.size + 1 + 1 + 1, 1, none⟩ (.int .i64 (n2 : Int)) (show w.heap.size + 1 + 1 + 1 ≠ w.heap.size + 1 + 1 from by omega)).below hb2)
        have HV3 := Lib.hid ((C2.set HV1.out (n1 : Int) (n2 : Int)).below hb2)
        have HS3 := Lib.hid (((HS1.out.other ⟨w.heap.size + 1 + 1 + 1, 0, none⟩ (.int .i64 (n1 : Int)) (show w.heap.size + 1 + 1 + 1 ≠ bk from by omega)).other ⟨w.heap.size + 1 + 1 + 1, 1, none⟩ (.int .i64 (n2 : Int)) (show w.heap.size + 1 + 1 + 1 ≠ bk from by omega)).below hb2)
        clear hb2
        clear k0 k1 k2 s0 s1 v0 v1 r0 r1 rf0 rf1 vf0 vf1 sf0 sf1
        obtain ⟨k0, k1, k2, _⟩ := HK3.out
        obtain ⟨s0, s1, sf⟩ := HS3.out
        have sf0 := sf 0
        have sf1 := sf 1
        clear sf
        obtain ⟨v0, v1, vf⟩ := HV3.out
        have vf0 := vf 0
        have vf1 := vf 1
        clear vf
        obtain ⟨r0, r1, rf⟩ := HR3.out
        have rf0 := rf 0
        have rf1 := rf 1
        clear rf
        go_wp2
        go_roundw
        case rel => exact ⟨n / 2, n1, n2, n3, n4, x2.heap.size, by omega, by simp, rfl, ⟨m1, m2, m3, m4⟩, (by rw [HEA.out, Num.pw_odd ho, HQ1.out, HQ3.out]), (by rw [HEB.out, Num.pw_odd ho, HQ2.out, HQ4.out]), (by have := HV3.out.lt; have := HS3.out.lt; omega), bt (set_below HB3.out bk (by omega) (.int .i64 (n3 : Int)) (.int .i64 (n4 : Int))) (ba _ _), B3.below ((HK3.out.other ⟨bk, 0, none⟩ (.int .i64 (n3 : Int)) (show bk ≠ w.heap.size from by omega)).other ⟨bk, 1, none⟩ (.int .i64 (n4 : Int)) (show bk ≠ w.heap.size from by omega)) (ba _ _), C2.below ((HR3.out.other ⟨bk, 0, none⟩ (.int .i64 (n3 : Int)) (show bk ≠ w.heap.size + 1 + 1 from by omega)).other ⟨bk, 1, none⟩ (.int .i64 (n4 : Int)) (show bk ≠ w.heap.size + 1 + 1 from by omega)) (ba _ _), C2.below ((HV3.out.other ⟨bk, 0, none⟩ (.int .i64 (n3 : Int)) (show bk ≠ w.heap.size + 1 + 1 + 1 from by omega)).other ⟨bk, 1, none⟩ (.int .i64 (n4 : Int)) (show bk ≠ w.heap.size + 1 + 1 + 1 from by omega)) (ba _ _), c2_at _ _ (by simp) _ _ _⟩
        case measure => simp only [intOf]; omega
      · have hoi : ((n : Int) % 2 == 1) = false := by simp; omega
        go_wp2_with fail
        refine (cjoin_any (p : Int) Q G (sa : Int) (sb : Int) (sa : Int) (sb : Int) (by omega) (by omega) ⟨by omega, by omega⟩ ⟨by omega, by omega⟩ ⟨by omega, by omega⟩ ⟨by omega, by omega⟩ B _ HGr.out).mono ?_
        rw [HW3.out, HW4.out]
        rintro e x2 ⟨rfl, hb2⟩
        have HB3 := Lib.hid (bt HBr.out hb2)
        have HK3 := Lib.hid (HKr.out.below hb2)
        have HR3 := Lib.hid (HRr.out.below hb2)
        have HV3 := Lib.hid (HVr.out.below hb2)
        have HS3 := Lib.hid (HSr.out.below hb2)
        clear hb2
        clear k0 k1 k2 s0 s1 v0 v1 r0 r1 rf0 rf1 vf0 vf1 sf0 sf1
        obtain ⟨k0, k1, k2, _⟩ := HK3.out
        obtain ⟨s0, s1, sf⟩ := HS3.out
        have sf0 := sf 0
        have sf1 := sf 1
        clear sf
        obtain ⟨v0, v1, vf⟩ := HV3.out
        have vf0 := vf 0
        have vf1 := vf 1
        clear vf
        obtain ⟨r0, r1, rf⟩ := HR3.out
        have rf0 := rf 0
        have rf1 := rf 1
        clear rf
        go_wp2
        go_roundw
        case rel => exact ⟨n / 2, ra, rb, n3, n4, x2.heap.size, by omega, by simp, rfl, ⟨l1, l2, m3, m4⟩, (by rw [HEA.out, Num.pw_even (by omega) hn0, HQ3.out]), (by rw [HEB.out, Num.pw_even (by omega) hn0, HQ4.out]), (by have := HV3.out.lt; have := HS3.out.lt; omega), bt (set_below HB3.out bk (by omega) (.int .i64 (n3 : Int)) (.int .i64 (n4 : Int))) (ba _ _), B3.below ((HK3.out.other ⟨bk, 0, none⟩ (.int .i64 (n3 : Int)) (show bk ≠ w.heap.size from by omega)).other ⟨bk, 1, none⟩ (.int .i64 (n4 : Int)) (show bk ≠ w.heap.size from by omega)) (ba _ _), C2.below ((HR3.out.other ⟨bk, 0, none⟩ (.int .i64 (n3 : Int)) (show bk ≠ w.heap.size + 1 + 1 from by omega)).other ⟨bk, 1, none⟩ (.int .i64 (n4 : Int)) (show bk ≠ w.heap.size + 1 + 1 from by omega)) (ba _ _), C2.below ((HV3.out.other ⟨bk, 0, none⟩ (.int .i64 (n3 : Int)) (show bk ≠ w.heap.size + 1 + 1 + 1 from by omega)).other ⟨bk, 1, none⟩ (.int .i64 (n4 : Int)) (show bk ≠ w.heap.size + 1 + 1 + 1 from by omega)) (ba _ _), c2_at _ _ (by simp) _ _ _⟩
        case measure => simp only [intOf]; omega

end Go.Proofs.Ytafoenoilcgjdaa

/- ElGamal: the program's functions on single ciphertexts. -/
namespace Go.Proofs.Ytafoenoilcgjdaa
open Go.RowKit

set_option maxHeartbeats 3200000 in
theorem encryptElement_any (P Q G key m r : Int) (w : World) :
    Calls Try.prog 96 #[gv P Q G, .int .i64 key, .int .i64 m, .int .i64 r] w fun e w' => e = .returned (.tuple #[cv (encA P Q G key m r) (encM P Q G key m r), .bool (encB P Q G key m r)]) ∧ Below w.heap.size w w' := by
  cases h1 : goodB P Q G
  · skip
    have e0 : encB P Q G key m r = false := by simp [encB, h1]
    obtain ⟨e1, e2⟩ := enc_off e0
    rw [e0, e1, e2]
    clear e0 e1 e2
    have H1 := Lib.hid h1
    clear h1
    have G_0 := Lib.hid ((gr_at w (w.heap.size) (by simp) P Q G 27).below (ba (w.alloc (.cells #[.int .i64 P, .int .i64 Q, .int .i64 G] 27)) (.cells #[.int .i64 0, .int .i64 0] 61)))
    have R_0 := Lib.hid (c2_at (w.alloc (.cells #[.int .i64 P, .int .i64 Q, .int .i64 G] 27)) (w.heap.size + 1) (by simp) 0 0 61)
    have HB_0 := Lib.hid (show Below w.heap.size w ((w.alloc (.cells #[.int .i64 P, .int .i64 Q, .int .i64 G] 27)).alloc (.cells #[.int .i64 0, .int .i64 0] 61)) from bt (ba _ _) (ba _ _))
    go_enter Try.func96, Try.ntmps96
    go_wp2_with fail
    refine (isValidGroup_any _ _ _ _).mono ?_
    rw [H1.out]
    rintro e v1 ⟨rfl, hb⟩
    have HB_1 := Lib.hid (bt HB_0.out hb)
    have G_1 := Lib.hid (G_0.out.below hb)
    have R_1 := Lib.hid (R_0.out.below hb)
    clear hb
    obtain ⟨gG0, gG1, gG2⟩ := G_1.out
    obtain ⟨rR0, rR1, rfR⟩ := R_1.out
    have rfR0 := rfR 0
    have rfR1 := rfR 1
    go_wp2
    (try simp only [Exit.inBlock, Exit.then])
    refine bodyPost_ret (v := .tuple #[cv 0 0, .bool false]) ?_ rfl ⟨rfl, ?_⟩
    · rw [results_cell_tmp rfl]; go_simp
    · first | exact HB_1.out | exact set_below HB_1.out (w.heap.size + 1) (by omega) _ _
  cases h2 : elB P Q key
  · skip
    have e0 : encB P Q G key m r = false := by simp [encB, h2]
    obtain ⟨e1, e2⟩ := enc_off e0
    rw [e0, e1, e2]
    clear e0 e1 e2
    have hmo := good_mo h1
    have hP : 2 ≤ P ∧ P ≤ 2000000000 := by have := goodB_true.1 h1; omega
    have hG := el_rng (good_el h1)
    have H1 := Lib.hid h1
    have H2 := Lib.hid h2
    clear h1 h2
    have G_0 := Lib.hid ((gr_at w (w.heap.size) (by simp) P Q G 27).below (ba (w.alloc (.cells #[.int .i64 P, .int .i64 Q, .int .i64 G] 27)) (.cells #[.int .i64 0, .int .i64 0] 61)))
    have R_0 := Lib.hid (c2_at (w.alloc (.cells #[.int .i64 P, .int .i64 Q, .int .i64 G] 27)) (w.heap.size + 1) (by simp) 0 0 61)
    have HB_0 := Lib.hid (show Below w.heap.size w ((w.alloc (.cells #[.int .i64 P, .int .i64 Q, .int .i64 G] 27)).alloc (.cells #[.int .i64 0, .int .i64 0] 61)) from bt (ba _ _) (ba _ _))
    go_enter Try.func96, Try.ntmps96
    go_wp2_with fail
    refine (isValidGroup_any _ _ _ _).mono ?_
    rw [H1.out]
    rintro e v1 ⟨rfl, hb⟩
    have HB_1 := Lib.hid (bt HB_0.out hb)
    have G_1 := Lib.hid (G_0.out.below hb)
    have R_1 := Lib.hid (R_0.out.below hb)
    clear hb
    obtain ⟨gG0, gG1, gG2⟩ := G_1.out
    obtain ⟨rR0, rR1, rfR⟩ := R_1.out
    have rfR0 := rfR 0
    have rfR1 := rfR 1
    go_wp2_with fail
    refine (hasElement_any _ _ _ _ hmo _).mono ?_
    rw [H2.out]
    rintro e v2 ⟨rfl, hb⟩
    have HB_2 := Lib.hid (bt HB_1.out hb)
    have G_2 := Lib.hid (G_1.out.below hb)
    have R_2 := Lib.hid (R_1.out.below hb)
    clear hb
    clear gG0 gG1 gG2 rR0 rR1 rfR rfR0 rfR1
    obtain ⟨gG0, gG1, gG2⟩ := G_2.out
    obtain ⟨rR0, rR1, rfR⟩ := R_2.out
    have rfR0 := rfR 0
    have rfR1 := rfR 1
    go_wp2
    (try simp only [Exit.inBlock, Exit.then])
    refine bodyPost_ret (v := .tuple #[cv 0 0, .bool false]) ?_ rfl ⟨rfl, ?_⟩
    · rw [results_cell_tmp rfl]; go_simp
    · first | exact HB_2.out | exact set_below HB_2.out (w.heap.size + 1) (by omega) _ _
  cases h3 : elB P Q m
  · skip
    have e0 : encB P Q G key m r = false := by simp [encB, h3]
    obtain ⟨e1, e2⟩ := enc_off e0
    rw [e0, e1, e2]
    clear e0 e1 e2
    have hmo := good_mo h1
    have hP : 2 ≤ P ∧ P ≤ 2000000000 := by have := goodB_true.1 h1; omega
    have hG := el_rng (good_el h1)
    have hkr := el_rng h2
    have H1 := Lib.hid h1
    have H2 := Lib.hid h2
    have H3 := Lib.hid h3
    clear h1 h2 h3
    have G_0 := Lib.hid ((gr_at w (w.heap.size) (by simp) P Q G 27).below (ba (w.alloc (.cells #[.int .i64 P, .int .i64 Q, .int .i64 G] 27)) (.cells #[.int .i64 0, .int .i64 0] 61)))
    have R_0 := Lib.hid (c2_at (w.alloc (.cells #[.int .i64 P, .int .i64 Q, .int .i64 G] 27)) (w.heap.size + 1) (by simp) 0 0 61)
    have HB_0 := Lib.hid (show Below w.heap.size w ((w.alloc (.cells #[.int .i64 P, .int .i64 Q, .int .i64 G] 27)).alloc (.cells #[.int .i64 0, .int .i64 0] 61)) from bt (ba _ _) (ba _ _))
    go_enter Try.func96, Try.ntmps96
    go_wp2_with fail
    refine (isValidGroup_any _ _ _ _).mono ?_
    rw [H1.out]
    rintro e v1 ⟨rfl, hb⟩
    have HB_1 := Lib.hid (bt HB_0.out hb)
    have G_1 := Lib.hid (G_0.out.below hb)
    have R_1 := Lib.hid (R_0.out.below hb)
    clear hb
    obtain ⟨gG0, gG1, gG2⟩ := G_1.out
    obtain ⟨rR0, rR1, rfR⟩ := R_1.out
    have rfR0 := rfR 0
    have rfR1 := rfR 1
    go_wp2_with fail
    refine (hasElement_any _ _ _ _ hmo _).mono ?_
    rw [H2.out]
    rintro e v2 ⟨rfl, hb⟩
    have HB_2 := Lib.hid (bt HB_1.out hb)
    have G_2 := Lib.hid (G_1.out.below hb)
    have R_2 := Lib.hid (R_1.out.below hb)
    clear hb
    clear gG0 gG1 gG2 rR0 rR1 rfR rfR0 rfR1
    obtain ⟨gG0, gG1, gG2⟩ := G_2.out
    obtain ⟨rR0, rR1, rfR⟩ := R_2.out
    have rfR0 := rfR 0
    have rfR1 := rfR 1
    go_wp2_with fail
    refine (hasElement_any _ _ _ _ hmo _).mono ?_
    rw [H3.out]
    rintro e v3 ⟨rfl, hb⟩
    have HB_3 := Lib.hid (bt HB_2.out hb)
    have G_3 := Lib.hid (G_2.out.below hb)
    have R_3 := Lib.hid (R_2.out.below hb)
    clear hb
    clear gG0 gG1 gG2 rR0 rR1 rfR rfR0 rfR1
    obtain ⟨gG0, gG1, gG2⟩ := G_3.out
    obtain ⟨rR0, rR1, rfR⟩ := R_3.out
    have rfR0 := rfR 0
    have rfR1 := rfR 1
    go_wp2
    (try simp only [Exit.inBlock, Exit.then])
    refine bodyPost_ret (v := .tuple #[cv 0 0, .bool false]) ?_ rfl ⟨rfl, ?_⟩
    · rw [results_cell_tmp rfl]; go_simp
    · first | exact HB_3.out | exact set_below HB_3.out (w.heap.size + 1) (by omega) _ _
  cases h4 : exB Q r
  · skip
    have e0 : encB P Q G key m r = false := by simp [encB, h4]
    obtain ⟨e1, e2⟩ := enc_off e0
    rw [e0, e1, e2]
    clear e0 e1 e2
    have hmo := good_mo h1
    have hP : 2 ≤ P ∧ P ≤ 2000000000 := by have := goodB_true.1 h1; omega
    have hG := el_rng (good_el h1)
    have hkr := el_rng h2
    have hmr := el_rng h3
    have H1 := Lib.hid h1
    have H2 := Lib.hid h2
    have H3 := Lib.hid h3
    have H4 := Lib.hid h4
    clear h1 h2 h3 h4
    have G_0 := Lib.hid ((gr_at w (w.heap.size) (by simp) P Q G 27).below (ba (w.alloc (.cells #[.int .i64 P, .int .i64 Q, .int .i64 G] 27)) (.cells #[.int .i64 0, .int .i64 0] 61)))
    have R_0 := Lib.hid (c2_at (w.alloc (.cells #[.int .i64 P, .int .i64 Q, .int .i64 G] 27)) (w.heap.size + 1) (by simp) 0 0 61)
    have HB_0 := Lib.hid (show Below w.heap.size w ((w.alloc (.cells #[.int .i64 P, .int .i64 Q, .int .i64 G] 27)).alloc (.cells #[.int .i64 0, .int .i64 0] 61)) from bt (ba _ _) (ba _ _))
    go_enter Try.func96, Try.ntmps96
    go_wp2_with fail
    refine (isValidGroup_any _ _ _ _).mono ?_
    rw [H1.out]
    rintro e v1 ⟨rfl, hb⟩
    have HB_1 := Lib.hid (bt HB_0.out hb)
    have G_1 := Lib.hid (G_0.out.below hb)
    have R_1 := Lib.hid (R_0.out.below hb)
    clear hb
    obtain ⟨gG0, gG1, gG2⟩ := G_1.out
    obtain ⟨rR0, rR1, rfR⟩ := R_1.out
    have rfR0 := rfR 0
    have rfR1 := rfR 1
    go_wp2_with fail
    refine (hasElement_any _ _ _ _ hmo _).mono ?_
    rw [H2.out]
    rintro e v2 ⟨rfl, hb⟩
    have HB_2 := Lib.hid (bt HB_1.out hb)
    have G_2 := Lib.hid (G_1.out.below hb)
    have R_2 := Lib.hid (R_1.out.below hb)
    clear hb
    clear gG0 gG1 gG2 rR0 rR1 rfR rfR0 rfR1
    obtain ⟨gG0, gG1, gG2⟩ := G_2.out
    obtain ⟨rR0, rR1, rfR⟩ := R_2.out
    have rfR0 := rfR 0
    have rfR1 := rfR 1
    go_wp2_with fail
    refine (hasElement_any _ _ _ _ hmo _).mono ?_
    rw [H3.out]
    rintro e v3 ⟨rfl, hb⟩
    have HB_3 := Lib.hid (bt HB_2.out hb)
    have G_3 := Lib.hid (G_2.out.below hb)
    have R_3 := Lib.hid (R_2.out.below hb)
    clear hb
    clear gG0 gG1 gG2 rR0 rR1 rfR rfR0 rfR1
    obtain ⟨gG0, gG1, gG2⟩ := G_3.out
    obtain ⟨rR0, rR1, rfR⟩ := R_3.out
    have rfR0 := rfR 0
    have rfR1 := rfR 1
    go_wp2_with fail
    refine (hasExponent_any _ _ _ _ _).mono ?_
    rw [H4.out]
    rintro e v4 ⟨rfl, hb⟩
    have HB_4 := Lib.hid (bt HB_3.out hb)
    have G_4 := Lib.hid (G_3.out.below hb)
    have R_4 := Lib.hid (R_3.out.below hb)
    clear hb
    clear gG0 gG1 gG2 rR0 rR1 rfR rfR0 rfR1
    obtain ⟨gG0, gG1, gG2⟩ := G_4.out
    obtain ⟨rR0, rR1, rfR⟩ := R_4.out
    have rfR0 := rfR 0
    have rfR1 := rfR 1
    go_wp2
    (try simp only [Exit.inBlock, Exit.then])
    refine bodyPost_ret (v := .tuple #[cv 0 0, .bool false]) ?_ rfl ⟨rfl, ?_⟩
    · rw [results_cell_tmp rfl]; go_simp
    · first | exact HB_4.out | exact set_below HB_4.out (w.heap.size + 1) (by omega) _ _
  have e0 : encB P Q G key m r = true := encB_true.2 ⟨⟨⟨h1, h2⟩, h3⟩, h4⟩
  obtain ⟨e1, e2⟩ := enc_on e0
  rw [e0, e1, e2]
  clear e0 e1 e2
  have hmo := good_mo h1
  have hP : 2 ≤ P ∧ P ≤ 2000000000 := by have := goodB_true.1 h1; omega
  have hG := el_rng (good_el h1)
  have hkr := el_rng h2
  have hmr := el_rng h3
  have hrr := exB_true.1 h4
  have hQ : Q ≤ 2000000000 := by obtain ⟨_, _, hq⟩ := hmo; exact hq
  have H1 := Lib.hid h1
  have H2 := Lib.hid h2
  have H3 := Lib.hid h3
  have H4 := Lib.hid h4
  clear h1 h2 h3 h4
  have G_0 := Lib.hid ((gr_at w (w.heap.size) (by simp) P Q G 27).below (ba (w.alloc (.cells #[.int .i64 P, .int .i64 Q, .int .i64 G] 27)) (.cells #[.int .i64 0, .int .i64 0] 61)))
  have R_0 := Lib.hid (c2_at (w.alloc (.cells #[.int .i64 P, .int .i64 Q, .int .i64 G] 27)) (w.heap.size + 1) (by simp) 0 0 61)
  have HB_0 := Lib.hid (show Below w.heap.size w ((w.alloc (.cells #[.int .i64 P, .int .i64 Q, .int .i64 G] 27)).alloc (.cells #[.int .i64 0, .int .i64 0] 61)) from bt (ba _ _) (ba _ _))
  go_enter Try.func96, Try.ntmps96
  go_wp2_with fail
  refine (isValidGroup_any _ _ _ _).mono ?_
  rw [H1.out]
  rintro e v1 ⟨rfl, hb⟩
  have HB_1 := Lib.hid (bt HB_0.out hb)
  have G_1 := Lib.hid (G_0.out.below hb)
  have R_1 := Lib.hid (R_0.out.below hb)
  clear hb
  obtain ⟨gG0, gG1, gG2⟩ := G_1.out
  obtain ⟨rR0, rR1, rfR⟩ := R_1.out
  have rfR0 := rfR 0
  have rfR1 := rfR 1
  go_wp2_with fail
  refine (hasElement_any _ _ _ _ hmo _).mono ?_
  rw [H2.out]
  rintro e v2 ⟨rfl, hb⟩
  have HB_2 := Lib.hid (bt HB_1.out hb)
  have G_2 := Lib.hid (G_1.out.below hb)
  have R_2 := Lib.hid (R_1.out.below hb)
  clear hb
  clear gG0 gG1 gG2 rR0 rR1 rfR rfR0 rfR1
  obtain ⟨gG0, gG1, gG2⟩ := G_2.out
  obtain ⟨rR0, rR1, rfR⟩ := R_2.out
  have rfR0 := rfR 0
  have rfR1 := rfR 1
  go_wp2_with fail
  refine (hasElement_any _ _ _ _ hmo _).mono ?_
  rw [H3.out]
  rintro e v3 ⟨rfl, hb⟩
  have HB_3 := Lib.hid (bt HB_2.out hb)
  have G_3 := Lib.hid (G_2.out.below hb)
  have R_3 := Lib.hid (R_2.out.below hb)
  clear hb
  clear gG0 gG1 gG2 rR0 rR1 rfR rfR0 rfR1
  obtain ⟨gG0, gG1, gG2⟩ := G_3.out
  obtain ⟨rR0, rR1, rfR⟩ := R_3.out
  have rfR0 := rfR 0
  have rfR1 := rfR 1
  go_wp2_with fail
  refine (hasExponent_any _ _ _ _ _).mono ?_
  rw [H4.out]
  rintro e v4 ⟨rfl, hb⟩
  have HB_4 := Lib.hid (bt HB_3.out hb)
  have G_4 := Lib.hid (G_3.out.below hb)
  have R_4 := Lib.hid (R_3.out.below hb)
  clear hb
  clear gG0 gG1 gG2 rR0 rR1 rfR rfR0 rfR1
  obtain ⟨gG0, gG1, gG2⟩ := G_4.out
  obtain ⟨rR0, rR1, rfR⟩ := R_4.out
  have rfR0 := rfR 0
  have rfR1 := rfR 1
  go_wp2_with fail
  refine (encrypt_any P Q G key m r hP.1 hP.2 (by omega) (by omega) hkr.1 (by omega) hmr.1 (by omega) hrr.1 (by omega) _).mono ?_
  rintro e v5 ⟨rfl, hb⟩
  have HB_5 := Lib.hid (bt HB_4.out hb)
  have G_5 := Lib.hid (G_4.out.below hb)
  have R_5 := Lib.hid (R_4.out.below hb)
  clear hb
  clear gG0 gG1 gG2 rR0 rR1 rfR rfR0 rfR1
  obtain ⟨gG0, gG1, gG2⟩ := G_5.out
  obtain ⟨rR0, rR1, rfR⟩ := R_5.out
  have rfR0 := rfR 0
  have rfR1 := rfR 1
  go_wp2
  (try simp only [Exit.inBlock, Exit.then])
  refine bodyPost_ret (v := .tuple #[cv (Num.pow G r P) (m * Num.pow key r P % P), .bool true]) ?_ rfl ⟨rfl, ?_⟩
  · rw [results_cell_tmp rfl]; go_simp
  · first | exact HB_5.out | exact set_below HB_5.out (w.heap.size + 1) (by omega) _ _

/-- EncryptExp's condition and what it answers. -/
def eeB (P Q G key v r : Int) : Bool := keyB P Q G v && encB P Q G key (Num.pow G v P) r
def eeA (P Q G key v r : Int) : Int := if keyB P Q G v then encA P Q G key (Num.pow G v P) r else 0
def eeM (P Q G key v r : Int) : Int := if keyB P Q G v then encM P Q G key (Num.pow G v P) r else 0
theorem ee_on {P Q G key v r : Int} (h : keyB P Q G v = true) : eeB P Q G key v r = encB P Q G key (Num.pow G v P) r ∧ eeA P Q G key v r = encA P Q G key (Num.pow G v P) r ∧ eeM P Q G key v r = encM P Q G key (Num.pow G v P) r := by simp [eeB, eeA, eeM, h]
theorem ee_off {P Q G key v r : Int} (h : keyB P Q G v = false) : eeB P Q G key v r = false ∧ eeA P Q G key v r = 0 ∧ eeM P Q G key v r = 0 := by simp [eeB, eeA, eeM, h]
theorem key_val {P Q G s : Int} (h : keyB P Q G s = true) : keyV P Q G s = Num.pow G s P := by simp [keyV, h]
theorem key_off {P Q G s : Int} (h : keyB P Q G s = false) : keyV P Q G s = 0 := by simp [keyV, h]

theorem field_jf (B : Nat) (W : World) : (Instr.field 106 (kv B) 1).run Try.prog W = .ok (jf B) W := by kernel_rfl

/-- Reencrypt's answers. -/
def rrA (P Q G key a b r : Int) : Int := if reB P Q G key a b r then reA P G a r else 0
def rrM (P Q G key a b r : Int) : Int := if reB P Q G key a b r then reM P key b r else 0
theorem rr_off {P Q G key a b r : Int} (h : reB P Q G key a b r = false) : rrA P Q G key a b r = 0 ∧ rrM P Q G key a b r = 0 := by simp [rrA, rrM, h]
theorem rr_on {P Q G key a b r : Int} (h : reB P Q G key a b r = true) : rrA P Q G key a b r = reA P G a r ∧ rrM P Q G key a b r = reM P key b r := by simp [rrA, rrM, h]
theorem enc_rng {P Q G key r : Int} (h : encB P Q G key 1 r = true) : (0 ≤ encA P Q G key 1 r ∧ encA P Q G key 1 r < P) ∧ 0 ≤ encM P Q G key 1 r ∧ encM P Q G key 1 r < P := by
  have h' := encB_true.1 h
  have hm := good_mo h'.1.1.1
  rw [encM_one h, (enc_on h).1]
  exact ⟨pow_lt G r P hm.1.1, pow_lt key r P hm.1.1⟩

set_option maxRecDepth 100000 in
set_option maxHeartbeats 3200000 in
theorem reencrypt_any (P Q G key a b r : Int) (w : World) :
    Calls Try.prog 53 #[gv P Q G, .int .i64 key, cv a b, .int .i64 r] w fun e w' => e = .returned (.tuple #[cv (rrA P Q G key a b r) (rrM P Q G key a b r), .bool (reB P Q G key a b r)]) ∧ Below w.heap.size w w' := by
  cases h1 : encB P Q G key 1 r
  · have e0 : reB P Q G key a b r = false := by simp [reB, h1]
    obtain ⟨e1, e2⟩ := rr_off e0
    obtain ⟨f1, f2⟩ := enc_off h1
    have HV := Lib.hid (And.intro f1 f2)
    rw [e0, e1, e2]
    have H1 := Lib.hid h1
    clear e0 e1 e2 h1 f1 f2
    have G_0 := Lib.hid (((gr_at w (w.heap.size) (by simp) P Q G 27).below (ba (w.alloc (.cells #[.int .i64 P, .int .i64 Q, .int .i64 G] 27)) (.cells #[.int .i64 a, .int .i64 b] 61))).below (ba ((w.alloc (.cells #[.int .i64 P, .int .i64 Q, .int .i64 G] 27)).alloc (.cells #[.int .i64 a, .int .i64 b] 61)) (.cells #[.int .i64 0, .int .i64 0] 61)))
    have C_0 := Lib.hid ((c2_at (w.alloc (.cells #[.int .i64 P, .int .i64 Q, .int .i64 G] 27)) (w.heap.size + 1) (by simp) a b 61).below (ba ((w.alloc (.cells #[.int .i64 P, .int .i64 Q, .int .i64 G] 27)).alloc (.cells #[.int .i64 a, .int .i64 b] 61)) (.cells #[.int .i64 0, .int .i64 0] 61)))
    have R_0 := Lib.hid (c2_at ((w.alloc (.cells #[.int .i64 P, .int .i64 Q, .int .i64 G] 27)).alloc (.cells #[.int .i64 a, .int .i64 b] 61)) (w.heap.size + 1 + 1) (by simp) 0 0 61)
    have HB_0 := Lib.hid (show Below w.heap.size w (((w.alloc (.cells #[.int .i64 P, .int .i64 Q, .int .i64 G] 27)).alloc (.cells #[.int .i64 a, .int .i64 b] 61)).alloc (.cells #[.int .i64 0, .int .i64 0] 61)) from bt (bt (ba _ _) (ba _ _)) (ba _ _))
    go_enter Try.func53, Try.ntmps53
    go_wp2_with fail
    refine (encryptElement_any P Q G key 1 r _).mono ?_
    rw [H1.out, HV.out.1, HV.out.2]
    rintro e v1 ⟨rfl, hb⟩
    have HB_1 := Lib.hid (bt HB_0.out hb)
    have G_1 := Lib.hid (G_0.out.below hb)
    have C_1 := Lib.hid (C_0.out.below hb)
    have R_1 := Lib.hid (R_0.out.below hb)
    clear hb
    have hal := ba v1 (.cells #[.int .i64 0, .int .i64 0] 61)
    have HB_2 := Lib.hid (bt HB_1.out hal)
    have R_2 := Lib.hid (R_1.out.below hal)
    clear hal
    obtain ⟨rR0, rR1, rfR⟩ := R_2.out
    have rfR0 := rfR 0
    have rfR1 := rfR 1
    go_wp2
    (try simp only [Exit.inBlock, Exit.then])
    refine bodyPost_ret (v := .tuple #[cv 0 0, .bool false]) ?_ rfl ⟨rfl, ?_⟩
    · rw [results_cell_tmp rfl]; go_simp
    · first | exact HB_2.out | exact set_below HB_2.out (w.heap.size + 1 + 1) (by omega) _ _
  cases h2 : cipB P Q a b
  · have e0 : reB P Q G key a b r = false := by simp [reB, h2]
    obtain ⟨e1, e2⟩ := rr_off e0
    have hmo := good_mo (encB_true.1 h1).1.1.1
    rw [e0, e1, e2]
    have H1 := Lib.hid h1
    have H2 := Lib.hid h2
    have hel := fun h => Bool.and_eq_true_iff.1 (show (elB P Q a && elB P Q b) = true from h)
    clear e0 e1 e2 h1 h2 hel
    have G_0 := Lib.hid (((gr_at w (w.heap.size) (by simp) P Q G 27).below (ba (w.alloc (.cells #[.int .i64 P, .int .i64 Q, .int .i64 G] 27)) (.cells #[.int .i64 a, .int .i64 b] 61))).below (ba ((w.alloc (.cells #[.int .i64 P, .int .i64 Q, .int .i64 G] 27)).alloc (.cells #[.int .i64 a, .int .i64 b] 61)) (.cells #[.int .i64 0, .int .i64 0] 61)))
    have C_0 := Lib.hid ((c2_at (w.alloc (.cells #[.int .i64 P, .int .i64 Q, .int .i64 G] 27)) (w.heap.size + 1) (by simp) a b 61).below (ba ((w.alloc (.cells #[.int .i64 P, .int .i64 Q, .int .i64 G] 27)).alloc (.cells #[.int .i64 a, .int .i64 b] 61)) (.cells #[.int .i64 0, .int .i64 0] 61)))
    have R_0 := Lib.hid (c2_at ((w.alloc (.cells #[.int .i64 P, .int .i64 Q, .int .i64 G] 27)).alloc (.cells #[.int .i64 a, .int .i64 b] 61)) (w.heap.size + 1 + 1) (by simp) 0 0 61)
    have HB_0 := Lib.hid (show Below w.heap.size w (((w.alloc (.cells #[.int .i64 P, .int .i64 Q, .int .i64 G] 27)).alloc (.cells #[.int .i64 a, .int .i64 b] 61)).alloc (.cells #[.int .i64 0, .int .i64 0] 61)) from bt (bt (ba _ _) (ba _ _)) (ba _ _))
    go_enter Try.func53, Try.ntmps53
    go_wp2_with fail
    refine (encryptElement_any P Q G key 1 r _).mono ?_
    rw [H1.out]
    rintro e v1 ⟨rfl, hb⟩
    have HB_1 := Lib.hid (bt HB_0.out hb)
    have G_1 := Lib.hid (G_0.out.below hb)
    have C_1 := Lib.hid (C_0.out.below hb)
    have R_1 := Lib.hid (R_0.out.below hb)
    clear hb
    obtain ⟨gG0, gG1, gG2⟩ := G_1.out
    obtain ⟨cC0, cC1, cfC⟩ := C_1.out
    obtain ⟨rR0, rR1, rfR⟩ := R_1.out
    have rfR0 := rfR 0
    have rfR1 := rfR 1
    generalize encA P Q G key 1 r = x
    generalize encM P Q G key 1 r = y
    have hal := ba v1 (.cells #[.int .i64 x, .int .i64 y] 61)
    have D_1 := Lib.hid (c2_new v1 x y 61)
    have HB_x := Lib.hid (bt HB_1.out hal)
    have G_x := Lib.hid (G_1.out.below hal)
    have C_x := Lib.hid (C_1.out.below hal)
    have R_x := Lib.hid (R_1.out.below hal)
    clear hal
    clear gG0 gG1 gG2 cC0 cC1 cfC rR0 rR1 rfR rfR0 rfR1
    obtain ⟨g0, g1, g2⟩ := G_x.out
    obtain ⟨c0, c1, _⟩ := C_x.out
    obtain ⟨d0, d1, _⟩ := D_1.out
    go_wp2_with fail
    refine (hasCipher_any P Q G a b hmo _).mono ?_
    rw [H2.out]
    rintro e v2 ⟨rfl, hb⟩
    have HB_2 := Lib.hid (bt HB_x.out hb)
    have G_2 := Lib.hid (G_x.out.below hb)
    have C_2 := Lib.hid (C_x.out.below hb)
    have R_2 := Lib.hid (R_x.out.below hb)
    have D_2 := Lib.hid (D_1.out.below hb)
    clear hb g0 g1 g2 c0 c1 d0 d1
    obtain ⟨g0, g1, g2⟩ := G_2.out
    obtain ⟨c0, c1, _⟩ := C_2.out
    obtain ⟨d0, d1, _⟩ := D_2.out
    obtain ⟨r0, r1, rf⟩ := R_2.out
    have rf0 := rf 0
    have rf1 := rf 1
    clear rf
    go_wp2
    (try simp only [Exit.inBlock, Exit.then])
    refine bodyPost_ret (v := .tuple #[cv 0 0, .bool false]) ?_ rfl ⟨rfl, ?_⟩
    · rw [results_cell_tmp rfl]; go_simp
    · first | exact HB_2.out | exact set_below HB_2.out (w.heap.size + 1 + 1) (by omega) _ _
  · have e0 : reB P Q G key a b r = true := by simp [reB, h1, h2]
    obtain ⟨e1, e2⟩ := rr_on e0
    have hmo := good_mo (encB_true.1 h1).1.1.1
    rw [e0, e1, e2]
    have H1 := Lib.hid h1
    have H2 := Lib.hid h2
    have hel := fun h => Bool.and_eq_true_iff.1 (show (elB P Q a && elB P Q b) = true from h)
    obtain ⟨⟨x0, x1⟩, y0, y1⟩ := enc_rng h1
    obtain ⟨a0, a1⟩ := el_rng (hel h2).1
    obtain ⟨b0, b1⟩ := el_rng (hel h2).2
    have HX := Lib.hid (And.intro (enc_on h1).1 (encM_one h1))
    have hP : 2 ≤ P ∧ P ≤ 2000000000 := hmo.1
    clear e0 e1 e2 h1 h2 hel
    generalize hx : encA P Q G key 1 r = x at *
    generalize hy : encM P Q G key 1 r = y at *
    have HXY := Lib.hid (And.intro hx hy)
    clear hx hy
    have G_0 := Lib.hid (((gr_at w (w.heap.size) (by simp) P Q G 27).below (ba (w.alloc (.cells #[.int .i64 P, .int .i64 Q, .int .i64 G] 27)) (.cells #[.int .i64 a, .int .i64 b] 61))).below (ba ((w.alloc (.cells #[.int .i64 P, .int .i64 Q, .int .i64 G] 27)).alloc (.cells #[.int .i64 a, .int .i64 b] 61)) (.cells #[.int .i64 0, .int .i64 0] 61)))
    have C_0 := Lib.hid ((c2_at (w.alloc (.cells #[.int .i64 P, .int .i64 Q, .int .i64 G] 27)) (w.heap.size + 1) (by simp) a b 61).below (ba ((w.alloc (.cells #[.int .i64 P, .int .i64 Q, .int .i64 G] 27)).alloc (.cells #[.int .i64 a, .int .i64 b] 61)) (.cells #[.int .i64 0, .int .i64 0] 61)))
    have R_0 := Lib.hid (c2_at ((w.alloc (.cells #[.int .i64 P, .int .i64 Q, .int .i64 G] 27)).alloc (.cells #[.int .i64 a, .int .i64 b] 61)) (w.heap.size + 1 + 1) (by simp) 0 0 61)
    have HB_0 := Lib.hid (show Below w.heap.size w (((w.alloc (.cells #[.int .i64 P, .int .i64 Q, .int .i64 G] 27)).alloc (.cells #[.int .i64 a, .int .i64 b] 61)).alloc (.cells #[.int .i64 0, .int .i64 0] 61)) from bt (bt (ba _ _) (ba _ _)) (ba _ _))
    go_enter Try.func53, Try.ntmps53
    go_wp2_with fail
    refine (encryptElement_any P Q G key 1 r _).mono ?_
    rw [H1.out]
    rw [HXY.out.1, HXY.out.2]
    rintro e v1 ⟨rfl, hb⟩
    have HB_1 := Lib.hid (bt HB_0.out hb)
    have G_1 := Lib.hid (G_0.out.below hb)
    have C_1 := Lib.hid (C_0.out.below hb)
    have R_1 := Lib.hid (R_0.out.below hb)
    clear hb
    obtain ⟨gG0, gG1, gG2⟩ := G_1.out
    obtain ⟨cC0, cC1, cfC⟩ := C_1.out
    obtain ⟨rR0, rR1, rfR⟩ := R_1.out
    have rfR0 := rfR 0
    have rfR1 := rfR 1
    have hal := ba v1 (.cells #[.int .i64 x, .int .i64 y] 61)
    have D_1 := Lib.hid (c2_new v1 x y 61)
    have HB_x := Lib.hid (bt HB_1.out hal)
    have G_x := Lib.hid (G_1.out.below hal)
    have C_x := Lib.hid (C_1.out.below hal)
    have R_x := Lib.hid (R_1.out.below hal)
    clear hal
    clear gG0 gG1 gG2 cC0 cC1 cfC rR0 rR1 rfR rfR0 rfR1
    obtain ⟨g0, g1, g2⟩ := G_x.out
    obtain ⟨c0, c1, _⟩ := C_x.out
    obtain ⟨d0, d1, _⟩ := D_1.out
    go_wp2_with fail
    refine (hasCipher_any P Q G a b hmo _).mono ?_
    rw [H2.out]
    rintro e v2 ⟨rfl, hb⟩
    have HB_2 := Lib.hid (bt HB_x.out hb)
    have G_2 := Lib.hid (G_x.out.below hb)
    have C_2 := Lib.hid (C_x.out.below hb)
    have R_2 := Lib.hid (R_x.out.below hb)
    have D_2 := Lib.hid (D_1.out.below hb)
    clear hb g0 g1 g2 c0 c1 d0 d1
    obtain ⟨g0, g1, g2⟩ := G_2.out
    obtain ⟨c0, c1, _⟩ := C_2.out
    obtain ⟨d0, d1, _⟩ := D_2.out
    obtain ⟨r0, r1, rf⟩ := R_2.out
    have rf0 := rf 0
    have rf1 := rf 1
    clear rf
    go_wp2_with fail
    have hs1 : w.heap.size + 1 + 1 < v1.heap.size := R_1.out.lt
    have hfl : ∀ (B : Nat) (W : World), (Instr.field 106 (kv B) 1).run Try.prog W = .ok (jf B) W := field_jf
    go_region_held3 (fun w' => w'.cell? ⟨w.heap.size, 0, none⟩ = some (.int .i64 P) ∧ w'.cell? ⟨w.heap.size, 1, none⟩ = some (.int .i64 Q) ∧ w'.cell? ⟨w.heap.size, 2, none⟩ = some (.int .i64 G) ∧ w'.cell? ⟨w.heap.size + 1, 0, none⟩ = some (.int .i64 a) ∧ w'.cell? ⟨w.heap.size + 1, 1, none⟩ = some (.int .i64 b) ∧ w'.cell? ⟨v1.heap.size, 0, none⟩ = some (.int .i64 x) ∧ w'.cell? ⟨v1.heap.size, 1, none⟩ = some (.int .i64 y)) (first | with_reducible exact ⟨z0, z1, z2, zc0, zc1, zd0, zd1⟩ | with_reducible exact ⟨x0', x1', x2', xc0, xc1, xd0, xd1⟩ | exact ⟨g0, g1, g2, c0, c1, d0, d1⟩ | exact ⟨(gr_pair Gz.out (by omega) _ _).1, (gr_pair Gz.out (by omega) _ _).2.1, (gr_pair Gz.out (by omega) _ _).2.2, cell_pair zc0 (by omega) _ _, cell_pair zc1 (by omega) _ _, cell_pair zd0 (by omega) _ _, cell_pair zd1 (by omega) _ _⟩) ((first
      | (go_at_call 85; refine (products_any P Q G _).mono ?_; rintro e vx ⟨B, rfl, hgB, hp⟩; have HBx := Lib.hid (bt_drop HB_2.out hp); have Gx := Lib.hid (gr_drop G_2.out hp); have Cx := Lib.hid (c2_drop C_2.out hp); have Rx := Lib.hid (c2_drop R_2.out hp); have Dx := Lib.hid (c2_drop D_2.out hp); have GBx := Lib.hid hgB; clear hp hgB; obtain ⟨x0', x1', x2'⟩ := Gx.out; obtain ⟨xc0, xc1, _⟩ := Cx.out; obtain ⟨xd0, xd1, _⟩ := Dx.out)
      | (go_at_call 113; refine (cjoin_any P Q G a b x y hP.1 hP.2 ⟨a0, a1⟩ ⟨b0, b1⟩ ⟨x0, x1⟩ ⟨y0, y1⟩ B _ GBx.out).mono ?_; rintro e vz ⟨rfl, hz⟩; have HBz := Lib.hid (bt HBx.out hz); have Gz := Lib.hid (Gx.out.below hz); have Cz := Lib.hid (Cx.out.below hz); have Rz := Lib.hid (Rx.out.below hz); have Dz := Lib.hid (Dx.out.below hz); clear hz; obtain ⟨z0, z1, z2⟩ := Gz.out; obtain ⟨zc0, zc1, _⟩ := Cz.out; obtain ⟨zd0, zd1, _⟩ := Dz.out; obtain ⟨zr0, zr1, zrf⟩ := Rz.out; have zrf0 := zrf 0; have zrf1 := zrf 1; clear zrf)
      | fail))
    all_goals (
      go_wp2
      (try simp only [Exit.inBlock, Exit.then])
      refine bodyPost_ret (v := .tuple #[cv (a * x % P) (b * y % P), .bool true]) ?_ rfl ⟨by unfold reA reM; rw [← HX.out.1, ← HX.out.2], ?_⟩
      · rw [results_cell_tmp rfl]; go_simp
      · first | exact set_below HBz.out (w.heap.size + 1 + 1) (by omega) _ _ | exact set_below HBz.out.drew (w.heap.size + 1 + 1) (by omega) _ _)

end Go.Proofs.Ytafoenoilcgjdaa

