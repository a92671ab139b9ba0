/- ElGamal: all ciphertexts of a list combined, and a ciphertext combined with itself e times. -/
import Derived.Test.YtglfbhkdmkneoaaElB
import Derived.Test.YtglfbhkdmkneoaaGrG
import Derived.Test.YtglfbhkdmkneoaaG4
namespace Go.Proofs.Ytglfbhkdmkneoaa
open Go.RowKit


set_option maxHeartbeats 1600000 in
theorem ofAll_any (P Q G : Int) (h2 : 2 ≤ P) (h3 : P ≤ 2000000000) (ad : Option Addr) (n cap : Nat) (zs : List Int) (hn : zs.length = n * 2) (hl : n ≤ 2000000) (hr : ∀ z ∈ zs, 0 ≤ z ∧ z < P) (B : Nat) (w : World) (hz : IsInts w ad zs) (hB : GR w B P Q G) :
    Calls Try.prog 92 #[kv B, .slice ad n cap] w fun e w' => e = .returned (cv (mulFrom P 1 (evens zs)) (mulFrom P 1 (odds zs))) ∧ Below w.heap.size w w' := by
  have hal1 := ba w (.cells #[.int .i64 1, .int .i64 1, (.func (.func 132) #[] #[.pointer (some ⟨B, 0, none⟩)])] 112)
  have hal2 := ba (w.alloc (.cells #[.int .i64 1, .int .i64 1, (.func (.func 132) #[] #[.pointer (some ⟨B, 0, none⟩)])] 112)) (.cells #[.int .i64 0, .int .i64 0] 60)
  have HB_0 := Lib.hid (bt hal1 hal2)
  have R_0 := Lib.hid (c2_at (w.alloc (.cells #[.int .i64 1, .int .i64 1, (.func (.func 132) #[] #[.pointer (some ⟨B, 0, none⟩)])] 112)) (w.heap.size + 1) (by simp) 0 0 60)
  have HZ := Lib.hid hz
  have HG := Lib.hid hB
  have HR := Lib.hid hr
  have HN := Lib.hid hn
  clear hz hB hr hn hal1 hal2
  go_enter Try.func92, Try.ntmps92
  go_wp2_with fail
  refine (foldCs_any P Q G h2 h3 ad n cap zs HN.out hl HR.out B _ (HZ.out.below HB_0.out (Nat.le_refl _)) (HG.out.below HB_0.out)).mono ?_
  rintro e v1 ⟨rfl, hb⟩
  have HB_1 := Lib.hid (bt HB_0.out hb)
  have R_1 := Lib.hid (R_0.out.below hb)
  clear hb
  obtain ⟨r0, r1, rf⟩ := R_1.out
  have rf0 := rf 0
  have rf1 := rf 1
  clear rf
  go_wp2
  (try simp only [Exit.inBlock, Exit.then])
  refine bodyPost_ret (v := cv (mulFrom P 1 (evens zs)) (mulFrom P 1 (odds zs))) ?_ rfl ⟨rfl, ?_⟩
  · rw [results_cell_one rfl]; go_simp
  · exact set_below HB_1.out _ (by omega) _ _


theorem pwp_ex {r q m : Nat} (hr : r < m) (hq : q < m) (h3 : m ≤ 2000000000) : ∃ x : Nat, (r : Int) * q % m = (x : Int) ∧ x < m ∧ r * q % m = x := by
  obtain ⟨_, _, h1, _, h2, _⟩ := pow_facts (r := r) (q := q) (m := m) (by omega) (by omega) (by omega)
  exact ⟨_, h1, h2, rfl⟩

set_option maxRecDepth 100000 in
set_option maxHeartbeats 6400000 in
theorem kpower_nat (p a b e : Nat) (Q G : Int) (h2 : 2 ≤ p) (h3 : p ≤ 2000000000) (ha : a < p) (hb : b < p) (he : e ≤ 2000000000) (B : Nat) (w : World) (hB : GR w B p Q G) :
    Calls Try.prog 91 #[kv B, cv a b, .int .i64 e] w fun e' w' => e' = .returned (cv (Num.pw 1 a e p : Nat) (Num.pw 1 b e p : Nat)) ∧ Below w.heap.size w w' := by
  have hal1 := ba w (.cells #[.int .i64 1, .int .i64 1, (.func (.func 132) #[] #[.pointer (some ⟨B, 0, none⟩)])] 112)
  have hal2 := ba (w.alloc (.cells #[.int .i64 1, .int .i64 1, (.func (.func 132) #[] #[.pointer (some ⟨B, 0, none⟩)])] 112)) (.cells #[.int .i64 a, .int .i64 b] 60)
  have hal3 := ba ((w.alloc (.cells #[.int .i64 1, .int .i64 1, (.func (.func 132) #[] #[.pointer (some ⟨B, 0, none⟩)])] 112)).alloc (.cells #[.int .i64 a, .int .i64 b] 60)) (.cells #[.int .i64 0, .int .i64 0] 60)
  have hal4 := ba (((w.alloc (.cells #[.int .i64 1, .int .i64 1, (.func (.func 132) #[] #[.pointer (some ⟨B, 0, none⟩)])] 112)).alloc (.cells #[.int .i64 a, .int .i64 b] 60)).alloc (.cells #[.int .i64 0, .int .i64 0] 60)) (.cells #[.int .i64 1, .int .i64 1] 60)
  have hal5 := ba ((((w.alloc (.cells #[.int .i64 1, .int .i64 1, (.func (.func 132) #[] #[.pointer (some ⟨B, 0, none⟩)])] 112)).alloc (.cells #[.int .i64 a, .int .i64 b] 60)).alloc (.cells #[.int .i64 0, .int .i64 0] 60)).alloc (.cells #[.int .i64 1, .int .i64 1] 60)) (.cells #[.int .i64 a, .int .i64 b] 60)
  have HK_0 := Lib.hid ((((B3.below (b3_new w (.int .i64 1) (.int .i64 1) (jf B) 112) hal2).below hal3).below hal4).below hal5)
  have R_0 := Lib.hid (((c2_at ((w.alloc (.cells #[.int .i64 1, .int .i64 1, (.func (.func 132) #[] #[.pointer (some ⟨B, 0, none⟩)])] 112)).alloc (.cells #[.int .i64 a, .int .i64 b] 60)) (w.heap.size + 1 + 1) (by simp) 0 0 60).below hal4).below hal5)
  have V_0 := Lib.hid ((c2_at (((w.alloc (.cells #[.int .i64 1, .int .i64 1, (.func (.func 132) #[] #[.pointer (some ⟨B, 0, none⟩)])] 112)).alloc (.cells #[.int .i64 a, .int .i64 b] 60)).alloc (.cells #[.int .i64 0, .int .i64 0] 60)) (w.heap.size + 1 + 1 + 1) (by simp) 1 1 60).below hal5)
  have S_0 := Lib.hid (c2_at ((((w.alloc (.cells #[.int .i64 1, .int .i64 1, (.func (.func 132) #[] #[.pointer (some ⟨B, 0, none⟩)])] 112)).alloc (.cells #[.int .i64 a, .int .i64 b] 60)).alloc (.cells #[.int .i64 0, .int .i64 0] 60)).alloc (.cells #[.int .i64 1, .int .i64 1] 60)) (w.heap.size + 1 + 1 + 1 + 1) (by simp) a b 60)
  have HB_0 := Lib.hid (bt (bt (bt (bt hal1 hal2) hal3) hal4) hal5)
  have HG := Lib.hid hB
  clear hal1 hal2 hal3 hal4 hal5 hB
  go_enter Try.func91, Try.ntmps91
  go_wp2
  go_loopw [2, 8] (fun E S wr => ∃ n ra rb sa sb bk : Nat, n ≤ 2000000000 ∧ E = .int .i64 n ∧ S = .pointer (some ⟨bk, 0, none⟩) ∧ (ra < p ∧ rb < p ∧ sa < p ∧ sb < p) ∧ Num.pw 1 a e p = Num.pw ra sa n p ∧ Num.pw 1 b e p = Num.pw rb sb n p ∧ w.heap.size + 1 + 1 + 1 + 1 ≤ bk ∧ Below w.heap.size w wr ∧ B3 wr w.heap.size (.int .i64 1) (.int .i64 1) (jf B) ∧ C2 wr (w.heap.size + 1 + 1) 0 0 ∧ C2 wr (w.heap.size + 1 + 1 + 1) ra rb ∧ C2 wr bk sa sb) (fun E _ _ => (intOf E).toNat)
  case atStart => exact ⟨e, 1, 1, a, b, w.heap.size + 1 + 1 + 1 + 1, he, rfl, rfl, by omega, rfl, rfl, Nat.le_refl _, HB_0.out, HK_0.out, R_0.out, V_0.out, S_0.out⟩
  case round =>
    obtain ⟨n, ra, rb, sa, sb, bk, hn, rfl, rfl, ⟨l1, l2, l3, l4⟩, hea, heb, hbk, hbel, hk, hres, hv, hs⟩ := hrel
    have HEA := Lib.hid hea
    have HEB := Lib.hid heb
    have HBr := Lib.hid hbel
    have HKr := Lib.hid hk
    have HRr := Lib.hid hres
    have HVr := Lib.hid hv
    have HSr := Lib.hid hs
    have hne : bk ≠ w.heap.size + 1 + 1 + 1 := by omega
    have hne' : w.heap.size + 1 + 1 + 1 ≠ bk := by omega
    have hne2 : w.heap.size + 1 + 1 ≠ bk := by omega
    have hne3 : w.heap.size ≠ bk := by omega
    clear hea heb hbel hk hres hv hs
    obtain ⟨k0, k1, k2, _⟩ := HKr.out
    obtain ⟨s0, s1, sf⟩ := HSr.out
    obtain ⟨v0, v1, vf⟩ := HVr.out
    obtain ⟨r0, r1, rf⟩ := HRr.out
    have rf0 := rf 0
    have rf1 := rf 1
    have vf0 := vf 0
    have vf1 := vf 1
    have sf0 := sf 0
    have sf1 := sf 1
    clear rf vf sf
    by_cases hn0 : n = 0
    · subst hn0
      go_wp2
      (try simp only [Exit.inBlock, Exit.then])
      refine bodyPost_ret (v := cv ra rb) ?_ rfl ⟨by rw [HEA.out, HEB.out, Num.pw_zero, Num.pw_zero], ?_⟩
      · rw [results_cell_one rfl]; go_simp
      · exact set_below HBr.out _ (by omega) _ _
    have hn1 : 0 < (n : Int) := by omega
    by_cases hs1 : sa = 1 ∧ sb = 1
    · obtain ⟨rfl, rfl⟩ := hs1
      go_wp2
      (try simp only [Exit.inBlock, Exit.then])
      refine bodyPost_ret (v := cv ra rb) ?_ rfl ⟨by rw [HEA.out, HEB.out, pw_one l1, pw_one l2], ?_⟩
      · rw [results_cell_one rfl]; go_simp
      · exact set_below HBr.out _ (by omega) _ _
    by_cases hsa : sa = 1
    · obtain rfl := hsa
      have hsb : ¬ (sb : Int) = 1 := by omega
      have s0 : wr.cell? ⟨bk, 0, none⟩ = some (.int .i64 1) := HSr.out.1
      have HGr := Lib.hid (HG.out.below HBr.out)
      obtain ⟨n1, e1, m1, q1⟩ := (show ∃ x : Nat, (ra : Int) * 1 % (p : Int) = (x : Int) ∧ x < p ∧ ra * 1 % p = x from pwp_ex l1 l3 h3)
      obtain ⟨n3, e3, m3, q3⟩ := (show ∃ x : Nat, 1 * 1 % (p : Int) = (x : Int) ∧ x < p ∧ 1 * 1 % p = x from pwp_ex l3 l3 h3)
      obtain ⟨n2, e2, m2, q2⟩ := pwp_ex l2 l4 h3
      obtain ⟨n4, e4, m4, q4⟩ := pwp_ex l4 l4 h3
      have HW1 := Lib.hid e1
      have HQ1 := Lib.hid q1
      have HW2 := Lib.hid e2
      have HQ2 := Lib.hid q2
      have HW3 := Lib.hid e3
      have HQ3 := Lib.hid q3
      have HW4 := Lib.hid e4
      have HQ4 := Lib.hid q4
      clear hs1 e1 q1 e2 q2 e3 q3 e4 q4
      by_cases ho : n % 2 = 1
      · have hoi : ((n : Int) % 2 == 1) = true := by simp; omega
        go_wp2_with fail
        refine (cjoin_any (p : Int) Q G (ra : Int) (rb : Int) 1 (sb : Int) (by omega) (by omega) ⟨by omega, by omega⟩ ⟨by omega, by omega⟩ ⟨by omega, by omega⟩ ⟨by omega, by omega⟩ B _ HGr.out).mono ?_
        rw [HW1.out, HW2.out]
        rintro e x1 ⟨rfl, hb1⟩
        have HB1 := Lib.hid (bt HBr.out hb1)
        have HK1 := Lib.hid (HKr.out.below hb1)
        have HR1 := Lib.hid (HRr.out.below hb1)
        have HV1 := Lib.hid (HVr.out.below hb1)
        have HS1 := Lib.hid (HSr.out.below hb1)
        clear hb1
        clear k0 k1 k2 s0 s1 v0 v1 r0 r1 rf0 rf1 vf0 vf1 sf0 sf1
        obtain ⟨k0, k1, k2, _⟩ := HK1.out
        obtain ⟨s0, s1, sf⟩ := HS1.out
        have sf0 := sf 0
        have sf1 := sf 1
        clear sf
        obtain ⟨v0, v1, vf⟩ := HV1.out
        have vf0 := vf 0
        have vf1 := vf 1
        clear vf
        obtain ⟨r0, r1, rf⟩ := HR1.out
        have rf0 := rf 0
        have rf1 := rf 1
        clear rf
        have s0 : x1.cell? ⟨bk, 0, none⟩ = some (.int .i64 1) := HS1.out.1
        go_wp2_with fail
        have HB2 := Lib.hid (set_below HB1.out (w.heap.size + 1 + 1 + 1) (by omega) (.int .i64 (n1 : Int)) (.int .i64 (n2 : Int)))
        refine (cjoin_any (p : Int) Q G 1 (sb : Int) 1 (sb : Int) (by omega) (by omega) ⟨by omega, by omega⟩ ⟨by omega, by omega⟩ ⟨by omega, by omega⟩ ⟨by omega, by omega⟩ B _ (HG.out.below HB2.out)).mono ?_
        rw [HW3.out, HW4.out]
        rintro e x2 ⟨rfl, hb2⟩
        have HB3 := Lib.hid (bt HB2.out hb2)
        have HK3 := Lib.hid (((HK1.out.other ⟨w.heap.size + 1 + 1 + 1, 0, none⟩ (.int .i64 (n1 : Int)) (show w.heap.size + 1 + 1 + 1 ≠ w.heap.size from by omega)).other ⟨w.heap.size + 1 + 1 + 1, 1, none⟩ (.int .i64 (n2 : Int)) (show w.heap.size + 1 + 1 + 1 ≠ w.heap.size from by omega)).below hb2)
        have HR3 := Lib.hid (((HR1.out.other ⟨w.heap.size + 1 + 1 + 1, 0, none⟩ (.int .i64 (n1 : Int)) (show w.heap.size + 1 + 1 + 1 ≠ w.heap.size + 1 + 1 from by omega)).other ⟨w.heap.size + 1 + 1 + 1, 1, none⟩ (.int .i64 (n2 : Int)) (show w.heap.size + 1 + 1 + 1 ≠ w.heap.size + 1 + 1 from by omega)).below hb2)
        have HV3 := Lib.hid ((C2.set HV1.out (n1 : Int) (n2 : Int)).below hb2)
        have HS3 := Lib.hid (((HS1.out.other ⟨w.heap.size + 1 + 1 + 1, 0, none⟩ (.int .i64 (n1 : Int)) (show w.heap.size + 1 + 1 + 1 ≠ bk from by omega)).other ⟨w.heap.size + 1 + 1 + 1, 1, none⟩ (.int .i64 (n2 : Int)) (show w.heap.size + 1 + 1 + 1 ≠ bk from by omega)).below hb2)
        clear hb2
        clear k0 k1 k2 s0 s1 v0 v1 r0 r1 rf0 rf1 vf0 vf1 sf0 sf1
        obtain ⟨k0, k1, k2, _⟩ := HK3.out
        obtain ⟨s0, s1, sf⟩ := HS3.out
        have sf0 := sf 0
        have sf1 := sf 1
        clear sf
        obtain ⟨v0, v1, vf⟩ := HV3.out
        have vf0 := vf 0
        have vf1 := vf 1
        clear vf
        obtain ⟨r0, r1, rf⟩ := HR3.out
        have rf0 := rf 0
        have rf1 := rf 1
        clear rf
        go_wp2
        go_roundw
        case rel => exact ⟨n / 2, n1, n2, n3, n4, x2.heap.size, by omega, by simp, rfl, ⟨m1, m2, m3, m4⟩, (by rw [HEA.out, Num.pw_odd ho, HQ1.out, HQ3.out]), (by rw [HEB.out, Num.pw_odd ho, HQ2.out, HQ4.out]), (by have := HV3.out.lt; have := HS3.out.lt; omega), bt (set_below HB3.out bk (by omega) (.int .i64 (n3 : Int)) (.int .i64 (n4 : Int))) (ba _ _), B3.below ((HK3.out.other ⟨bk, 0, none⟩ (.int .i64 (n3 : Int)) (show bk ≠ w.heap.size from by omega)).other ⟨bk, 1, none⟩ (.int .i64 (n4 : Int)) (show bk ≠ w.heap.size from by omega)) (ba _ _), C2.below ((HR3.out.other ⟨bk, 0, none⟩ (.int .i64 (n3 : Int)) (show bk ≠ w.heap.size + 1 + 1 from by omega)).other ⟨bk, 1, none⟩ (.int .i64 (n4 : Int)) (show bk ≠ w.heap.size + 1 + 1 from by omega)) (ba _ _), C2.below ((HV3.out.other ⟨bk, 0, none⟩ (.int .i64 (n3 : Int)) (show bk ≠ w.heap.size + 1 + 1 + 1 from by omega)).other ⟨bk, 1, none⟩ (.int .i64 (n4 : Int)) (show bk ≠ w.heap.size + 1 + 1 + 1 from by omega)) (ba _ _), c2_at _ _ (by simp) _ _ _⟩
        case measure => simp only [intOf]; omega
      · have hoi : ((n : Int) % 2 == 1) = false := by simp; omega
        go_wp2_with fail
        refine (cjoin_any (p : Int) Q G 1 (sb : Int) 1 (sb : Int) (by omega) (by omega) ⟨by omega, by omega⟩ ⟨by omega, by omega⟩ ⟨by omega, by omega⟩ ⟨by omega, by omega⟩ B _ HGr.out).mono ?_
        rw [HW3.out, HW4.out]
        rintro e x2 ⟨rfl, hb2⟩
        have HB3 := Lib.hid (bt HBr.out hb2)
        have HK3 := Lib.hid (HKr.out.below hb2)
        have HR3 := Lib.hid (HRr.out.below hb2)
        have HV3 := Lib.hid (HVr.out.below hb2)
        have HS3 := Lib.hid (HSr.out.below hb2)
        clear hb2
        clear k0 k1 k2 s0 s1 v0 v1 r0 r1 rf0 rf1 vf0 vf1 sf0 sf1
        obtain ⟨k0, k1, k2, _⟩ := HK3.out
        obtain ⟨s0, s1, sf⟩ := HS3.out
        have sf0 := sf 0
        have sf1 := sf 1
        clear sf
        obtain ⟨v0, v1, vf⟩ := HV3.out
        have vf0 := vf 0
        have vf1 := vf 1
        clear vf
        obtain ⟨r0, r1, rf⟩ := HR3.out
        have rf0 := rf 0
        have rf1 := rf 1
        clear rf
        go_wp2
        go_roundw
        case rel => exact ⟨n / 2, ra, rb, n3, n4, x2.heap.size, by omega, by simp, rfl, ⟨l1, l2, m3, m4⟩, (by rw [HEA.out, Num.pw_even (by omega) hn0, HQ3.out]), (by rw [HEB.out, Num.pw_even (by omega) hn0, HQ4.out]), (by have := HV3.out.lt; have := HS3.out.lt; omega), bt (set_below HB3.out bk (by omega) (.int .i64 (n3 : Int)) (.int .i64 (n4 : Int))) (ba _ _), B3.below ((HK3.out.other ⟨bk, 0, none⟩ (.int .i64 (n3 : Int)) (show bk ≠ w.heap.size from by omega)).other ⟨bk, 1, none⟩ (.int .i64 (n4 : Int)) (show bk ≠ w.heap.size from by omega)) (ba _ _), C2.below ((HR3.out.other ⟨bk, 0, none⟩ (.int .i64 (n3 : Int)) (show bk ≠ w.heap.size + 1 + 1 from by omega)).other ⟨bk, 1, none⟩ (.int .i64 (n4 : Int)) (show bk ≠ w.heap.size + 1 + 1 from by omega)) (ba _ _), C2.below ((HV3.out.other ⟨bk, 0, none⟩ (.int .i64 (n3 : Int)) (show bk ≠ w.heap.size + 1 + 1 + 1 from by omega)).other ⟨bk, 1, none⟩ (.int .i64 (n4 : Int)) (show bk ≠ w.heap.size + 1 + 1 + 1 from by omega)) (ba _ _), c2_at _ _ (by simp) _ _ _⟩
        case measure => simp only [intOf]; omega
    · have hsai : ¬ (sa : Int) = 1 := by omega
      have HGr := Lib.hid (HG.out.below HBr.out)
      obtain ⟨n1, e1, m1, q1⟩ := (show ∃ x : Nat, (ra : Int) * (sa : Int) % (p : Int) = (x : Int) ∧ x < p ∧ ra * sa % p = x from pwp_ex l1 l3 h3)
      obtain ⟨n3, e3, m3, q3⟩ := (show ∃ x : Nat, (sa : Int) * (sa : Int) % (p : Int) = (x : Int) ∧ x < p ∧ sa * sa % p = x from pwp_ex l3 l3 h3)
      obtain ⟨n2, e2, m2, q2⟩ := pwp_ex l2 l4 h3
      obtain ⟨n4, e4, m4, q4⟩ := pwp_ex l4 l4 h3
      have HW1 := Lib.hid e1
      have HQ1 := Lib.hid q1
      have HW2 := Lib.hid e2
      have HQ2 := Lib.hid q2
      have HW3 := Lib.hid e3
      have HQ3 := Lib.hid q3
      have HW4 := Lib.hid e4
      have HQ4 := Lib.hid q4
      clear hs1 e1 q1 e2 q2 e3 q3 e4 q4
      by_cases ho : n % 2 = 1
      · have hoi : ((n : Int) % 2 == 1) = true := by simp; omega
        go_wp2_with fail
        refine (cjoin_any (p : Int) Q G (ra : Int) (rb : Int) (sa : Int) (sb : Int) (by omega) (by omega) ⟨by omega, by omega⟩ ⟨by omega, by omega⟩ ⟨by omega, by omega⟩ ⟨by omega, by omega⟩ B _ HGr.out).mono ?_
        rw [HW1.out, HW2.out]
        rintro e x1 ⟨rfl, hb1⟩
        have HB1 := Lib.hid (bt HBr.out hb1)
        have HK1 := Lib.hid (HKr.out.below hb1)
        have HR1 := Lib.hid (HRr.out.below hb1)
        have HV1 := Lib.hid (HVr.out.below hb1)
        have HS1 := Lib.hid (HSr.out.below hb1)
        clear hb1
        clear k0 k1 k2 s0 s1 v0 v1 r0 r1 rf0 rf1 vf0 vf1 sf0 sf1
        obtain ⟨k0, k1, k2, _⟩ := HK1.out
        obtain ⟨s0, s1, sf⟩ := HS1.out
        have sf0 := sf 0
        have sf1 := sf 1
        clear sf
        obtain ⟨v0, v1, vf⟩ := HV1.out
        have vf0 := vf 0
        have vf1 := vf 1
        clear vf
        obtain ⟨r0, r1, rf⟩ := HR1.out
        have rf0 := rf 0
        have rf1 := rf 1
        clear rf
        go_wp2_with fail
        have HB2 := Lib.hid (set_below HB1.out (w.heap.size + 1 + 1 + 1) (by omega) (.int .i64 (n1 : Int)) (.int .i64 (n2 : Int)))
        refine (cjoin_any (p : Int) Q G (sa : Int) (sb : Int) (sa : Int) (sb : Int) (by omega) (by omega) ⟨by omega, by omega⟩ ⟨by omega, by omega⟩ ⟨by omega, by omega⟩ ⟨by omega, by omega⟩ B _ (HG.out.below HB2.out)).mono ?_
        rw [HW3.out, HW4.out]
        rintro e x2 ⟨rfl, hb2⟩
        have HB3 := Lib.hid (bt HB2.out hb2)
        have HK3 := Lib.hid (((HK1.out.other ⟨w.heap.size + 1 + 1 + 1, 0, none⟩ (.int .i64 (n1 : Int)) (show w.heap.size + 1 + 1 + 1 ≠ w.heap.size from by omega)).other ⟨w.heap.size + 1 + 1 + 1, 1, none⟩ (.int .i64 (n2 : Int)) (show w.heap.size + 1 + 1 + 1 ≠ w.heap.size from by omega)).below hb2)
        have HR3 := Lib.hid (((HR1.out.other ⟨w.heap.size + 1 + 1 + 1, 0, none⟩ (.int .i64 (n1 : Int)) (show w.heap.size + 1 + 1 + 1 ≠ w.heap.size + 1 + 1 from by omega)).other ⟨w.heap.size + 1 + 1 + 1, 1, none⟩ (.int .i64 (n2 : Int)) (show w.heap.size + 1 + 1 + 1 ≠ w.heap.size + 1 + 1 from by omega)).below hb2)
        have HV3 := Lib.hid ((C2.set HV1.out (n1 : Int) (n2 : Int)).below hb2)
        have HS3 := Lib.hid (((HS1.out.other ⟨w.heap.size + 1 + 1 + 1, 0, none⟩ (.int .i64 (n1 : Int)) (show w.heap.size + 1 + 1 + 1 ≠ bk from by omega)).other ⟨w.heap.size + 1 + 1 + 1, 1, none⟩ (.int .i64 (n2 : Int)) (show w.heap.size + 1 + 1 + 1 ≠ bk from by omega)).below hb2)
        clear hb2
        clear k0 k1 k2 s0 s1 v0 v1 r0 r1 rf0 rf1 vf0 vf1 sf0 sf1
        obtain ⟨k0, k1, k2, _⟩ := HK3.out
        obtain ⟨s0, s1, sf⟩ := HS3.out
        have sf0 := sf 0
        have sf1 := sf 1
        clear sf
        obtain ⟨v0, v1, vf⟩ := HV3.out
        have vf0 := vf 0
        have vf1 := vf 1
        clear vf
        obtain ⟨r0, r1, rf⟩ := HR3.out
        have rf0 := rf 0
        have rf1 := rf 1
        clear rf
        go_wp2
        go_roundw
        case rel => exact ⟨n / 2, n1, n2, n3, n4, x2.heap.size, by omega, by simp, rfl, ⟨m1, m2, m3, m4⟩, (by rw [HEA.out, Num.pw_odd ho, HQ1.out, HQ3.out]), (by rw [HEB.out, Num.pw_odd ho, HQ2.out, HQ4.out]), (by have := HV3.out.lt; have := HS3.out.lt; omega), bt (set_below HB3.out bk (by omega) (.int .i64 (n3 : Int)) (.int .i64 (n4 : Int))) (ba _ _), B3.below ((HK3.out.other ⟨bk, 0, none⟩ (.int .i64 (n3 : Int)) (show bk ≠ w.heap.size from by omega)).other ⟨bk, 1, none⟩ (.int .i64 (n4 : Int)) (show bk ≠ w.heap.size from by omega)) (ba _ _), C2.below ((HR3.out.other ⟨bk, 0, none⟩ (.int .i64 (n3 : Int)) (show bk ≠ w.heap.size + 1 + 1 from by omega)).other ⟨bk, 1, none⟩ (.int .i64 (n4 : Int)) (show bk ≠ w.heap.size + 1 + 1 from by omega)) (ba _ _), C2.below ((HV3.out.other ⟨bk, 0, none⟩ (.int .i64 (n3 : Int)) (show bk ≠ w.heap.size + 1 + 1 + 1 from by omega)).other ⟨bk, 1, none⟩ (.int .i64 (n4 : Int)) (show bk ≠ w.heap.size + 1 + 1 + 1 from by omega)) (ba _ _), c2_at _ _ (by simp) _ _ _⟩
        case measure => simp only [intOf]; omega
      · have hoi : ((n : Int) % 2 == 1) = false := by simp; omega
        go_wp2_with fail
        refine (cjoin_any (p : Int) Q G (sa : Int) (sb : Int) (sa : Int) (sb : Int) (by omega) (by omega) ⟨by omega, by omega⟩ ⟨by omega, by omega⟩ ⟨by omega, by omega⟩ ⟨by omega, by omega⟩ B _ HGr.out).mono ?_
        rw [HW3.out, HW4.out]
        rintro e x2 ⟨rfl, hb2⟩
        have HB3 := Lib.hid (bt HBr.out hb2)
        have HK3 := Lib.hid (HKr.out.below hb2)
        have HR3 := Lib.hid (HRr.out.below hb2)
        have HV3 := Lib.hid (HVr.out.below hb2)
        have HS3 := Lib.hid (HSr.out.below hb2)
        clear hb2
        clear k0 k1 k2 s0 s1 v0 v1 r0 r1 rf0 rf1 vf0 vf1 sf0 sf1
        obtain ⟨k0, k1, k2, _⟩ := HK3.out
        obtain ⟨s0, s1, sf⟩ := HS3.out
        have sf0 := sf 0
        have sf1 := sf 1
        clear sf
        obtain ⟨v0, v1, vf⟩ := HV3.out
        have vf0 := vf 0
        have vf1 := vf 1
        clear vf
        obtain ⟨r0, r1, rf⟩ := HR3.out
        have rf0 := rf 0
        have rf1 := rf 1
        clear rf
        go_wp2
        go_roundw
        case rel => exact ⟨n / 2, ra, rb, n3, n4, x2.heap.size, by omega, by simp, rfl, ⟨l1, l2, m3, m4⟩, (by rw [HEA.out, Num.pw_even (by omega) hn0, HQ3.out]), (by rw [HEB.out, Num.pw_even (by omega) hn0, HQ4.out]), (by have := HV3.out.lt; have := HS3.out.lt; omega), bt (set_below HB3.out bk (by omega) (.int .i64 (n3 : Int)) (.int .i64 (n4 : Int))) (ba _ _), B3.below ((HK3.out.other ⟨bk, 0, none⟩ (.int .i64 (n3 : Int)) (show bk ≠ w.heap.size from by omega)).other ⟨bk, 1, none⟩ (.int .i64 (n4 : Int)) (show bk ≠ w.heap.size from by omega)) (ba _ _), C2.below ((HR3.out.other ⟨bk, 0, none⟩ (.int .i64 (n3 : Int)) (show bk ≠ w.heap.size + 1 + 1 from by omega)).other ⟨bk, 1, none⟩ (.int .i64 (n4 : Int)) (show bk ≠ w.heap.size + 1 + 1 from by omega)) (ba _ _), C2.below ((HV3.out.other ⟨bk, 0, none⟩ (.int .i64 (n3 : Int)) (show bk ≠ w.heap.size + 1 + 1 + 1 from by omega)).other ⟨bk, 1, none⟩ (.int .i64 (n4 : Int)) (show bk ≠ w.heap.size + 1 + 1 + 1 from by omega)) (ba _ _), c2_at _ _ (by simp) _ _ _⟩
        case measure => simp only [intOf]; omega

end Go.Proofs.Ytglfbhkdmkneoaa

/- ElGamal: the program's functions on single ciphertexts. -/
namespace Go.Proofs.Ytglfbhkdmkneoaa
open Go.RowKit

/-- EncryptExp's condition and what it answers. -/
def eeB (P Q G key v r : Int) : Bool := keyB P Q G v && encB P Q G key (Num.pow G v P) r
def eeA (P Q G key v r : Int) : Int := if keyB P Q G v then encA P Q G key (Num.pow G v P) r else 0
def eeM (P Q G key v r : Int) : Int := if keyB P Q G v then encM P Q G key (Num.pow G v P) r else 0
theorem ee_on {P Q G key v r : Int} (h : keyB P Q G v = true) : eeB P Q G key v r = encB P Q G key (Num.pow G v P) r ∧ eeA P Q G key v r = encA P Q G key (Num.pow G v P) r ∧ eeM P Q G key v r = encM P Q G key (Num.pow G v P) r := by simp [eeB, eeA, eeM, h]
theorem ee_off {P Q G key v r : Int} (h : keyB P Q G v = false) : eeB P Q G key v r = false ∧ eeA P Q G key v r = 0 ∧ eeM P Q G key v r = 0 := by simp [eeB, eeA, eeM, h]
theorem key_val {P Q G s : Int} (h : keyB P Q G s = true) : keyV P Q G s = Num.pow G s P := by simp [keyV, h]
theorem key_off {P Q G s : Int} (h : keyB P Q G s = false) : keyV P Q G s = 0 := by simp [keyV, h]

theorem field_jf (B : Nat) (W : World) : (Instr.field 112 (kv B) 1).run Try.prog W = .ok (jf B) W := by kernel_rfl

/-- Reencrypt's answers. -/
def rrA (P Q G key a b r : Int) : Int := if reB P Q G key a b r then reA P G a r else 0
def rrM (P Q G key a b r : Int) : Int := if reB P Q G key a b r then reM P key b r else 0
theorem rr_off {P Q G key a b r : Int} (h : reB P Q G key a b r = false) : rrA P Q G key a b r = 0 ∧ rrM P Q G key a b r = 0 := by simp [rrA, rrM, h]
theorem rr_on {P Q G key a b r : Int} (h : reB P Q G key a b r = true) : rrA P Q G key a b r = reA P G a r ∧ rrM P Q G key a b r = reM P key b r := by simp [rrA, rrM, h]
theorem enc_rng {P Q G key r : Int} (h : encB P Q G key 1 r = true) : (0 ≤ encA P Q G key 1 r ∧ encA P Q G key 1 r < P) ∧ 0 ≤ encM P Q G key 1 r ∧ encM P Q G key 1 r < P := by
  have h' := encB_true.1 h
  have hm := good_mo h'.1.1.1
  rw [encM_one h, (enc_on h).1]
  exact ⟨pow_lt G r P hm.1.1, pow_lt key r P hm.1.1⟩

end Go.Proofs.Ytglfbhkdmkneoaa

