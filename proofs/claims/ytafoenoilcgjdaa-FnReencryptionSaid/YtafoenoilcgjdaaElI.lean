/- ElGamal: the reference's functions on single ciphertexts. -/
import Derived.Test.YtafoenoilcgjdaaElH
namespace Go.Proofs.Ytafoenoilcgjdaa
open Go.RowKit


theorem exs_one (Q r : Int) : allIn [r] 0 (Q - 1) = exB Q r := by simp [allIn, exB]
theorem exs_two (Q v r : Int) : allIn [v, r] 0 (Q - 1) = (exB Q v && exB Q r) := by simp [allIn, exB]
theorem cs_one (P Q a b : Int) : csB P Q [a, b] = cipB P Q a b := by unfold csB; rw [cipB_two]; rfl
def kgB (P Q G key : Int) : Bool := goodB P Q G && elB P Q key

set_option maxHeartbeats 1600000 in
theorem eGood_any (P Q G : Int) (hm : Mo P Q) (ad : Option Addr) (n cap : Nat) (zs : List Int) (hn : zs.length = n * 2) (hl : n ≤ 1152921504606846976) (w : World) (hz : IsInts w ad zs) :
    Calls Try.prog 82 #[gv P Q G, .slice ad n cap] w fun e w' => e = .returned (.bool (csB P Q zs)) ∧ Below w.heap.size w w' := by
  have HN := Lib.hid hn
  by_cases h24 : n ≤ 24
  · have h2i : (n : Int) ≤ 24 := by omega
    have hr : csB P Q zs = allEl P Q zs := by unfold csB; rw [decide_eq_true (by omega)]; rfl
    rw [hr]
    clear hr hn
    go_enter Try.func82, Try.ntmps82
    go_wp2
    go_loopw [12] (fun K wr => ∃ k : Nat, k ≤ n ∧ K = .int .i64 k ∧ allEl P Q zs = allEl P Q (zs.drop (k * 2)) ∧ Below w.heap.size w wr ∧ GR wr w.heap.size P Q G) (fun K _ => n - (intOf K).toNat)
    case atStart => exact ⟨0, Nat.zero_le _, rfl, by simp, ba _ _, gr_new _ _ _ _ _⟩
    case round =>
      obtain ⟨k, hk, rfl, he, hbel, hgr⟩ := hrel
      by_cases hkn : k < n
      · obtain ⟨b, off, p, q, rfl, hb, hc1, hc2, hd⟩ := (hz.below hbel (Nat.le_refl _)).pair hkn HN.out
        have HS := Lib.hid (cs_step hd he)
        have HB := Lib.hid hbel
        have HGa := Lib.hid (hgr.below (ba wr (.cells #[.int .i64 p, .int .i64 q] 61)))
        obtain ⟨g0, g1, g2⟩ := HGa.out
        have hs : (wr.alloc (.cells #[.int .i64 p, .int .i64 q] 61)).heap.size = wr.heap.size + 1 := by simp
        have HL := Lib.hid (ints_spot7 (wr.alloc (.cells #[.int .i64 p, .int .i64 q] 61)) (wr.heap.size + 1) hs [p, q] 3)
        clear he hd hbel hgr hs
        cases hi' : cipB P Q p q
        · have HI := Lib.hid ((cipB_two P Q p q).trans hi')
          have HF := Lib.hid hi'
          clear hi'
          go_wp2_with fail
          refine (gIs_any P Q G hm _ 2 2 [p, q] rfl (by decide) _ HL.out).mono ?_
          rintro e w1 ⟨rfl, hb1⟩
          rw [HI.out]
          have HB1 := Lib.hid (bt (bt (bt HB.out (ba _ _)) (ba _ _)) hb1)
          clear hb1
          go_wp2
          go_ret
          exact ⟨by rw [HS.out.2 HF.out]; rfl, HB1.out⟩
        · have HI := Lib.hid ((cipB_two P Q p q).trans hi')
          have HF := Lib.hid hi'
          clear hi'
          go_wp2_with fail
          refine (gIs_any P Q G hm _ 2 2 [p, q] rfl (by decide) _ HL.out).mono ?_
          rintro e w1 ⟨rfl, hb1⟩
          rw [HI.out]
          have HB1 := Lib.hid (bt (bt (bt HB.out (ba _ _)) (ba _ _)) hb1)
          have HG1 := Lib.hid ((HGa.out.below (ba _ _)).below hb1)
          clear hb1 g0 g1 g2
          go_wp2
          go_roundw
          case rel => exact ⟨k + 1, by omega, by go_num, HS.out.1 HF.out, HB1.out, HG1.out⟩
          case measure => simp only [intOf]; omega
      · have HE := Lib.hid he
        have HB := Lib.hid hbel
        clear he hbel
        go_wp2
        go_ret
        refine ⟨?_, HB.out⟩
        rw [HE.out, List.drop_of_length_le (by rw [HN.out]; omega)]; rfl
  · have h2i : (24 : Int) < (n : Int) := by omega
    have hr : csB P Q zs = false := by unfold csB; rw [decide_eq_false (by omega)]; rfl
    rw [hr]
    clear hr
    go_enter Try.func82, Try.ntmps82
    go_wp2
    go_ret
    exact ⟨rfl, ba _ _⟩

theorem eKey_any (P Q G key : Int) (w : World) :
    Calls Try.prog 81 #[gv P Q G, .int .i64 key] w fun e w' => e = .returned (.bool (kgB P Q G key)) ∧ Below w.heap.size w w' := by
  cases h1 : goodB P Q G
  · have e1 : kgB P Q G key = false := by simp [kgB, h1]
    rw [e1]
    have H1 := Lib.hid h1
    clear e1 h1
    have G_0 := Lib.hid (gr_at w (w.heap.size) (by simp) P Q G 27)
    have HB_0 := Lib.hid (show Below w.heap.size w (w.alloc (.cells #[.int .i64 P, .int .i64 Q, .int .i64 G] 27)) from ba _ _)
    go_enter Try.func81, Try.ntmps81
    go_wp2_with fail
    refine (l2Good_any _ _ _ _).mono ?_
    rw [H1.out]
    rintro e v1 ⟨rfl, hb⟩
    have HB_1 := Lib.hid (bt HB_0.out hb)
    have G_1 := Lib.hid (G_0.out.below hb)
    clear hb
    obtain ⟨gG0, gG1, gG2⟩ := G_1.out
    go_wp2
    go_ret
    exact ⟨rfl, HB_1.out⟩
  · have e1 : kgB P Q G key = allEl P Q [key] := by simp [kgB, h1, allEl]
    have hmo := good_mo h1
    rw [e1]
    have H1 := Lib.hid h1
    clear e1 h1
    have G_0 := Lib.hid (gr_at w (w.heap.size) (by simp) P Q G 27)
    have HB_0 := Lib.hid (show Below w.heap.size w (w.alloc (.cells #[.int .i64 P, .int .i64 Q, .int .i64 G] 27)) from ba _ _)
    go_enter Try.func81, Try.ntmps81
    go_wp2_with fail
    refine (l2Good_any _ _ _ _).mono ?_
    rw [H1.out]
    rintro e v1 ⟨rfl, hb⟩
    have HB_1 := Lib.hid (bt HB_0.out hb)
    have G_1 := Lib.hid (G_0.out.below hb)
    clear hb
    obtain ⟨gG0, gG1, gG2⟩ := G_1.out
    go_wp2_with fail
    refine (gIs_any P Q G hmo _ 1 1 [key] rfl (by decide) _ (ints_lit v1 [key] 3)).mono ?_
    rintro e v2 ⟨rfl, hbl⟩
    have hb := bt (ba v1 (.cells #[.int .i64 key] 3)) hbl
    clear hbl
    have HB_2 := Lib.hid (bt HB_1.out hb)
    have G_2 := Lib.hid (G_1.out.below hb)
    clear hb
    clear gG0 gG1 gG2
    obtain ⟨gG0, gG1, gG2⟩ := G_2.out
    go_wp2
    go_ret
    exact ⟨rfl, HB_2.out⟩

set_option maxRecDepth 100000 in
set_option maxHeartbeats 3200000 in
theorem ePow_any (P Q G a b x : Int) (hP : 2 ≤ P ∧ P ≤ 2000000000) (hQ2 : 2 ≤ Q) (hQr : Q ≤ 2000000000) (ha : 0 ≤ a ∧ a < P) (hb : 0 ≤ b ∧ b < P) (hx : 0 ≤ x ∧ x < Q) (w : World) :
    Calls Try.prog 90 #[gv P Q G, cv a b, .int .i64 x] w fun e w' => e = .returned (cv (Num.pow a x P) (Num.pow b x P)) ∧ Below w.heap.size w w' := by
  have G_0 := Lib.hid (((gr_at w (w.heap.size) (by simp) P Q G 27).below (ba (w.alloc (.cells #[.int .i64 P, .int .i64 Q, .int .i64 G] 27)) (.cells #[.int .i64 a, .int .i64 b] 61))).below (ba ((w.alloc (.cells #[.int .i64 P, .int .i64 Q, .int .i64 G] 27)).alloc (.cells #[.int .i64 a, .int .i64 b] 61)) (.cells #[.int .i64 0, .int .i64 0] 61)))
  have C_0 := Lib.hid ((c2_at (w.alloc (.cells #[.int .i64 P, .int .i64 Q, .int .i64 G] 27)) (w.heap.size + 1) (by simp) a b 61).below (ba ((w.alloc (.cells #[.int .i64 P, .int .i64 Q, .int .i64 G] 27)).alloc (.cells #[.int .i64 a, .int .i64 b] 61)) (.cells #[.int .i64 0, .int .i64 0] 61)))
  have R_0 := Lib.hid (c2_at ((w.alloc (.cells #[.int .i64 P, .int .i64 Q, .int .i64 G] 27)).alloc (.cells #[.int .i64 a, .int .i64 b] 61)) (w.heap.size + 1 + 1) (by simp) 0 0 61)
  have HB_0 := Lib.hid (show Below w.heap.size w (((w.alloc (.cells #[.int .i64 P, .int .i64 Q, .int .i64 G] 27)).alloc (.cells #[.int .i64 a, .int .i64 b] 61)).alloc (.cells #[.int .i64 0, .int .i64 0] 61)) from bt (bt (ba _ _) (ba _ _)) (ba _ _))
  go_enter Try.func90, Try.ntmps90
  go_wp2_with fail
  obtain ⟨c0, c1, c2⟩ := G_0.out
  obtain ⟨a0, a1, _⟩ := C_0.out
  go_region_held3 (fun w' => w'.cell? ⟨w.heap.size, 0, none⟩ = some (.int .i64 P) ∧ w'.cell? ⟨w.heap.size, 1, none⟩ = some (.int .i64 Q) ∧ w'.cell? ⟨w.heap.size, 2, none⟩ = some (.int .i64 G) ∧ w'.cell? ⟨w.heap.size + 1, 0, none⟩ = some (.int .i64 a) ∧ w'.cell? ⟨w.heap.size + 1, 1, none⟩ = some (.int .i64 b)) (first | with_reducible exact ⟨x0, x1, x2, y0, y1⟩ | with_reducible exact ⟨c0, c1, c2, a0, a1⟩ | exact ⟨(gr_pair HGp.out (by omega) _ _).1, (gr_pair HGp.out (by omega) _ _).2.1, (gr_pair HGp.out (by omega) _ _).2.2, cell_pair y0 (by omega) _ _, cell_pair y1 (by omega) _ _⟩ | exact ⟨c0, c1, c2, a0, a1⟩) ((first
    | (go_at_call 79; refine (gExp_any P Q G _ x (by omega) (by omega) hx.1 hx.2 hP.1 hP.2 hQ2 hQr _).mono ?_; rintro e vp ⟨rfl, hp⟩; have HBp := Lib.hid (show Below w.heap.size w vp from by first | exact bt HBp.out hp | exact bt_drop HB_0.out hp); have HGp := Lib.hid (show GR vp w.heap.size P Q G from by first | exact HGp.out.below hp | exact gr_drop G_0.out hp); have HCp := Lib.hid (show C2 vp (w.heap.size + 1) a b from by first | exact HCp.out.below hp | exact c2_drop C_0.out hp); have HRp := Lib.hid (show C2 vp (w.heap.size + 1 + 1) 0 0 from by first | exact HRp.out.below hp | exact c2_drop R_0.out hp); clear hp; obtain ⟨x0, x1, x2⟩ := HGp.out; obtain ⟨y0, y1, _⟩ := HCp.out; obtain ⟨d0, d1, df⟩ := HRp.out; have df0 := df 0; have df1 := df 1; clear df)
    | fail))
  all_goals (
    go_wp2
    (try simp only [Exit.inBlock, Exit.then])
    refine bodyPost_ret (v := cv (Num.pow a x P) (Num.pow b x P)) ?_ rfl ⟨rfl, ?_⟩
    · rw [results_cell_one rfl]; go_simp
    · first | exact set_below HBp.out (w.heap.size + 1 + 1) (by omega) _ _ | exact set_below HBp.out.drew (w.heap.size + 1 + 1) (by omega) _ _)

set_option maxHeartbeats 1600000 in
theorem sPowCipher_any (P Q G a b x : Int) (w : World) :
    Calls Try.prog 43 #[gv P Q G, cv a b, .int .i64 x] w fun e w' => e = .returned (.tuple #[cv (pcA P Q G a b x) (pcM P Q G a b x), .bool (pcB P Q G a b x)]) ∧ Below w.heap.size w w' := by
  cases h1 : goodB P Q G
  · skip
    have e0 : pcB P Q G a b x = false := by simp [pcB, vcB, h1]
    have e1 : pcA P Q G a b x = 0 := by simp [pcA, e0]
    have e2 : pcM P Q G a b x = 0 := by simp [pcM, e0]
    rw [e0, e1, e2]
    clear e0 e1 e2
    have H1 := Lib.hid h1
    clear h1
    have G_0 := Lib.hid (((gr_at w (w.heap.size) (by simp) P Q G 27).below (ba (w.alloc (.cells #[.int .i64 P, .int .i64 Q, .int .i64 G] 27)) (.cells #[.int .i64 a, .int .i64 b] 61))).below (ba ((w.alloc (.cells #[.int .i64 P, .int .i64 Q, .int .i64 G] 27)).alloc (.cells #[.int .i64 a, .int .i64 b] 61)) (.cells #[.int .i64 0, .int .i64 0] 61)))
    have C_0 := Lib.hid ((c2_at (w.alloc (.cells #[.int .i64 P, .int .i64 Q, .int .i64 G] 27)) (w.heap.size + 1) (by simp) a b 61).below (ba ((w.alloc (.cells #[.int .i64 P, .int .i64 Q, .int .i64 G] 27)).alloc (.cells #[.int .i64 a, .int .i64 b] 61)) (.cells #[.int .i64 0, .int .i64 0] 61)))
    have R_0 := Lib.hid (c2_at ((w.alloc (.cells #[.int .i64 P, .int .i64 Q, .int .i64 G] 27)).alloc (.cells #[.int .i64 a, .int .i64 b] 61)) (w.heap.size + 1 + 1) (by simp) 0 0 61)
    have HB_0 := Lib.hid (show Below w.heap.size w (((w.alloc (.cells #[.int .i64 P, .int .i64 Q, .int .i64 G] 27)).alloc (.cells #[.int .i64 a, .int .i64 b] 61)).alloc (.cells #[.int .i64 0, .int .i64 0] 61)) from bt (bt (ba _ _) (ba _ _)) (ba _ _))
    go_enter Try.func43, Try.ntmps43
    go_wp2_with fail
    refine (l2Good_any _ _ _ _).mono ?_
    rw [H1.out]
    rintro e v1 ⟨rfl, hb⟩
    have HB_1 := Lib.hid (bt HB_0.out hb)
    have G_1 := Lib.hid (G_0.out.below hb)
    have C_1 := Lib.hid (C_0.out.below hb)
    have R_1 := Lib.hid (R_0.out.below hb)
    clear hb
    obtain ⟨gG0, gG1, gG2⟩ := G_1.out
    obtain ⟨cC0, cC1, cfC⟩ := C_1.out
    obtain ⟨rR0, rR1, rfR⟩ := R_1.out
    have rfR0 := rfR 0
    have rfR1 := rfR 1
    go_wp2
    (try simp only [Exit.inBlock, Exit.then])
    refine bodyPost_ret (v := .tuple #[cv 0 0, .bool false]) ?_ rfl ⟨rfl, ?_⟩
    · rw [results_cell_tmp rfl]; go_simp
    · first | exact HB_1.out | exact set_below HB_1.out (w.heap.size + 1 + 1) (by omega) _ _
  cases h2 : cipB P Q a b
  · skip
    have e0 : pcB P Q G a b x = false := by simp [pcB, vcB, h2]
    have e1 : pcA P Q G a b x = 0 := by simp [pcA, e0]
    have e2 : pcM P Q G a b x = 0 := by simp [pcM, e0]
    rw [e0, e1, e2]
    clear e0 e1 e2
    have hmo := good_mo h1
    have hP : 2 ≤ P ∧ P ≤ 2000000000 := hmo.1
    have hQr : 0 ≤ Q ∧ Q ≤ 2000000000 := hmo.2
    have hQ2 : 2 ≤ Q := by have := goodB_true.1 h1; omega
    have hG := el_rng (good_el h1)
    have H1 := Lib.hid h1
    have H2 := Lib.hid h2
    clear h1 h2
    have G_0 := Lib.hid (((gr_at w (w.heap.size) (by simp) P Q G 27).below (ba (w.alloc (.cells #[.int .i64 P, .int .i64 Q, .int .i64 G] 27)) (.cells #[.int .i64 a, .int .i64 b] 61))).below (ba ((w.alloc (.cells #[.int .i64 P, .int .i64 Q, .int .i64 G] 27)).alloc (.cells #[.int .i64 a, .int .i64 b] 61)) (.cells #[.int .i64 0, .int .i64 0] 61)))
    have C_0 := Lib.hid ((c2_at (w.alloc (.cells #[.int .i64 P, .int .i64 Q, .int .i64 G] 27)) (w.heap.size + 1) (by simp) a b 61).below (ba ((w.alloc (.cells #[.int .i64 P, .int .i64 Q, .int .i64 G] 27)).alloc (.cells #[.int .i64 a, .int .i64 b] 61)) (.cells #[.int .i64 0, .int .i64 0] 61)))
    have R_0 := Lib.hid (c2_at ((w.alloc (.cells #[.int .i64 P, .int .i64 Q, .int .i64 G] 27)).alloc (.cells #[.int .i64 a, .int .i64 b] 61)) (w.heap.size + 1 + 1) (by simp) 0 0 61)
    have HB_0 := Lib.hid (show Below w.heap.size w (((w.alloc (.cells #[.int .i64 P, .int .i64 Q, .int .i64 G] 27)).alloc (.cells #[.int .i64 a, .int .i64 b] 61)).alloc (.cells #[.int .i64 0, .int .i64 0] 61)) from bt (bt (ba _ _) (ba _ _)) (ba _ _))
    go_enter Try.func43, Try.ntmps43
    go_wp2_with fail
    refine (l2Good_any _ _ _ _).mono ?_
    rw [H1.out]
    rintro e v1 ⟨rfl, hb⟩
    have HB_1 := Lib.hid (bt HB_0.out hb)
    have G_1 := Lib.hid (G_0.out.below hb)
    have C_1 := Lib.hid (C_0.out.below hb)
    have R_1 := Lib.hid (R_0.out.below hb)
    clear hb
    obtain ⟨gG0, gG1, gG2⟩ := G_1.out
    obtain ⟨cC0, cC1, cfC⟩ := C_1.out
    obtain ⟨rR0, rR1, rfR⟩ := R_1.out
    have rfR0 := rfR 0
    have rfR1 := rfR 1
    go_wp2_with fail
    refine (eGood_any P Q G hmo _ 1 1 [a, b] rfl (by decide) _ (ints_lit v1 [a, b] 61)).mono ?_
    rw [(cs_one P Q a b).trans H2.out]
    rintro e v2 ⟨rfl, hbl⟩
    have hb := bt (ba v1 (.cells #[.int .i64 a, .int .i64 b] 61)) hbl
    clear hbl
    have HB_2 := Lib.hid (bt HB_1.out hb)
    have G_2 := Lib.hid (G_1.out.below hb)
    have C_2 := Lib.hid (C_1.out.below hb)
    have R_2 := Lib.hid (R_1.out.below hb)
    clear hb
    clear gG0 gG1 gG2 cC0 cC1 cfC rR0 rR1 rfR rfR0 rfR1
    obtain ⟨gG0, gG1, gG2⟩ := G_2.out
    obtain ⟨cC0, cC1, cfC⟩ := C_2.out
    obtain ⟨rR0, rR1, rfR⟩ := R_2.out
    have rfR0 := rfR 0
    have rfR1 := rfR 1
    go_wp2
    (try simp only [Exit.inBlock, Exit.then])
    refine bodyPost_ret (v := .tuple #[cv 0 0, .bool false]) ?_ rfl ⟨rfl, ?_⟩
    · rw [results_cell_tmp rfl]; go_simp
    · first | exact HB_2.out | exact set_below HB_2.out (w.heap.size + 1 + 1) (by omega) _ _
  cases h3 : exB Q x
  · skip
    have e0 : pcB P Q G a b x = false := by simp [pcB, vcB, h3]
    have e1 : pcA P Q G a b x = 0 := by simp [pcA, e0]
    have e2 : pcM P Q G a b x = 0 := by simp [pcM, e0]
    rw [e0, e1, e2]
    clear e0 e1 e2
    have hmo := good_mo h1
    have hP : 2 ≤ P ∧ P ≤ 2000000000 := hmo.1
    have hQr : 0 ≤ Q ∧ Q ≤ 2000000000 := hmo.2
    have hQ2 : 2 ≤ Q := by have := goodB_true.1 h1; omega
    have hG := el_rng (good_el h1)
    have hcp := Bool.and_eq_true_iff.1 (show (elB P Q a && elB P Q b) = true from h2)
    have ha := el_rng hcp.1
    have hbb := el_rng hcp.2
    clear hcp
    have H1 := Lib.hid h1
    have H2 := Lib.hid h2
    have H3 := Lib.hid h3
    clear h1 h2 h3
    have G_0 := Lib.hid (((gr_at w (w.heap.size) (by simp) P Q G 27).below (ba (w.alloc (.cells #[.int .i64 P, .int .i64 Q, .int .i64 G] 27)) (.cells #[.int .i64 a, .int .i64 b] 61))).below (ba ((w.alloc (.cells #[.int .i64 P, .int .i64 Q, .int .i64 G] 27)).alloc (.cells #[.int .i64 a, .int .i64 b] 61)) (.cells #[.int .i64 0, .int .i64 0] 61)))
    have C_0 := Lib.hid ((c2_at (w.alloc (.cells #[.int .i64 P, .int .i64 Q, .int .i64 G] 27)) (w.heap.size + 1) (by simp) a b 61).below (ba ((w.alloc (.cells #[.int .i64 P, .int .i64 Q, .int .i64 G] 27)).alloc (.cells #[.int .i64 a, .int .i64 b] 61)) (.cells #[.int .i64 0, .int .i64 0] 61)))
    have R_0 := Lib.hid (c2_at ((w.alloc (.cells #[.int .i64 P, .int .i64 Q, .int .i64 G] 27)).alloc (.cells #[.int .i64 a, .int .i64 b] 61)) (w.heap.size + 1 + 1) (by simp) 0 0 61)
    have HB_0 := Lib.hid (show Below w.heap.size w (((w.alloc (.cells #[.int .i64 P, .int .i64 Q, .int .i64 G] 27)).alloc (.cells #[.int .i64 a, .int .i64 b] 61)).alloc (.cells #[.int .i64 0, .int .i64 0] 61)) from bt (bt (ba _ _) (ba _ _)) (ba _ _))
    go_enter Try.func43, Try.ntmps43
    go_wp2_with fail
    refine (l2Good_any _ _ _ _).mono ?_
    rw [H1.out]
    rintro e v1 ⟨rfl, hb⟩
    have HB_1 := Lib.hid (bt HB_0.out hb)
    have G_1 := Lib.hid (G_0.out.below hb)
    have C_1 := Lib.hid (C_0.out.below hb)
    have R_1 := Lib.hid (R_0.out.below hb)
    clear hb
    obtain ⟨gG0, gG1, gG2⟩ := G_1.out
    obtain ⟨cC0, cC1, cfC⟩ := C_1.out
    obtain ⟨rR0, rR1, rfR⟩ := R_1.out
    have rfR0 := rfR 0
    have rfR1 := rfR 1
    go_wp2_with fail
    refine (eGood_any P Q G hmo _ 1 1 [a, b] rfl (by decide) _ (ints_lit v1 [a, b] 61)).mono ?_
    rw [(cs_one P Q a b).trans H2.out]
    rintro e v2 ⟨rfl, hbl⟩
    have hb := bt (ba v1 (.cells #[.int .i64 a, .int .i64 b] 61)) hbl
    clear hbl
    have HB_2 := Lib.hid (bt HB_1.out hb)
    have G_2 := Lib.hid (G_1.out.below hb)
    have C_2 := Lib.hid (C_1.out.below hb)
    have R_2 := Lib.hid (R_1.out.below hb)
    clear hb
    clear gG0 gG1 gG2 cC0 cC1 cfC rR0 rR1 rfR rfR0 rfR1
    obtain ⟨gG0, gG1, gG2⟩ := G_2.out
    obtain ⟨cC0, cC1, cfC⟩ := C_2.out
    obtain ⟨rR0, rR1, rfR⟩ := R_2.out
    have rfR0 := rfR 0
    have rfR1 := rfR 1
    go_wp2_with fail
    refine (gExps_any P Q G hQr _ 1 1 [x] rfl (by decide) _ (ints_lit v2 [x] 3)).mono ?_
    rw [(exs_one Q x).trans H3.out]
    rintro e v3 ⟨rfl, hbl⟩
    have hb := bt (ba v2 (.cells #[.int .i64 x] 3)) hbl
    clear hbl
    have HB_3 := Lib.hid (bt HB_2.out hb)
    have G_3 := Lib.hid (G_2.out.below hb)
    have C_3 := Lib.hid (C_2.out.below hb)
    have R_3 := Lib.hid (R_2.out.below hb)
    clear hb
    clear gG0 gG1 gG2 cC0 cC1 cfC rR0 rR1 rfR rfR0 rfR1
    obtain ⟨gG0, gG1, gG2⟩ := G_3.out
    obtain ⟨cC0, cC1, cfC⟩ := C_3.out
    obtain ⟨rR0, rR1, rfR⟩ := R_3.out
    have rfR0 := rfR 0
    have rfR1 := rfR 1
    go_wp2
    (try simp only [Exit.inBlock, Exit.then])
    refine bodyPost_ret (v := .tuple #[cv 0 0, .bool false]) ?_ rfl ⟨rfl, ?_⟩
    · rw [results_cell_tmp rfl]; go_simp
    · first | exact HB_3.out | exact set_below HB_3.out (w.heap.size + 1 + 1) (by omega) _ _
  have e0 : pcB P Q G a b x = true := by simp [pcB, vcB, h1, h2, h3]
  have e1 : pcA P Q G a b x = Num.pow a x P := by simp [pcA, e0]
  have e2 : pcM P Q G a b x = Num.pow b x P := by simp [pcM, e0]
  rw [e0, e1, e2]
  clear e0 e1 e2
  have hmo := good_mo h1
  have hP : 2 ≤ P ∧ P ≤ 2000000000 := hmo.1
  have hQr : 0 ≤ Q ∧ Q ≤ 2000000000 := hmo.2
  have hQ2 : 2 ≤ Q := by have := goodB_true.1 h1; omega
  have hG := el_rng (good_el h1)
  have hcp := Bool.and_eq_true_iff.1 (show (elB P Q a && elB P Q b) = true from h2)
  have ha := el_rng hcp.1
  have hbb := el_rng hcp.2
  clear hcp
  have hr := exB_true.1 h3
  have H1 := Lib.hid h1
  have H2 := Lib.hid h2
  have H3 := Lib.hid h3
  clear h1 h2 h3
  have G_0 := Lib.hid (((gr_at w (w.heap.size) (by simp) P Q G 27).below (ba (w.alloc (.cells #[.int .i64 P, .int .i64 Q, .int .i64 G] 27)) (.cells #[.int .i64 a, .int .i64 b] 61))).below (ba ((w.alloc (.cells #[.int .i64 P, .int .i64 Q, .int .i64 G] 27)).alloc (.cells #[.int .i64 a, .int .i64 b] 61)) (.cells #[.int .i64 0, .int .i64 0] 61)))
  have C_0 := Lib.hid ((c2_at (w.alloc (.cells #[.int .i64 P, .int .i64 Q, .int .i64 G] 27)) (w.heap.size + 1) (by simp) a b 61).below (ba ((w.alloc (.cells #[.int .i64 P, .int .i64 Q, .int .i64 G] 27)).alloc (.cells #[.int .i64 a, .int .i64 b] 61)) (.cells #[.int .i64 0, .int .i64 0] 61)))
  have R_0 := Lib.hid (c2_at ((w.alloc (.cells #[.int .i64 P, .int .i64 Q, .int .i64 G] 27)).alloc (.cells #[.int .i64 a, .int .i64 b] 61)) (w.heap.size + 1 + 1) (by simp) 0 0 61)
  have HB_0 := Lib.hid (show Below w.heap.size w (((w.alloc (.cells #[.int .i64 P, .int .i64 Q, .int .i64 G] 27)).alloc (.cells #[.int .i64 a, .int .i64 b] 61)).alloc (.cells #[.int .i64 0, .int .i64 0] 61)) from bt (bt (ba _ _) (ba _ _)) (ba _ _))
  go_enter Try.func43, Try.ntmps43
  go_wp2_with fail
  refine (l2Good_any _ _ _ _).mono ?_
  rw [H1.out]
  rintro e v1 ⟨rfl, hb⟩
  have HB_1 := Lib.hid (bt HB_0.out hb)
  have G_1 := Lib.hid (G_0.out.below hb)
  have C_1 := Lib.hid (C_0.out.below hb)
  have R_1 := Lib.hid (R_0.out.below hb)
  clear hb
  obtain ⟨gG0, gG1, gG2⟩ := G_1.out
  obtain ⟨cC0, cC1, cfC⟩ := C_1.out
  obtain ⟨rR0, rR1, rfR⟩ := R_1.out
  have rfR0 := rfR 0
  have rfR1 := rfR 1
  go_wp2_with fail
  refine (eGood_any P Q G hmo _ 1 1 [a, b] rfl (by decide) _ (ints_lit v1 [a, b] 61)).mono ?_
  rw [(cs_one P Q a b).trans H2.out]
  rintro e v2 ⟨rfl, hbl⟩
  have hb := bt (ba v1 (.cells #[.int .i64 a, .int .i64 b] 61)) hbl
  clear hbl
  have HB_2 := Lib.hid (bt HB_1.out hb)
  have G_2 := Lib.hid (G_1.out.below hb)
  have C_2 := Lib.hid (C_1.out.below hb)
  have R_2 := Lib.hid (R_1.out.below hb)
  clear hb
  clear gG0 gG1 gG2 cC0 cC1 cfC rR0 rR1 rfR rfR0 rfR1
  obtain ⟨gG0, gG1, gG2⟩ := G_2.out
  obtain ⟨cC0, cC1, cfC⟩ := C_2.out
  obtain ⟨rR0, rR1, rfR⟩ := R_2.out
  have rfR0 := rfR 0
  have rfR1 := rfR 1
  go_wp2_with fail
  refine (gExps_any P Q G hQr _ 1 1 [x] rfl (by decide) _ (ints_lit v2 [x] 3)).mono ?_
  rw [(exs_one Q x).trans H3.out]
  rintro e v3 ⟨rfl, hbl⟩
  have hb := bt (ba v2 (.cells #[.int .i64 x] 3)) hbl
  clear hbl
  have HB_3 := Lib.hid (bt HB_2.out hb)
  have G_3 := Lib.hid (G_2.out.below hb)
  have C_3 := Lib.hid (C_2.out.below hb)
  have R_3 := Lib.hid (R_2.out.below hb)
  clear hb
  clear gG0 gG1 gG2 cC0 cC1 cfC rR0 rR1 rfR rfR0 rfR1
  obtain ⟨gG0, gG1, gG2⟩ := G_3.out
  obtain ⟨cC0, cC1, cfC⟩ := C_3.out
  obtain ⟨rR0, rR1, rfR⟩ := R_3.out
  have rfR0 := rfR 0
  have rfR1 := rfR 1
  go_wp2_with fail
  refine (ePow_any P Q G a b x hP hQ2 hQr.2 ha hbb hr _).mono ?_
  rintro e v4 ⟨rfl, hb⟩
  have HB_4 := Lib.hid (bt HB_3.out hb)
  have G_4 := Lib.hid (G_3.out.below hb)
  have C_4 := Lib.hid (C_3.out.below hb)
  have R_4 := Lib.hid (R_3.out.below hb)
  clear hb
  clear gG0 gG1 gG2 cC0 cC1 cfC rR0 rR1 rfR rfR0 rfR1
  obtain ⟨gG0, gG1, gG2⟩ := G_4.out
  obtain ⟨cC0, cC1, cfC⟩ := C_4.out
  obtain ⟨rR0, rR1, rfR⟩ := R_4.out
  have rfR0 := rfR 0
  have rfR1 := rfR 1
  go_wp2
  (try simp only [Exit.inBlock, Exit.then])
  refine bodyPost_ret (v := .tuple #[cv (Num.pow a x P) (Num.pow b x P), .bool true]) ?_ rfl ⟨rfl, ?_⟩
  · rw [results_cell_tmp rfl]; go_simp
  · first | exact HB_4.out | exact set_below HB_4.out (w.heap.size + 1 + 1) (by omega) _ _

end Go.Proofs.Ytafoenoilcgjdaa

